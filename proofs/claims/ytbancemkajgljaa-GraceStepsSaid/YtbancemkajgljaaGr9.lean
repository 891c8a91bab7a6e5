/- grace.Edge, and the reference's share and Edge: contracts. -/
import Derived.Test.YtbancemkajgljaaGr8
namespace Go.Proofs.Ytbancemkajgljaa
open Go.RowKit
set_option linter.unusedVariables false
set_option linter.unusedSimpArgs false

theorem share_facts (whole pct : Int) (hw : 1 ≤ whole) (hp : 1 ≤ pct ∧ pct ≤ 100) : 1 ≤ shareI whole pct ∧ shareI whole pct ≤ whole ∧ ∀ m, 0 ≤ m → (satNum m * 100 < satNum whole * satNum pct ↔ m < shareI whole pct) := by
  unfold shareI
  rw [show min pct 100 = pct by omega, show satNum whole = whole by unfold satNum; omega, show satNum pct = pct by unfold satNum; omega]
  have h1 : whole * 1 ≤ whole * pct := Int.mul_le_mul_of_nonneg_left hp.1 (by omega)
  have h2 : whole * pct ≤ whole * 100 := Int.mul_le_mul_of_nonneg_left hp.2 (by omega)
  generalize whole * pct = P at *
  refine ⟨by omega, by omega, fun m hm => ?_⟩
  rw [show satNum m = m by unfold satNum; omega]
  omega
theorem edgeF_bd (t : ThrV) (cap : Int) (hr : t.right = true) (ht : t.ok) (hk : InI cap) (h1 : 1 ≤ cap) : 1 ≤ edgeF t cap ∧ InI (edgeF t cap) := by
  obtain ⟨_, hp, _⟩ := ThrV.facts hr
  unfold edgeF
  rcases hp with ⟨p1, p2, p3⟩ | ⟨p1, p2⟩
  · rw [if_pos (by omega)]
    obtain ⟨q1, q2, _⟩ := share_facts cap t.pct h1 ⟨p1, p2⟩
    unfold InI at *; omega
  · rw [if_neg (by omega)]
    exact ⟨by omega, ht.2.2.1⟩
theorem sgE_in (c : CfgV) (l : List Bool) (s cap : Int) (hr : ∀ t ∈ c.L, t.right = true ∧ t.ok) (hk : InI cap) (h1 : 1 ≤ cap) : ∀ k, 0 ≤ sgE c l k s cap ∧ sgE c l k s cap ≤ 9223372036854775807 := by
  intro k
  unfold sgE
  have : ∀ (L : List (ThrV × Bool)) (m : Int), (∀ p ∈ L, p.1 ∈ c.L) → 0 ≤ m ∧ m ≤ 9223372036854775807 → 0 ≤ L.foldl (fun m p => if p.2 && p.1.sig == s then max m (edgeF p.1 cap) else m) m ∧ L.foldl (fun m p => if p.2 && p.1.sig == s then max m (edgeF p.1 cap) else m) m ≤ 9223372036854775807 := by
    intro L
    induction L with
    | nil => intro m _ hm; exact hm
    | cons p L ih =>
      intro m hL hm
      refine ih _ (fun q hq => hL q (List.mem_cons_of_mem _ hq)) ?_
      obtain ⟨h2, h3⟩ := hr _ (hL p List.mem_cons_self)
      obtain ⟨h4, h5⟩ := edgeF_bd p.1 cap h2 h3 hk h1
      unfold InI at h5
      dsimp only
      split <;> omega
  exact this _ 0 (fun p hp => (List.of_mem_zip (List.mem_of_mem_take (a := p) (by exact hp) : p ∈ c.L.zip l)).1) (by omega)
set_option maxRecDepth 100000 in
set_option maxHeartbeats 8000000 in
theorem gr_Edge (c : CfgV) (la : Option Addr) (lc : Nat) (l : List Bool) (s : Int) (w : World) (hc : Good c w) (hl : Bools w la c.tl lc l) (hs : s = 0 ∨ s = 1 ∨ s = 2) (h1 : 1 ≤ c.k0 ∧ 1 ≤ c.k1 ∧ 1 ≤ c.k2) : Calls Try.prog 24 #[.agg #[.int .i64 c.k0, .int .i64 c.k1, .int .i64 c.k2, .int .i64 c.a0, .int .i64 c.a1, .int .i64 c.a2, .slice c.ta c.tl c.tc, .int .i64 c.per, .int .i64 c.ret, .int .i64 c.age, .int .i64 c.dead], .slice la c.tl lc, .int .i64 s] w fun e w' => e = .returned (.int .i64 (sgE c l c.tl s (sel s c.k0 c.k1 c.k2))) ∧ Below w.heap.size w w' := by
  have hw : Below w.heap.size w w := Below.refl _ _
  have hbel := hw
  have hfew := hc.few
  obtain ⟨hbd1, hbd2⟩ := hc.bd
  obtain ⟨hll, hlc1, hlc2⟩ := hl.bounds
  have hck := hc.ck
  have HLL := Lib.hid hll
  have HC := Lib.hid hc
  have HLB := Lib.hid hl
  clear hc hl
  rcases hs with rfl | rfl | rfl
  · rw [show sel 0 c.k0 c.k1 c.k2 = c.k0 from rfl]
    have hkI : InI c.k0 := by first | exact hck.1 | exact hck.2.1 | exact hck.2.2
    have hk1 : 1 ≤ c.k0 := by omega
    have HKI := Lib.hid (And.intro hkI hk1)
    clear hck h1 hkI hk1
    go_enter Try.func24, Try.ntmps24
    go_upto_region 1 with fail
    have cc0 : (w.alloc (.cells #[.int .i64 c.k0, .int .i64 c.k1, .int .i64 c.k2, .int .i64 c.a0, .int .i64 c.a1, .int .i64 c.a2, .slice c.ta c.tl c.tc, .int .i64 c.per, .int .i64 c.ret, .int .i64 c.age, .int .i64 c.dead] 25)).cell? ⟨w.heap.size, 0, none⟩ = some (.int .i64 c.k0) := by first | (simp; done) | (rw [World.cell?_alloc_at _ _ _ _ (by simp)]; rfl) | (rw [World.cell?_alloc_past _ _ _ (by simp <;> omega), World.cell?_alloc_at _ _ _ _ (by simp)]; rfl) | (rw [World.cell?_alloc_past _ _ _ (by simp <;> omega), World.cell?_alloc_past _ _ _ (by simp <;> omega), World.cell?_alloc_at _ _ _ _ (by simp)]; rfl)
    have cc1 : (w.alloc (.cells #[.int .i64 c.k0, .int .i64 c.k1, .int .i64 c.k2, .int .i64 c.a0, .int .i64 c.a1, .int .i64 c.a2, .slice c.ta c.tl c.tc, .int .i64 c.per, .int .i64 c.ret, .int .i64 c.age, .int .i64 c.dead] 25)).cell? ⟨w.heap.size, 1, none⟩ = some (.int .i64 c.k1) := by first | (simp; done) | (rw [World.cell?_alloc_at _ _ _ _ (by simp)]; rfl) | (rw [World.cell?_alloc_past _ _ _ (by simp <;> omega), World.cell?_alloc_at _ _ _ _ (by simp)]; rfl) | (rw [World.cell?_alloc_past _ _ _ (by simp <;> omega), World.cell?_alloc_past _ _ _ (by simp <;> omega), World.cell?_alloc_at _ _ _ _ (by simp)]; rfl)
    have cc2 : (w.alloc (.cells #[.int .i64 c.k0, .int .i64 c.k1, .int .i64 c.k2, .int .i64 c.a0, .int .i64 c.a1, .int .i64 c.a2, .slice c.ta c.tl c.tc, .int .i64 c.per, .int .i64 c.ret, .int .i64 c.age, .int .i64 c.dead] 25)).cell? ⟨w.heap.size, 2, none⟩ = some (.int .i64 c.k2) := by first | (simp; done) | (rw [World.cell?_alloc_at _ _ _ _ (by simp)]; rfl) | (rw [World.cell?_alloc_past _ _ _ (by simp <;> omega), World.cell?_alloc_at _ _ _ _ (by simp)]; rfl) | (rw [World.cell?_alloc_past _ _ _ (by simp <;> omega), World.cell?_alloc_past _ _ _ (by simp <;> omega), World.cell?_alloc_at _ _ _ _ (by simp)]; rfl)
    have cc3 : (w.alloc (.cells #[.int .i64 c.k0, .int .i64 c.k1, .int .i64 c.k2, .int .i64 c.a0, .int .i64 c.a1, .int .i64 c.a2, .slice c.ta c.tl c.tc, .int .i64 c.per, .int .i64 c.ret, .int .i64 c.age, .int .i64 c.dead] 25)).cell? ⟨w.heap.size, 3, none⟩ = some (.int .i64 c.a0) := by first | (simp; done) | (rw [World.cell?_alloc_at _ _ _ _ (by simp)]; rfl) | (rw [World.cell?_alloc_past _ _ _ (by simp <;> omega), World.cell?_alloc_at _ _ _ _ (by simp)]; rfl) | (rw [World.cell?_alloc_past _ _ _ (by simp <;> omega), World.cell?_alloc_past _ _ _ (by simp <;> omega), World.cell?_alloc_at _ _ _ _ (by simp)]; rfl)
    have cc4 : (w.alloc (.cells #[.int .i64 c.k0, .int .i64 c.k1, .int .i64 c.k2, .int .i64 c.a0, .int .i64 c.a1, .int .i64 c.a2, .slice c.ta c.tl c.tc, .int .i64 c.per, .int .i64 c.ret, .int .i64 c.age, .int .i64 c.dead] 25)).cell? ⟨w.heap.size, 4, none⟩ = some (.int .i64 c.a1) := by first | (simp; done) | (rw [World.cell?_alloc_at _ _ _ _ (by simp)]; rfl) | (rw [World.cell?_alloc_past _ _ _ (by simp <;> omega), World.cell?_alloc_at _ _ _ _ (by simp)]; rfl) | (rw [World.cell?_alloc_past _ _ _ (by simp <;> omega), World.cell?_alloc_past _ _ _ (by simp <;> omega), World.cell?_alloc_at _ _ _ _ (by simp)]; rfl)
    have cc5 : (w.alloc (.cells #[.int .i64 c.k0, .int .i64 c.k1, .int .i64 c.k2, .int .i64 c.a0, .int .i64 c.a1, .int .i64 c.a2, .slice c.ta c.tl c.tc, .int .i64 c.per, .int .i64 c.ret, .int .i64 c.age, .int .i64 c.dead] 25)).cell? ⟨w.heap.size, 5, none⟩ = some (.int .i64 c.a2) := by first | (simp; done) | (rw [World.cell?_alloc_at _ _ _ _ (by simp)]; rfl) | (rw [World.cell?_alloc_past _ _ _ (by simp <;> omega), World.cell?_alloc_at _ _ _ _ (by simp)]; rfl) | (rw [World.cell?_alloc_past _ _ _ (by simp <;> omega), World.cell?_alloc_past _ _ _ (by simp <;> omega), World.cell?_alloc_at _ _ _ _ (by simp)]; rfl)
    have cc6 : (w.alloc (.cells #[.int .i64 c.k0, .int .i64 c.k1, .int .i64 c.k2, .int .i64 c.a0, .int .i64 c.a1, .int .i64 c.a2, .slice c.ta c.tl c.tc, .int .i64 c.per, .int .i64 c.ret, .int .i64 c.age, .int .i64 c.dead] 25)).cell? ⟨w.heap.size, 6, none⟩ = some (.slice c.ta c.tl c.tc) := by first | (simp; done) | (rw [World.cell?_alloc_at _ _ _ _ (by simp)]; rfl) | (rw [World.cell?_alloc_past _ _ _ (by simp <;> omega), World.cell?_alloc_at _ _ _ _ (by simp)]; rfl) | (rw [World.cell?_alloc_past _ _ _ (by simp <;> omega), World.cell?_alloc_past _ _ _ (by simp <;> omega), World.cell?_alloc_at _ _ _ _ (by simp)]; rfl)
    have cc7 : (w.alloc (.cells #[.int .i64 c.k0, .int .i64 c.k1, .int .i64 c.k2, .int .i64 c.a0, .int .i64 c.a1, .int .i64 c.a2, .slice c.ta c.tl c.tc, .int .i64 c.per, .int .i64 c.ret, .int .i64 c.age, .int .i64 c.dead] 25)).cell? ⟨w.heap.size, 7, none⟩ = some (.int .i64 c.per) := by first | (simp; done) | (rw [World.cell?_alloc_at _ _ _ _ (by simp)]; rfl) | (rw [World.cell?_alloc_past _ _ _ (by simp <;> omega), World.cell?_alloc_at _ _ _ _ (by simp)]; rfl) | (rw [World.cell?_alloc_past _ _ _ (by simp <;> omega), World.cell?_alloc_past _ _ _ (by simp <;> omega), World.cell?_alloc_at _ _ _ _ (by simp)]; rfl)
    have cc8 : (w.alloc (.cells #[.int .i64 c.k0, .int .i64 c.k1, .int .i64 c.k2, .int .i64 c.a0, .int .i64 c.a1, .int .i64 c.a2, .slice c.ta c.tl c.tc, .int .i64 c.per, .int .i64 c.ret, .int .i64 c.age, .int .i64 c.dead] 25)).cell? ⟨w.heap.size, 8, none⟩ = some (.int .i64 c.ret) := by first | (simp; done) | (rw [World.cell?_alloc_at _ _ _ _ (by simp)]; rfl) | (rw [World.cell?_alloc_past _ _ _ (by simp <;> omega), World.cell?_alloc_at _ _ _ _ (by simp)]; rfl) | (rw [World.cell?_alloc_past _ _ _ (by simp <;> omega), World.cell?_alloc_past _ _ _ (by simp <;> omega), World.cell?_alloc_at _ _ _ _ (by simp)]; rfl)
    have cc9 : (w.alloc (.cells #[.int .i64 c.k0, .int .i64 c.k1, .int .i64 c.k2, .int .i64 c.a0, .int .i64 c.a1, .int .i64 c.a2, .slice c.ta c.tl c.tc, .int .i64 c.per, .int .i64 c.ret, .int .i64 c.age, .int .i64 c.dead] 25)).cell? ⟨w.heap.size, 9, none⟩ = some (.int .i64 c.age) := by first | (simp; done) | (rw [World.cell?_alloc_at _ _ _ _ (by simp)]; rfl) | (rw [World.cell?_alloc_past _ _ _ (by simp <;> omega), World.cell?_alloc_at _ _ _ _ (by simp)]; rfl) | (rw [World.cell?_alloc_past _ _ _ (by simp <;> omega), World.cell?_alloc_past _ _ _ (by simp <;> omega), World.cell?_alloc_at _ _ _ _ (by simp)]; rfl)
    have cc10 : (w.alloc (.cells #[.int .i64 c.k0, .int .i64 c.k1, .int .i64 c.k2, .int .i64 c.a0, .int .i64 c.a1, .int .i64 c.a2, .slice c.ta c.tl c.tc, .int .i64 c.per, .int .i64 c.ret, .int .i64 c.age, .int .i64 c.dead] 25)).cell? ⟨w.heap.size, 10, none⟩ = some (.int .i64 c.dead) := by first | (simp; done) | (rw [World.cell?_alloc_at _ _ _ _ (by simp)]; rfl) | (rw [World.cell?_alloc_past _ _ _ (by simp <;> omega), World.cell?_alloc_at _ _ _ _ (by simp)]; rfl) | (rw [World.cell?_alloc_past _ _ _ (by simp <;> omega), World.cell?_alloc_past _ _ _ (by simp <;> omega), World.cell?_alloc_at _ _ _ _ (by simp)]; rfl)
    have hb2 := (by repeat (first | exact hbel | refine belAlloc ?_ _ | refine belDrew ?_ | refine belSet ?_ _ _ (by simp)) : Below w.heap.size w (w.alloc (.cells #[.int .i64 c.k0, .int .i64 c.k1, .int .i64 c.k2, .int .i64 c.a0, .int .i64 c.a1, .int .i64 c.a2, .slice c.ta c.tl c.tc, .int .i64 c.per, .int .i64 c.ret, .int .i64 c.age, .int .i64 c.dead] 25)))
    replace hw := belStep hw hb2
    clear hb2 hbel
    generalize w.alloc (.cells #[.int .i64 c.k0, .int .i64 c.k1, .int .i64 c.k2, .int .i64 c.a0, .int .i64 c.a1, .int .i64 c.a2, .slice c.ta c.tl c.tc, .int .i64 c.per, .int .i64 c.ret, .int .i64 c.age, .int .i64 c.dead] 25) = W1 at *
    replace cc0 := keep cc0
    replace cc1 := keep cc1
    replace cc2 := keep cc2
    replace cc3 := keep cc3
    replace cc4 := keep cc4
    replace cc5 := keep cc5
    replace cc6 := keep cc6
    replace cc7 := keep cc7
    replace cc8 := keep cc8
    replace cc9 := keep cc9
    replace cc10 := keep cc10
    have hbel : Below W1.heap.size W1 W1 := Below.refl _ _
    skip
    have HCW := Lib.hid (HC.out.later hw)
    have HLW := Lib.hid (HLB.out.later hw)
    have HSZ := Lib.hid hw.size
    have HW := Lib.hid hw
    have HSE := Lib.hid (fun k => sgE_in c l 0 c.k0 (fun t ht => ⟨HC.out.right t ht, HC.out.thr t ht⟩) HKI.out.1 HKI.out.2 k)
    clear hw HC HLB
    go_wp2
    clear hbel
    go_loopw [7, 13] (fun m i wr => ∃ k : Nat, k ≤ c.tl ∧ i = .int .i64 k ∧ m = .int .i64 (sgE c l k 0 c.k0) ∧ Below W1.heap.size W1 wr) (fun _ i _ => c.tl - (intOf i).toNat)
    case atStart => exact ⟨0, by omega, rfl, rfl, Below.refl _ _⟩
    case round =>
      obtain ⟨k, hk, rfl, rfl, hbel⟩ := hrel
      have HB := Lib.hid hbel
      by_cases hlt : k < c.tl
      · obtain ⟨t, hti, htr, hto, b, off, hta, hbb, x0, x1, x2, x3, x4⟩ := (HCW.out.later HB.out).at hlt
        obtain ⟨lb, lo, rfl, hlb, hlx⟩ := (HLW.out.later HB.out).opened (by omega)
        have l0 := hlx k hlt
        have hki : (k : Int) < (c.tl : Int) := by omega
        have n0 := sgE_next (l := l) hti (by rw [HLL.out]; exact hlt) 0 c.k0
        have CR := Lib.hid (fun u => thr_Right t u htr)
        have CE := Lib.hid (fun u => thr_Edge t c.k0 u hto HKI.out.1)
        have hm := HSE.out k
        have hcl := cc6 _ hbel
        simp only [hta] at hcl ⊢
        generalize sgE c l k 0 c.k0 = m at *
        generalize bl l k = lk at *
        have he := (edgeF_bd t c.k0 htr hto HKI.out.1 HKI.out.2).2
        generalize edgeF t c.k0 = ed at *
        obtain ⟨tg, tp, tm, ts, tgr⟩ := t
        simp only at n0 x0 x1 x2 x3 x4 CR CE
        clear hti htr hto hlx
        have key : (lk = false) ∨ (lk = true ∧ tg ≠ 0) ∨ (lk = true ∧ tg = 0) := by
          cases lk
          · exact .inl rfl
          · by_cases q : tg = 0
            · exact .inr (.inr ⟨rfl, q⟩)
            · exact .inr (.inl ⟨rfl, q⟩)
        rcases key with rfl | ⟨rfl, q⟩ | ⟨rfl, rfl⟩
        · have N0 := Lib.hid (show sgE c l (k + 1) 0 c.k0 = m by rw [n0]; rfl)
          clear n0
          go_wp2
          go_roundw
          case rel => exact ⟨k + 1, by omega, by push_cast; rfl, by rw [N0.out], HB.out.alloc HB.out.size _⟩
          case measure => simp [intOf] <;> omega
        · have q2 : (tg == 0) = false := by simpa using q
          have N0 := Lib.hid (show sgE c l (k + 1) 0 c.k0 = m by rw [n0, q2]; rfl)
          clear n0 q
          go_wp2
          go_roundw
          case rel => exact ⟨k + 1, by omega, by push_cast; rfl, by rw [N0.out], HB.out.alloc HB.out.size _⟩
          case measure => simp [intOf] <;> omega
        · have N0 := Lib.hid (show sgE c l (k + 1) 0 c.k0 = if m < ed then ed else m by rw [n0]; simp only [Bool.true_and, beq_self_eq_true, if_true]; omega)
          clear n0
          unfold InI at he
          go_upto_region 6 with (first | (go_at_call 31; (with_reducible refine (CR.out _).mono ?_); rintro e w3 ⟨rfl, hb3⟩; have hB3 := belStep (belAlloc (Below.refl wr.heap.size wr) (.cells #[.int .i64 0, .int .i64 tp, .int .i64 tm, .bool ts, .int .i64 tgr] 47)) hb3; have hY := Blk.later (Blk.new wr [.int .i64 0, .int .i64 tp, .int .i64 tm, .bool ts, .int .i64 tgr] 47) hb3; have y0 := keep (hY.cell (j := 0) rfl); have y1 := keep (hY.cell (j := 1) rfl); have y2 := keep (hY.cell (j := 2) rfl); have y3 := keep (hY.cell (j := 3) rfl); have y4 := keep (hY.cell (j := 4) rfl); have hB4 := belStep HB.out hB3; replace cc0 := keep (cc0 _ hB4); have HB3 := Lib.hid hB4; replace hbel := Below.refl w3.heap.size w3; clear hb3 hB3 hY hB4))
          have kk := fun d os => belStep hbel (below_regrown _ d os)
          refine wp_region_quiet_below (by kernel_rfl) (by kernel_rfl) ?_
          repeat ((with_reducible refine wpQuiet_step (fun K hK => ?_)); go_simp; (try (rw [if_neg]; rotate_left; · decide)); first | ((with_reducible refine hK _ ?_); clear hK K) | (apply Exists.intro; refine ⟨fun _ => ?_, hK _ ?_⟩; (first | (go_at_call 32; with_reducible exact Calls.regrown_of (CE.out _))); clear hK K))
          refine wpQuiet_nil (fun w1 hw1 => ?_)
          replace hbel := belStep hbel (bel_of_class hw1)
          clear hw1 kk
          go_wp2
          go_roundw
          case rel => exact ⟨k + 1, by omega, by push_cast; rfl, by rw [N0.out], belStep HB3.out hbel⟩
          case measure => simp [intOf] <;> omega
      · obtain rfl : k = c.tl := by omega
        have hki : ¬ (c.tl : Int) < (c.tl : Int) := by omega
        obtain ⟨m, em⟩ : ∃ m, sgE c l c.tl 0 c.k0 = m := ⟨_, rfl⟩
        have EM := Lib.hid em
        rw [em]
        clear em
        go_wp2
        go_ret
        exact ⟨by rw [EM.out]; rfl, HW.out.trans (HB.out.mono HSZ.out)⟩
  · rw [show sel 1 c.k0 c.k1 c.k2 = c.k1 from rfl]
    have hkI : InI c.k1 := by first | exact hck.1 | exact hck.2.1 | exact hck.2.2
    have hk1 : 1 ≤ c.k1 := by omega
    have HKI := Lib.hid (And.intro hkI hk1)
    clear hck h1 hkI hk1
    go_enter Try.func24, Try.ntmps24
    go_upto_region 1 with fail
    have cc0 : (w.alloc (.cells #[.int .i64 c.k0, .int .i64 c.k1, .int .i64 c.k2, .int .i64 c.a0, .int .i64 c.a1, .int .i64 c.a2, .slice c.ta c.tl c.tc, .int .i64 c.per, .int .i64 c.ret, .int .i64 c.age, .int .i64 c.dead] 25)).cell? ⟨w.heap.size, 0, none⟩ = some (.int .i64 c.k0) := by first | (simp; done) | (rw [World.cell?_alloc_at _ _ _ _ (by simp)]; rfl) | (rw [World.cell?_alloc_past _ _ _ (by simp <;> omega), World.cell?_alloc_at _ _ _ _ (by simp)]; rfl) | (rw [World.cell?_alloc_past _ _ _ (by simp <;> omega), World.cell?_alloc_past _ _ _ (by simp <;> omega), World.cell?_alloc_at _ _ _ _ (by simp)]; rfl)
    have cc1 : (w.alloc (.cells #[.int .i64 c.k0, .int .i64 c.k1, .int .i64 c.k2, .int .i64 c.a0, .int .i64 c.a1, .int .i64 c.a2, .slice c.ta c.tl c.tc, .int .i64 c.per, .int .i64 c.ret, .int .i64 c.age, .int .i64 c.dead] 25)).cell? ⟨w.heap.size, 1, none⟩ = some (.int .i64 c.k1) := by first | (simp; done) | (rw [World.cell?_alloc_at _ _ _ _ (by simp)]; rfl) | (rw [World.cell?_alloc_past _ _ _ (by simp <;> omega), World.cell?_alloc_at _ _ _ _ (by simp)]; rfl) | (rw [World.cell?_alloc_past _ _ _ (by simp <;> omega), World.cell?_alloc_past _ _ _ (by simp <;> omega), World.cell?_alloc_at _ _ _ _ (by simp)]; rfl)
    have cc2 : (w.alloc (.cells #[.int .i64 c.k0, .int .i64 c.k1, .int .i64 c.k2, .int .i64 c.a0, .int .i64 c.a1, .int .i64 c.a2, .slice c.ta c.tl c.tc, .int .i64 c.per, .int .i64 c.ret, .int .i64 c.age, .int .i64 c.dead] 25)).cell? ⟨w.heap.size, 2, none⟩ = some (.int .i64 c.k2) := by first | (simp; done) | (rw [World.cell?_alloc_at _ _ _ _ (by simp)]; rfl) | (rw [World.cell?_alloc_past _ _ _ (by simp <;> omega), World.cell?_alloc_at _ _ _ _ (by simp)]; rfl) | (rw [World.cell?_alloc_past _ _ _ (by simp <;> omega), World.cell?_alloc_past _ _ _ (by simp <;> omega), World.cell?_alloc_at _ _ _ _ (by simp)]; rfl)
    have cc3 : (w.alloc (.cells #[.int .i64 c.k0, .int .i64 c.k1, .int .i64 c.k2, .int .i64 c.a0, .int .i64 c.a1, .int .i64 c.a2, .slice c.ta c.tl c.tc, .int .i64 c.per, .int .i64 c.ret, .int .i64 c.age, .int .i64 c.dead] 25)).cell? ⟨w.heap.size, 3, none⟩ = some (.int .i64 c.a0) := by first | (simp; done) | (rw [World.cell?_alloc_at _ _ _ _ (by simp)]; rfl) | (rw [World.cell?_alloc_past _ _ _ (by simp <;> omega), World.cell?_alloc_at _ _ _ _ (by simp)]; rfl) | (rw [World.cell?_alloc_past _ _ _ (by simp <;> omega), World.cell?_alloc_past _ _ _ (by simp <;> omega), World.cell?_alloc_at _ _ _ _ (by simp)]; rfl)
    have cc4 : (w.alloc (.cells #[.int .i64 c.k0, .int .i64 c.k1, .int .i64 c.k2, .int .i64 c.a0, .int .i64 c.a1, .int .i64 c.a2, .slice c.ta c.tl c.tc, .int .i64 c.per, .int .i64 c.ret, .int .i64 c.age, .int .i64 c.dead] 25)).cell? ⟨w.heap.size, 4, none⟩ = some (.int .i64 c.a1) := by first | (simp; done) | (rw [World.cell?_alloc_at _ _ _ _ (by simp)]; rfl) | (rw [World.cell?_alloc_past _ _ _ (by simp <;> omega), World.cell?_alloc_at _ _ _ _ (by simp)]; rfl) | (rw [World.cell?_alloc_past _ _ _ (by simp <;> omega), World.cell?_alloc_past _ _ _ (by simp <;> omega), World.cell?_alloc_at _ _ _ _ (by simp)]; rfl)
    have cc5 : (w.alloc (.cells #[.int .i64 c.k0, .int .i64 c.k1, .int .i64 c.k2, .int .i64 c.a0, .int .i64 c.a1, .int .i64 c.a2, .slice c.ta c.tl c.tc, .int .i64 c.per, .int .i64 c.ret, .int .i64 c.age, .int .i64 c.dead] 25)).cell? ⟨w.heap.size, 5, none⟩ = some (.int .i64 c.a2) := by first | (simp; done) | (rw [World.cell?_alloc_at _ _ _ _ (by simp)]; rfl) | (rw [World.cell?_alloc_past _ _ _ (by simp <;> omega), World.cell?_alloc_at _ _ _ _ (by simp)]; rfl) | (rw [World.cell?_alloc_past _ _ _ (by simp <;> omega), World.cell?_alloc_past _ _ _ (by simp <;> omega), World.cell?_alloc_at _ _ _ _ (by simp)]; rfl)
    have cc6 : (w.alloc (.cells #[.int .i64 c.k0, .int .i64 c.k1, .int .i64 c.k2, .int .i64 c.a0, .int .i64 c.a1, .int .i64 c.a2, .slice c.ta c.tl c.tc, .int .i64 c.per, .int .i64 c.ret, .int .i64 c.age, .int .i64 c.dead] 25)).cell? ⟨w.heap.size, 6, none⟩ = some (.slice c.ta c.tl c.tc) := by first | (simp; done) | (rw [World.cell?_alloc_at _ _ _ _ (by simp)]; rfl) | (rw [World.cell?_alloc_past _ _ _ (by simp <;> omega), World.cell?_alloc_at _ _ _ _ (by simp)]; rfl) | (rw [World.cell?_alloc_past _ _ _ (by simp <;> omega), World.cell?_alloc_past _ _ _ (by simp <;> omega), World.cell?_alloc_at _ _ _ _ (by simp)]; rfl)
    have cc7 : (w.alloc (.cells #[.int .i64 c.k0, .int .i64 c.k1, .int .i64 c.k2, .int .i64 c.a0, .int .i64 c.a1, .int .i64 c.a2, .slice c.ta c.tl c.tc, .int .i64 c.per, .int .i64 c.ret, .int .i64 c.age, .int .i64 c.dead] 25)).cell? ⟨w.heap.size, 7, none⟩ = some (.int .i64 c.per) := by first | (simp; done) | (rw [World.cell?_alloc_at _ _ _ _ (by simp)]; rfl) | (rw [World.cell?_alloc_past _ _ _ (by simp <;> omega), World.cell?_alloc_at _ _ _ _ (by simp)]; rfl) | (rw [World.cell?_alloc_past _ _ _ (by simp <;> omega), World.cell?_alloc_past _ _ _ (by simp <;> omega), World.cell?_alloc_at _ _ _ _ (by simp)]; rfl)
    have cc8 : (w.alloc (.cells #[.int .i64 c.k0, .int .i64 c.k1, .int .i64 c.k2, .int .i64 c.a0, .int .i64 c.a1, .int .i64 c.a2, .slice c.ta c.tl c.tc, .int .i64 c.per, .int .i64 c.ret, .int .i64 c.age, .int .i64 c.dead] 25)).cell? ⟨w.heap.size, 8, none⟩ = some (.int .i64 c.ret) := by first | (simp; done) | (rw [World.cell?_alloc_at _ _ _ _ (by simp)]; rfl) | (rw [World.cell?_alloc_past _ _ _ (by simp <;> omega), World.cell?_alloc_at _ _ _ _ (by simp)]; rfl) | (rw [World.cell?_alloc_past _ _ _ (by simp <;> omega), World.cell?_alloc_past _ _ _ (by simp <;> omega), World.cell?_alloc_at _ _ _ _ (by simp)]; rfl)
    have cc9 : (w.alloc (.cells #[.int .i64 c.k0, .int .i64 c.k1, .int .i64 c.k2, .int .i64 c.a0, .int .i64 c.a1, .int .i64 c.a2, .slice c.ta c.tl c.tc, .int .i64 c.per, .int .i64 c.ret, .int .i64 c.age, .int .i64 c.dead] 25)).cell? ⟨w.heap.size, 9, none⟩ = some (.int .i64 c.age) := by first | (simp; done) | (rw [World.cell?_alloc_at _ _ _ _ (by simp)]; rfl) | (rw [World.cell?_alloc_past _ _ _ (by simp <;> omega), World.cell?_alloc_at _ _ _ _ (by simp)]; rfl) | (rw [World.cell?_alloc_past _ _ _ (by simp <;> omega), World.cell?_alloc_past _ _ _ (by simp <;> omega), World.cell?_alloc_at _ _ _ _ (by simp)]; rfl)
    have cc10 : (w.alloc (.cells #[.int .i64 c.k0, .int .i64 c.k1, .int .i64 c.k2, .int .i64 c.a0, .int .i64 c.a1, .int .i64 c.a2, .slice c.ta c.tl c.tc, .int .i64 c.per, .int .i64 c.ret, .int .i64 c.age, .int .i64 c.dead] 25)).cell? ⟨w.heap.size, 10, none⟩ = some (.int .i64 c.dead) := by first | (simp; done) | (rw [World.cell?_alloc_at _ _ _ _ (by simp)]; rfl) | (rw [World.cell?_alloc_past _ _ _ (by simp <;> omega), World.cell?_alloc_at _ _ _ _ (by simp)]; rfl) | (rw [World.cell?_alloc_past _ _ _ (by simp <;> omega), World.cell?_alloc_past _ _ _ (by simp <;> omega), World.cell?_alloc_at _ _ _ _ (by simp)]; rfl)
    have hb2 := (by repeat (first | exact hbel | refine belAlloc ?_ _ | refine belDrew ?_ | refine belSet ?_ _ _ (by simp)) : Below w.heap.size w (w.alloc (.cells #[.int .i64 c.k0, .int .i64 c.k1, .int .i64 c.k2, .int .i64 c.a0, .int .i64 c.a1, .int .i64 c.a2, .slice c.ta c.tl c.tc, .int .i64 c.per, .int .i64 c.ret, .int .i64 c.age, .int .i64 c.dead] 25)))
    replace hw := belStep hw hb2
    clear hb2 hbel
    generalize w.alloc (.cells #[.int .i64 c.k0, .int .i64 c.k1, .int .i64 c.k2, .int .i64 c.a0, .int .i64 c.a1, .int .i64 c.a2, .slice c.ta c.tl c.tc, .int .i64 c.per, .int .i64 c.ret, .int .i64 c.age, .int .i64 c.dead] 25) = W1 at *
    replace cc0 := keep cc0
    replace cc1 := keep cc1
    replace cc2 := keep cc2
    replace cc3 := keep cc3
    replace cc4 := keep cc4
    replace cc5 := keep cc5
    replace cc6 := keep cc6
    replace cc7 := keep cc7
    replace cc8 := keep cc8
    replace cc9 := keep cc9
    replace cc10 := keep cc10
    have hbel : Below W1.heap.size W1 W1 := Below.refl _ _
    skip
    have HCW := Lib.hid (HC.out.later hw)
    have HLW := Lib.hid (HLB.out.later hw)
    have HSZ := Lib.hid hw.size
    have HW := Lib.hid hw
    have HSE := Lib.hid (fun k => sgE_in c l 1 c.k1 (fun t ht => ⟨HC.out.right t ht, HC.out.thr t ht⟩) HKI.out.1 HKI.out.2 k)
    clear hw HC HLB
    go_wp2
    clear hbel
    go_loopw [7, 13] (fun m i wr => ∃ k : Nat, k ≤ c.tl ∧ i = .int .i64 k ∧ m = .int .i64 (sgE c l k 1 c.k1) ∧ Below W1.heap.size W1 wr) (fun _ i _ => c.tl - (intOf i).toNat)
    case atStart => exact ⟨0, by omega, rfl, rfl, Below.refl _ _⟩
    case round =>
      obtain ⟨k, hk, rfl, rfl, hbel⟩ := hrel
      have HB := Lib.hid hbel
      by_cases hlt : k < c.tl
      · obtain ⟨t, hti, htr, hto, b, off, hta, hbb, x0, x1, x2, x3, x4⟩ := (HCW.out.later HB.out).at hlt
        obtain ⟨lb, lo, rfl, hlb, hlx⟩ := (HLW.out.later HB.out).opened (by omega)
        have l0 := hlx k hlt
        have hki : (k : Int) < (c.tl : Int) := by omega
        have n0 := sgE_next (l := l) hti (by rw [HLL.out]; exact hlt) 1 c.k1
        have CR := Lib.hid (fun u => thr_Right t u htr)
        have CE := Lib.hid (fun u => thr_Edge t c.k1 u hto HKI.out.1)
        have hm := HSE.out k
        have hcl := cc6 _ hbel
        simp only [hta] at hcl ⊢
        generalize sgE c l k 1 c.k1 = m at *
        generalize bl l k = lk at *
        have he := (edgeF_bd t c.k1 htr hto HKI.out.1 HKI.out.2).2
        generalize edgeF t c.k1 = ed at *
        obtain ⟨tg, tp, tm, ts, tgr⟩ := t
        simp only at n0 x0 x1 x2 x3 x4 CR CE
        clear hti htr hto hlx
        have key : (lk = false) ∨ (lk = true ∧ tg ≠ 1) ∨ (lk = true ∧ tg = 1) := by
          cases lk
          · exact .inl rfl
          · by_cases q : tg = 1
            · exact .inr (.inr ⟨rfl, q⟩)
            · exact .inr (.inl ⟨rfl, q⟩)
        rcases key with rfl | ⟨rfl, q⟩ | ⟨rfl, rfl⟩
        · have N0 := Lib.hid (show sgE c l (k + 1) 1 c.k1 = m by rw [n0]; rfl)
          clear n0
          go_wp2
          go_roundw
          case rel => exact ⟨k + 1, by omega, by push_cast; rfl, by rw [N0.out], HB.out.alloc HB.out.size _⟩
          case measure => simp [intOf] <;> omega
        · have q2 : (tg == 1) = false := by simpa using q
          have N0 := Lib.hid (show sgE c l (k + 1) 1 c.k1 = m by rw [n0, q2]; rfl)
          clear n0 q
          go_wp2
          go_roundw
          case rel => exact ⟨k + 1, by omega, by push_cast; rfl, by rw [N0.out], HB.out.alloc HB.out.size _⟩
          case measure => simp [intOf] <;> omega
        · have N0 := Lib.hid (show sgE c l (k + 1) 1 c.k1 = if m < ed then ed else m by rw [n0]; simp only [Bool.true_and, beq_self_eq_true, if_true]; omega)
          clear n0
          unfold InI at he
          go_upto_region 6 with (first | (go_at_call 31; (with_reducible refine (CR.out _).mono ?_); rintro e w3 ⟨rfl, hb3⟩; have hB3 := belStep (belAlloc (Below.refl wr.heap.size wr) (.cells #[.int .i64 1, .int .i64 tp, .int .i64 tm, .bool ts, .int .i64 tgr] 47)) hb3; have hY := Blk.later (Blk.new wr [.int .i64 1, .int .i64 tp, .int .i64 tm, .bool ts, .int .i64 tgr] 47) hb3; have y0 := keep (hY.cell (j := 0) rfl); have y1 := keep (hY.cell (j := 1) rfl); have y2 := keep (hY.cell (j := 2) rfl); have y3 := keep (hY.cell (j := 3) rfl); have y4 := keep (hY.cell (j := 4) rfl); have hB4 := belStep HB.out hB3; replace cc1 := keep (cc1 _ hB4); have HB3 := Lib.hid hB4; replace hbel := Below.refl w3.heap.size w3; clear hb3 hB3 hY hB4))
          have kk := fun d os => belStep hbel (below_regrown _ d os)
          refine wp_region_quiet_below (by kernel_rfl) (by kernel_rfl) ?_
          repeat ((with_reducible refine wpQuiet_step (fun K hK => ?_)); go_simp; (try (rw [if_neg]; rotate_left; · decide)); first | ((with_reducible refine hK _ ?_); clear hK K) | (apply Exists.intro; refine ⟨fun _ => ?_, hK _ ?_⟩; (first | (go_at_call 32; with_reducible exact Calls.regrown_of (CE.out _))); clear hK K))
          refine wpQuiet_nil (fun w1 hw1 => ?_)
          replace hbel := belStep hbel (bel_of_class hw1)
          clear hw1 kk
          go_wp2
          go_roundw
          case rel => exact ⟨k + 1, by omega, by push_cast; rfl, by rw [N0.out], belStep HB3.out hbel⟩
          case measure => simp [intOf] <;> omega
      · obtain rfl : k = c.tl := by omega
        have hki : ¬ (c.tl : Int) < (c.tl : Int) := by omega
        obtain ⟨m, em⟩ : ∃ m, sgE c l c.tl 1 c.k1 = m := ⟨_, rfl⟩
        have EM := Lib.hid em
        rw [em]
        clear em
        go_wp2
        go_ret
        exact ⟨by rw [EM.out]; rfl, HW.out.trans (HB.out.mono HSZ.out)⟩
  · rw [show sel 2 c.k0 c.k1 c.k2 = c.k2 from rfl]
    have hkI : InI c.k2 := by first | exact hck.1 | exact hck.2.1 | exact hck.2.2
    have hk1 : 1 ≤ c.k2 := by omega
    have HKI := Lib.hid (And.intro hkI hk1)
    clear hck h1 hkI hk1
    go_enter Try.func24, Try.ntmps24
    go_upto_region 1 with fail
    have cc0 : (w.alloc (.cells #[.int .i64 c.k0, .int .i64 c.k1, .int .i64 c.k2, .int .i64 c.a0, .int .i64 c.a1, .int .i64 c.a2, .slice c.ta c.tl c.tc, .int .i64 c.per, .int .i64 c.ret, .int .i64 c.age, .int .i64 c.dead] 25)).cell? ⟨w.heap.size, 0, none⟩ = some (.int .i64 c.k0) := by first | (simp; done) | (rw [World.cell?_alloc_at _ _ _ _ (by simp)]; rfl) | (rw [World.cell?_alloc_past _ _ _ (by simp <;> omega), World.cell?_alloc_at _ _ _ _ (by simp)]; rfl) | (rw [World.cell?_alloc_past _ _ _ (by simp <;> omega), World.cell?_alloc_past _ _ _ (by simp <;> omega), World.cell?_alloc_at _ _ _ _ (by simp)]; rfl)
    have cc1 : (w.alloc (.cells #[.int .i64 c.k0, .int .i64 c.k1, .int .i64 c.k2, .int .i64 c.a0, .int .i64 c.a1, .int .i64 c.a2, .slice c.ta c.tl c.tc, .int .i64 c.per, .int .i64 c.ret, .int .i64 c.age, .int .i64 c.dead] 25)).cell? ⟨w.heap.size, 1, none⟩ = some (.int .i64 c.k1) := by first | (simp; done) | (rw [World.cell?_alloc_at _ _ _ _ (by simp)]; rfl) | (rw [World.cell?_alloc_past _ _ _ (by simp <;> omega), World.cell?_alloc_at _ _ _ _ (by simp)]; rfl) | (rw [World.cell?_alloc_past _ _ _ (by simp <;> omega), World.cell?_alloc_past _ _ _ (by simp <;> omega), World.cell?_alloc_at _ _ _ _ (by simp)]; rfl)
    have cc2 : (w.alloc (.cells #[.int .i64 c.k0, .int .i64 c.k1, .int .i64 c.k2, .int .i64 c.a0, .int .i64 c.a1, .int .i64 c.a2, .slice c.ta c.tl c.tc, .int .i64 c.per, .int .i64 c.ret, .int .i64 c.age, .int .i64 c.dead] 25)).cell? ⟨w.heap.size, 2, none⟩ = some (.int .i64 c.k2) := by first | (simp; done) | (rw [World.cell?_alloc_at _ _ _ _ (by simp)]; rfl) | (rw [World.cell?_alloc_past _ _ _ (by simp <;> omega), World.cell?_alloc_at _ _ _ _ (by simp)]; rfl) | (rw [World.cell?_alloc_past _ _ _ (by simp <;> omega), World.cell?_alloc_past _ _ _ (by simp <;> omega), World.cell?_alloc_at _ _ _ _ (by simp)]; rfl)
    have cc3 : (w.alloc (.cells #[.int .i64 c.k0, .int .i64 c.k1, .int .i64 c.k2, .int .i64 c.a0, .int .i64 c.a1, .int .i64 c.a2, .slice c.ta c.tl c.tc, .int .i64 c.per, .int .i64 c.ret, .int .i64 c.age, .int .i64 c.dead] 25)).cell? ⟨w.heap.size, 3, none⟩ = some (.int .i64 c.a0) := by first | (simp; done) | (rw [World.cell?_alloc_at _ _ _ _ (by simp)]; rfl) | (rw [World.cell?_alloc_past _ _ _ (by simp <;> omega), World.cell?_alloc_at _ _ _ _ (by simp)]; rfl) | (rw [World.cell?_alloc_past _ _ _ (by simp <;> omega), World.cell?_alloc_past _ _ _ (by simp <;> omega), World.cell?_alloc_at _ _ _ _ (by simp)]; rfl)
    have cc4 : (w.alloc (.cells #[.int .i64 c.k0, .int .i64 c.k1, .int .i64 c.k2, .int .i64 c.a0, .int .i64 c.a1, .int .i64 c.a2, .slice c.ta c.tl c.tc, .int .i64 c.per, .int .i64 c.ret, .int .i64 c.age, .int .i64 c.dead] 25)).cell? ⟨w.heap.size, 4, none⟩ = some (.int .i64 c.a1) := by first | (simp; done) | (rw [World.cell?_alloc_at _ _ _ _ (by simp)]; rfl) | (rw [World.cell?_alloc_past _ _ _ (by simp <;> omega), World.cell?_alloc_at _ _ _ _ (by simp)]; rfl) | (rw [World.cell?_alloc_past _ _ _ (by simp <;> omega), World.cell?_alloc_past _ _ _ (by simp <;> omega), World.cell?_alloc_at _ _ _ _ (by simp)]; rfl)
    have cc5 : (w.alloc (.cells #[.int .i64 c.k0, .int .i64 c.k1, .int .i64 c.k2, .int .i64 c.a0, .int .i64 c.a1, .int .i64 c.a2, .slice c.ta c.tl c.tc, .int .i64 c.per, .int .i64 c.ret, .int .i64 c.age, .int .i64 c.dead] 25)).cell? ⟨w.heap.size, 5, none⟩ = some (.int .i64 c.a2) := by first | (simp; done) | (rw [World.cell?_alloc_at _ _ _ _ (by simp)]; rfl) | (rw [World.cell?_alloc_past _ _ _ (by simp <;> omega), World.cell?_alloc_at _ _ _ _ (by simp)]; rfl) | (rw [World.cell?_alloc_past _ _ _ (by simp <;> omega), World.cell?_alloc_past _ _ _ (by simp <;> omega), World.cell?_alloc_at _ _ _ _ (by simp)]; rfl)
    have cc6 : (w.alloc (.cells #[.int .i64 c.k0, .int .i64 c.k1, .int .i64 c.k2, .int .i64 c.a0, .int .i64 c.a1, .int .i64 c.a2, .slice c.ta c.tl c.tc, .int .i64 c.per, .int .i64 c.ret, .int .i64 c.age, .int .i64 c.dead] 25)).cell? ⟨w.heap.size, 6, none⟩ = some (.slice c.ta c.tl c.tc) := by first | (simp; done) | (rw [World.cell?_alloc_at _ _ _ _ (by simp)]; rfl) | (rw [World.cell?_alloc_past _ _ _ (by simp <;> omega), World.cell?_alloc_at _ _ _ _ (by simp)]; rfl) | (rw [World.cell?_alloc_past _ _ _ (by simp <;> omega), World.cell?_alloc_past _ _ _ (by simp <;> omega), World.cell?_alloc_at _ _ _ _ (by simp)]; rfl)
    have cc7 : (w.alloc (.cells #[.int .i64 c.k0, .int .i64 c.k1, .int .i64 c.k2, .int .i64 c.a0, .int .i64 c.a1, .int .i64 c.a2, .slice c.ta c.tl c.tc, .int .i64 c.per, .int .i64 c.ret, .int .i64 c.age, .int .i64 c.dead] 25)).cell? ⟨w.heap.size, 7, none⟩ = some (.int .i64 c.per) := by first | (simp; done) | (rw [World.cell?_alloc_at _ _ _ _ (by simp)]; rfl) | (rw [World.cell?_alloc_past _ _ _ (by simp <;> omega), World.cell?_alloc_at _ _ _ _ (by simp)]; rfl) | (rw [World.cell?_alloc_past _ _ _ (by simp <;> omega), World.cell?_alloc_past _ _ _ (by simp <;> omega), World.cell?_alloc_at _ _ _ _ (by simp)]; rfl)
    have cc8 : (w.alloc (.cells #[.int .i64 c.k0, .int .i64 c.k1, .int .i64 c.k2, .int .i64 c.a0, .int .i64 c.a1, .int .i64 c.a2, .slice c.ta c.tl c.tc, .int .i64 c.per, .int .i64 c.ret, .int .i64 c.age, .int .i64 c.dead] 25)).cell? ⟨w.heap.size, 8, none⟩ = some (.int .i64 c.ret) := by first | (simp; done) | (rw [World.cell?_alloc_at _ _ _ _ (by simp)]; rfl) | (rw [World.cell?_alloc_past _ _ _ (by simp <;> omega), World.cell?_alloc_at _ _ _ _ (by simp)]; rfl) | (rw [World.cell?_alloc_past _ _ _ (by simp <;> omega), World.cell?_alloc_past _ _ _ (by simp <;> omega), World.cell?_alloc_at _ _ _ _ (by simp)]; rfl)
    have cc9 : (w.alloc (.cells #[.int .i64 c.k0, .int .i64 c.k1, .int .i64 c.k2, .int .i64 c.a0, .int .i64 c.a1, .int .i64 c.a2, .slice c.ta c.tl c.tc, .int .i64 c.per, .int .i64 c.ret, .int .i64 c.age, .int .i64 c.dead] 25)).cell? ⟨w.heap.size, 9, none⟩ = some (.int .i64 c.age) := by first | (simp; done) | (rw [World.cell?_alloc_at _ _ _ _ (by simp)]; rfl) | (rw [World.cell?_alloc_past _ _ _ (by simp <;> omega), World.cell?_alloc_at _ _ _ _ (by simp)]; rfl) | (rw [World.cell?_alloc_past _ _ _ (by simp <;> omega), World.cell?_alloc_past _ _ _ (by simp <;> omega), World.cell?_alloc_at _ _ _ _ (by simp)]; rfl)
    have cc10 : (w.alloc (.cells #[.int .i64 c.k0, .int .i64 c.k1, .int .i64 c.k2, .int .i64 c.a0, .int .i64 c.a1, .int .i64 c.a2, .slice c.ta c.tl c.tc, .int .i64 c.per, .int .i64 c.ret, .int .i64 c.age, .int .i64 c.dead] 25)).cell? ⟨w.heap.size, 10, none⟩ = some (.int .i64 c.dead) := by first | (simp; done) | (rw [World.cell?_alloc_at _ _ _ _ (by simp)]; rfl) | (rw [World.cell?_alloc_past _ _ _ (by simp <;> omega), World.cell?_alloc_at _ _ _ _ (by simp)]; rfl) | (rw [World.cell?_alloc_past _ _ _ (by simp <;> omega), World.cell?_alloc_past _ _ _ (by simp <;> omega), World.cell?_alloc_at _ _ _ _ (by simp)]; rfl)
    have hb2 := (by repeat (first | exact hbel | refine belAlloc ?_ _ | refine belDrew ?_ | refine belSet ?_ _ _ (by simp)) : Below w.heap.size w (w.alloc (.cells #[.int .i64 c.k0, .int .i64 c.k1, .int .i64 c.k2, .int .i64 c.a0, .int .i64 c.a1, .int .i64 c.a2, .slice c.ta c.tl c.tc, .int .i64 c.per, .int .i64 c.ret, .int .i64 c.age, .int .i64 c.dead] 25)))
    replace hw := belStep hw hb2
    clear hb2 hbel
    generalize w.alloc (.cells #[.int .i64 c.k0, .int .i64 c.k1, .int .i64 c.k2, .int .i64 c.a0, .int .i64 c.a1, .int .i64 c.a2, .slice c.ta c.tl c.tc, .int .i64 c.per, .int .i64 c.ret, .int .i64 c.age, .int .i64 c.dead] 25) = W1 at *
    replace cc0 := keep cc0
    replace cc1 := keep cc1
    replace cc2 := keep cc2
    replace cc3 := keep cc3
    replace cc4 := keep cc4
    replace cc5 := keep cc5
    replace cc6 := keep cc6
    replace cc7 := keep cc7
    replace cc8 := keep cc8
    replace cc9 := keep cc9
    replace cc10 := keep cc10
    have hbel : Below W1.heap.size W1 W1 := Below.refl _ _
    skip
    have HCW := Lib.hid (HC.out.later hw)
    have HLW := Lib.hid (HLB.out.later hw)
    have HSZ := Lib.hid hw.size
    have HW := Lib.hid hw
    have HSE := Lib.hid (fun k => sgE_in c l 2 c.k2 (fun t ht => ⟨HC.out.right t ht, HC.out.thr t ht⟩) HKI.out.1 HKI.out.2 k)
    clear hw HC HLB
    go_wp2
    clear hbel
    go_loopw [7, 13] (fun m i wr => ∃ k : Nat, k ≤ c.tl ∧ i = .int .i64 k ∧ m = .int .i64 (sgE c l k 2 c.k2) ∧ Below W1.heap.size W1 wr) (fun _ i _ => c.tl - (intOf i).toNat)
    case atStart => exact ⟨0, by omega, rfl, rfl, Below.refl _ _⟩
    case round =>
      obtain ⟨k, hk, rfl, rfl, hbel⟩ := hrel
      have HB := Lib.hid hbel
      by_cases hlt : k < c.tl
      · obtain ⟨t, hti, htr, hto, b, off, hta, hbb, x0, x1, x2, x3, x4⟩ := (HCW.out.later HB.out).at hlt
        obtain ⟨lb, lo, rfl, hlb, hlx⟩ := (HLW.out.later HB.out).opened (by omega)
        have l0 := hlx k hlt
        have hki : (k : Int) < (c.tl : Int) := by omega
        have n0 := sgE_next (l := l) hti (by rw [HLL.out]; exact hlt) 2 c.k2
        have CR := Lib.hid (fun u => thr_Right t u htr)
        have CE := Lib.hid (fun u => thr_Edge t c.k2 u hto HKI.out.1)
        have hm := HSE.out k
        have hcl := cc6 _ hbel
        simp only [hta] at hcl ⊢
        generalize sgE c l k 2 c.k2 = m at *
        generalize bl l k = lk at *
        have he := (edgeF_bd t c.k2 htr hto HKI.out.1 HKI.out.2).2
        generalize edgeF t c.k2 = ed at *
        obtain ⟨tg, tp, tm, ts, tgr⟩ := t
        simp only at n0 x0 x1 x2 x3 x4 CR CE
        clear hti htr hto hlx
        have key : (lk = false) ∨ (lk = true ∧ tg ≠ 2) ∨ (lk = true ∧ tg = 2) := by
          cases lk
          · exact .inl rfl
          · by_cases q : tg = 2
            · exact .inr (.inr ⟨rfl, q⟩)
            · exact .inr (.inl ⟨rfl, q⟩)
        rcases key with rfl | ⟨rfl, q⟩ | ⟨rfl, rfl⟩
        · have N0 := Lib.hid (show sgE c l (k + 1) 2 c.k2 = m by rw [n0]; rfl)
          clear n0
          go_wp2
          go_roundw
          case rel => exact ⟨k + 1, by omega, by push_cast; rfl, by rw [N0.out], HB.out.alloc HB.out.size _⟩
          case measure => simp [intOf] <;> omega
        · have q2 : (tg == 2) = false := by simpa using q
          have N0 := Lib.hid (show sgE c l (k + 1) 2 c.k2 = m by rw [n0, q2]; rfl)
          clear n0 q
          go_wp2
          go_roundw
          case rel => exact ⟨k + 1, by omega, by push_cast; rfl, by rw [N0.out], HB.out.alloc HB.out.size _⟩
          case measure => simp [intOf] <;> omega
        · have N0 := Lib.hid (show sgE c l (k + 1) 2 c.k2 = if m < ed then ed else m by rw [n0]; simp only [Bool.true_and, beq_self_eq_true, if_true]; omega)
          clear n0
          unfold InI at he
          go_upto_region 6 with (first | (go_at_call 31; (with_reducible refine (CR.out _).mono ?_); rintro e w3 ⟨rfl, hb3⟩; have hB3 := belStep (belAlloc (Below.refl wr.heap.size wr) (.cells #[.int .i64 2, .int .i64 tp, .int .i64 tm, .bool ts, .int .i64 tgr] 47)) hb3; have hY := Blk.later (Blk.new wr [.int .i64 2, .int .i64 tp, .int .i64 tm, .bool ts, .int .i64 tgr] 47) hb3; have y0 := keep (hY.cell (j := 0) rfl); have y1 := keep (hY.cell (j := 1) rfl); have y2 := keep (hY.cell (j := 2) rfl); have y3 := keep (hY.cell (j := 3) rfl); have y4 := keep (hY.cell (j := 4) rfl); have hB4 := belStep HB.out hB3; replace cc2 := keep (cc2 _ hB4); have HB3 := Lib.hid hB4; replace hbel := Below.refl w3.heap.size w3; clear hb3 hB3 hY hB4))
          have kk := fun d os => belStep hbel (below_regrown _ d os)
          refine wp_region_quiet_below (by kernel_rfl) (by kernel_rfl) ?_
          repeat ((with_reducible refine wpQuiet_step (fun K hK => ?_)); go_simp; (try (rw [if_neg]; rotate_left; · decide)); first | ((with_reducible refine hK _ ?_); clear hK K) | (apply Exists.intro; refine ⟨fun _ => ?_, hK _ ?_⟩; (first | (go_at_call 32; with_reducible exact Calls.regrown_of (CE.out _))); clear hK K))
          refine wpQuiet_nil (fun w1 hw1 => ?_)
          replace hbel := belStep hbel (bel_of_class hw1)
          clear hw1 kk
          go_wp2
          go_roundw
          case rel => exact ⟨k + 1, by omega, by push_cast; rfl, by rw [N0.out], belStep HB3.out hbel⟩
          case measure => simp [intOf] <;> omega
      · obtain rfl : k = c.tl := by omega
        have hki : ¬ (c.tl : Int) < (c.tl : Int) := by omega
        obtain ⟨m, em⟩ : ∃ m, sgE c l c.tl 2 c.k2 = m := ⟨_, rfl⟩
        have EM := Lib.hid em
        rw [em]
        clear em
        go_wp2
        go_ret
        exact ⟨by rw [EM.out]; rfl, HW.out.trans (HB.out.mono HSZ.out)⟩
set_option maxRecDepth 100000 in
set_option maxHeartbeats 8000000 in
theorem ref_share (whole pct : Int) (w : World) (hw1 : 1 ≤ whole) (hw2 : InI whole) (hp : 1 ≤ pct ∧ pct ≤ 100) : Calls Try.prog 39 #[.int .i64 whole, .int .i64 pct] w fun e w' => e = .returned (.int .i64 (shareI whole pct)) ∧ w = w' := by
  obtain ⟨s1, s2, s3⟩ := share_facts whole pct hw1 hp
  have hpI : InI pct := by unfold InI; omega
  have CC := Lib.hid (fun m u (hm : InI m) => wref_Compare m 100 whole pct u hm (by unfold InI; omega) hw2 hpI)
  rw [show satNum 100 = 100 from rfl] at CC
  have S3 := Lib.hid s3
  have HW := Lib.hid hw2
  clear s3 hp hpI hw1
  unfold InI at hw2
  generalize shareI whole pct = S at *
  generalize satNum whole * satNum pct = P at *
  go_enter Try.func39, Try.ntmps39
  go_wp2
  go_loopw [5, 6] (fun a b wr => ∃ lo hi : Int, 0 ≤ lo ∧ lo ≤ S ∧ S ≤ hi ∧ hi ≤ whole ∧ a = .int .i64 lo ∧ b = .int .i64 hi ∧ w = wr) (fun a b _ => (intOf b - intOf a).toNat)
  case atStart => exact ⟨0, whole, by omega, by omega, by omega, by omega, rfl, rfl, rfl⟩
  case round =>
    obtain ⟨lo, hi, h1, h2, h3, h4, rfl, rfl, rfl⟩ := hrel
    by_cases hlt : lo < hi
    · have hmid : lo ≤ lo + (hi - lo) / 2 ∧ lo + (hi - lo) / 2 < hi := by omega
      have hc3 := S3.out (lo + (hi - lo) / 2) (by omega)
      have CM := Lib.hid (fun u => CC.out (lo + (hi - lo) / 2) u (by unfold InI; omega))
      by_cases hms : lo + (hi - lo) / 2 < S
      · have hx : cmpI (satNum (lo + (hi - lo) / 2) * 100) P < 0 := by have := hc3.2 hms; unfold cmpI; rw [if_pos this]; omega
        generalize cmpI (satNum (lo + (hi - lo) / 2) * 100) P = cv at *
        have HM := Lib.hid hms
        clear hc3 hms
        go_wp2_with (first | (go_at_call 40; (with_reducible refine (CM.out _).mono ?_); rintro e w' ⟨rfl, rfl⟩))
        go_roundw
        case rel => exact ⟨_, _, by omega, by have := HM.out; omega, h3, h4, rfl, rfl, by first | rfl | trivial⟩
        case measure => simp [intOf] <;> omega
      · have hx : ¬ cmpI (satNum (lo + (hi - lo) / 2) * 100) P < 0 := by
          have : ¬ satNum (lo + (hi - lo) / 2) * 100 < P := fun q => hms (hc3.1 q)
          unfold cmpI; rw [if_neg this]; split <;> omega
        generalize cmpI (satNum (lo + (hi - lo) / 2) * 100) P = cv at *
        have HM := Lib.hid hms
        clear hc3 hms
        go_wp2_with (first | (go_at_call 40; (with_reducible refine (CM.out _).mono ?_); rintro e w' ⟨rfl, rfl⟩))
        go_roundw
        case rel => exact ⟨_, _, h1, h2, by have := HM.out; omega, by omega, rfl, rfl, by first | rfl | trivial⟩
        case measure => simp [intOf] <;> omega
    · have hS : lo = S := by omega
      have HS := Lib.hid hS
      clear hS
      go_wp2
      go_ret
      exact ⟨by rw [← HS.out]; rfl, rfl⟩
end Go.Proofs.Ytbancemkajgljaa
