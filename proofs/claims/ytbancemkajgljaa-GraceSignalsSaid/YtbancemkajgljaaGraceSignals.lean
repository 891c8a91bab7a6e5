/- GraceSignals holds for every config and whichever thresholds: their signals, and of each signal the greatest edge. No conditions. -/
import Derived.Test.YtbancemkajgljaaAwake18
namespace Go.Proofs.Ytbancemkajgljaa.graceSignals
open Go.ChangeShapes Go.WideShapes Go.ChangeAt Go.RowKit
open Go.ChangeMaps (open_string shut_string)
set_option linter.unusedVariables false
set_option linter.unusedSimpArgs false

theorem sg_pos (c : CfgV) (l : List Bool) (s cap : Int) (hr : ∀ t ∈ c.L, t.right = true ∧ t.ok) (hk : InI cap) (h1 : 1 ≤ cap) : ∀ k, sgB c l k s = decide (0 < sgE c l k s cap) := by
  intro k
  unfold sgB sgE
  have : ∀ (L : List (ThrV × Bool)), (∀ p ∈ L, p.1 ∈ c.L) → ∀ m : Int, 0 ≤ m → (decide (0 < m) || L.any (fun p => p.2 && p.1.sig == s)) = decide (0 < L.foldl (fun m p => if p.2 && p.1.sig == s then max m (edgeF p.1 cap) else m) m) := by
    intro L
    induction L with
    | nil => intro _ m hm; simp
    | cons p L ih =>
      intro hL m hm
      obtain ⟨h2, h3⟩ := hr _ (hL p List.mem_cons_self)
      have h4 := (edgeF_bd p.1 cap h2 h3 hk h1).1
      rw [List.foldl_cons, List.any_cons]
      cases hp : (p.2 && p.1.sig == s)
      · simp only [Bool.false_eq_true, if_false, Bool.false_or]
        exact ih (fun q hq => hL q (List.mem_cons_of_mem _ hq)) m hm
      · simp only [if_true, Bool.true_or, Bool.or_true]
        rw [← ih (fun q hq => hL q (List.mem_cons_of_mem _ hq)) (max m (edgeF p.1 cap)) (by omega), decide_eq_true (by omega)]
        rfl
  have h := this ((c.L.zip l).take k) (fun p hp => (List.of_mem_zip (List.mem_of_mem_take (a := p) hp : p ∈ c.L.zip l)).1) 0 (by omega)
  simpa using h

set_option maxRecDepth 100000 in
set_option maxHeartbeats 8000000 in
theorem walk (c : CfgV) (la : Option Addr) (ln lc : Nat) (l : List Bool) (w : World) (hc : c.ok w) (hl : Bools w la ln lc l) : Calls Try.prog 4 #[.agg #[.int .i64 c.k0, .int .i64 c.k1, .int .i64 c.k2, .int .i64 c.a0, .int .i64 c.a1, .int .i64 c.a2, .slice c.ta c.tl c.tc, .int .i64 c.per, .int .i64 c.ret, .int .i64 c.age, .int .i64 c.dead], .slice la ln lc] w fun e w' => e = .returned (.bool true) ∧ Below w.heap.size w w' := by
  have hw : Below w.heap.size w w := Below.refl _ _
  have hbel := hw
  obtain ⟨hll, hlc1, hlc2⟩ := hl.bounds
  have CR := Lib.hid (fun u (h : Below w.heap.size w u) => ref7_Right c u (hc.later h))
  have HC := Lib.hid hc
  have HLB := Lib.hid hl
  have HT := Lib.hid (show c.tl ≤ 9223372036854775807 by obtain ⟨_, h1, h2, _⟩ := hc.row; unfold maxLen at h2; omega)
  clear hc hl
  by_cases q1 : ln = c.tl
  · subst q1
    go_enter Try.func4, Try.ntmps4
    go_upto_region 1 with fail
    have cc0 : (w.alloc (.cells #[.int .i64 c.k0, .int .i64 c.k1, .int .i64 c.k2, .int .i64 c.a0, .int .i64 c.a1, .int .i64 c.a2, .slice c.ta c.tl c.tc, .int .i64 c.per, .int .i64 c.ret, .int .i64 c.age, .int .i64 c.dead] 25)).cell? ⟨w.heap.size, 0, none⟩ = some (.int .i64 c.k0) := by first | (simp; done) | (rw [World.cell?_alloc_at _ _ _ _ (by simp)]; rfl) | (rw [World.cell?_alloc_past _ _ _ (by simp <;> omega), World.cell?_alloc_at _ _ _ _ (by simp)]; rfl) | (rw [World.cell?_alloc_past _ _ _ (by simp <;> omega), World.cell?_alloc_past _ _ _ (by simp <;> omega), World.cell?_alloc_at _ _ _ _ (by simp)]; rfl)
    have cc1 : (w.alloc (.cells #[.int .i64 c.k0, .int .i64 c.k1, .int .i64 c.k2, .int .i64 c.a0, .int .i64 c.a1, .int .i64 c.a2, .slice c.ta c.tl c.tc, .int .i64 c.per, .int .i64 c.ret, .int .i64 c.age, .int .i64 c.dead] 25)).cell? ⟨w.heap.size, 1, none⟩ = some (.int .i64 c.k1) := by first | (simp; done) | (rw [World.cell?_alloc_at _ _ _ _ (by simp)]; rfl) | (rw [World.cell?_alloc_past _ _ _ (by simp <;> omega), World.cell?_alloc_at _ _ _ _ (by simp)]; rfl) | (rw [World.cell?_alloc_past _ _ _ (by simp <;> omega), World.cell?_alloc_past _ _ _ (by simp <;> omega), World.cell?_alloc_at _ _ _ _ (by simp)]; rfl)
    have cc2 : (w.alloc (.cells #[.int .i64 c.k0, .int .i64 c.k1, .int .i64 c.k2, .int .i64 c.a0, .int .i64 c.a1, .int .i64 c.a2, .slice c.ta c.tl c.tc, .int .i64 c.per, .int .i64 c.ret, .int .i64 c.age, .int .i64 c.dead] 25)).cell? ⟨w.heap.size, 2, none⟩ = some (.int .i64 c.k2) := by first | (simp; done) | (rw [World.cell?_alloc_at _ _ _ _ (by simp)]; rfl) | (rw [World.cell?_alloc_past _ _ _ (by simp <;> omega), World.cell?_alloc_at _ _ _ _ (by simp)]; rfl) | (rw [World.cell?_alloc_past _ _ _ (by simp <;> omega), World.cell?_alloc_past _ _ _ (by simp <;> omega), World.cell?_alloc_at _ _ _ _ (by simp)]; rfl)
    have cc3 : (w.alloc (.cells #[.int .i64 c.k0, .int .i64 c.k1, .int .i64 c.k2, .int .i64 c.a0, .int .i64 c.a1, .int .i64 c.a2, .slice c.ta c.tl c.tc, .int .i64 c.per, .int .i64 c.ret, .int .i64 c.age, .int .i64 c.dead] 25)).cell? ⟨w.heap.size, 3, none⟩ = some (.int .i64 c.a0) := by first | (simp; done) | (rw [World.cell?_alloc_at _ _ _ _ (by simp)]; rfl) | (rw [World.cell?_alloc_past _ _ _ (by simp <;> omega), World.cell?_alloc_at _ _ _ _ (by simp)]; rfl) | (rw [World.cell?_alloc_past _ _ _ (by simp <;> omega), World.cell?_alloc_past _ _ _ (by simp <;> omega), World.cell?_alloc_at _ _ _ _ (by simp)]; rfl)
    have cc4 : (w.alloc (.cells #[.int .i64 c.k0, .int .i64 c.k1, .int .i64 c.k2, .int .i64 c.a0, .int .i64 c.a1, .int .i64 c.a2, .slice c.ta c.tl c.tc, .int .i64 c.per, .int .i64 c.ret, .int .i64 c.age, .int .i64 c.dead] 25)).cell? ⟨w.heap.size, 4, none⟩ = some (.int .i64 c.a1) := by first | (simp; done) | (rw [World.cell?_alloc_at _ _ _ _ (by simp)]; rfl) | (rw [World.cell?_alloc_past _ _ _ (by simp <;> omega), World.cell?_alloc_at _ _ _ _ (by simp)]; rfl) | (rw [World.cell?_alloc_past _ _ _ (by simp <;> omega), World.cell?_alloc_past _ _ _ (by simp <;> omega), World.cell?_alloc_at _ _ _ _ (by simp)]; rfl)
    have cc5 : (w.alloc (.cells #[.int .i64 c.k0, .int .i64 c.k1, .int .i64 c.k2, .int .i64 c.a0, .int .i64 c.a1, .int .i64 c.a2, .slice c.ta c.tl c.tc, .int .i64 c.per, .int .i64 c.ret, .int .i64 c.age, .int .i64 c.dead] 25)).cell? ⟨w.heap.size, 5, none⟩ = some (.int .i64 c.a2) := by first | (simp; done) | (rw [World.cell?_alloc_at _ _ _ _ (by simp)]; rfl) | (rw [World.cell?_alloc_past _ _ _ (by simp <;> omega), World.cell?_alloc_at _ _ _ _ (by simp)]; rfl) | (rw [World.cell?_alloc_past _ _ _ (by simp <;> omega), World.cell?_alloc_past _ _ _ (by simp <;> omega), World.cell?_alloc_at _ _ _ _ (by simp)]; rfl)
    have cc6 : (w.alloc (.cells #[.int .i64 c.k0, .int .i64 c.k1, .int .i64 c.k2, .int .i64 c.a0, .int .i64 c.a1, .int .i64 c.a2, .slice c.ta c.tl c.tc, .int .i64 c.per, .int .i64 c.ret, .int .i64 c.age, .int .i64 c.dead] 25)).cell? ⟨w.heap.size, 6, none⟩ = some (.slice c.ta c.tl c.tc) := by first | (simp; done) | (rw [World.cell?_alloc_at _ _ _ _ (by simp)]; rfl) | (rw [World.cell?_alloc_past _ _ _ (by simp <;> omega), World.cell?_alloc_at _ _ _ _ (by simp)]; rfl) | (rw [World.cell?_alloc_past _ _ _ (by simp <;> omega), World.cell?_alloc_past _ _ _ (by simp <;> omega), World.cell?_alloc_at _ _ _ _ (by simp)]; rfl)
    have cc7 : (w.alloc (.cells #[.int .i64 c.k0, .int .i64 c.k1, .int .i64 c.k2, .int .i64 c.a0, .int .i64 c.a1, .int .i64 c.a2, .slice c.ta c.tl c.tc, .int .i64 c.per, .int .i64 c.ret, .int .i64 c.age, .int .i64 c.dead] 25)).cell? ⟨w.heap.size, 7, none⟩ = some (.int .i64 c.per) := by first | (simp; done) | (rw [World.cell?_alloc_at _ _ _ _ (by simp)]; rfl) | (rw [World.cell?_alloc_past _ _ _ (by simp <;> omega), World.cell?_alloc_at _ _ _ _ (by simp)]; rfl) | (rw [World.cell?_alloc_past _ _ _ (by simp <;> omega), World.cell?_alloc_past _ _ _ (by simp <;> omega), World.cell?_alloc_at _ _ _ _ (by simp)]; rfl)
    have cc8 : (w.alloc (.cells #[.int .i64 c.k0, .int .i64 c.k1, .int .i64 c.k2, .int .i64 c.a0, .int .i64 c.a1, .int .i64 c.a2, .slice c.ta c.tl c.tc, .int .i64 c.per, .int .i64 c.ret, .int .i64 c.age, .int .i64 c.dead] 25)).cell? ⟨w.heap.size, 8, none⟩ = some (.int .i64 c.ret) := by first | (simp; done) | (rw [World.cell?_alloc_at _ _ _ _ (by simp)]; rfl) | (rw [World.cell?_alloc_past _ _ _ (by simp <;> omega), World.cell?_alloc_at _ _ _ _ (by simp)]; rfl) | (rw [World.cell?_alloc_past _ _ _ (by simp <;> omega), World.cell?_alloc_past _ _ _ (by simp <;> omega), World.cell?_alloc_at _ _ _ _ (by simp)]; rfl)
    have cc9 : (w.alloc (.cells #[.int .i64 c.k0, .int .i64 c.k1, .int .i64 c.k2, .int .i64 c.a0, .int .i64 c.a1, .int .i64 c.a2, .slice c.ta c.tl c.tc, .int .i64 c.per, .int .i64 c.ret, .int .i64 c.age, .int .i64 c.dead] 25)).cell? ⟨w.heap.size, 9, none⟩ = some (.int .i64 c.age) := by first | (simp; done) | (rw [World.cell?_alloc_at _ _ _ _ (by simp)]; rfl) | (rw [World.cell?_alloc_past _ _ _ (by simp <;> omega), World.cell?_alloc_at _ _ _ _ (by simp)]; rfl) | (rw [World.cell?_alloc_past _ _ _ (by simp <;> omega), World.cell?_alloc_past _ _ _ (by simp <;> omega), World.cell?_alloc_at _ _ _ _ (by simp)]; rfl)
    have cc10 : (w.alloc (.cells #[.int .i64 c.k0, .int .i64 c.k1, .int .i64 c.k2, .int .i64 c.a0, .int .i64 c.a1, .int .i64 c.a2, .slice c.ta c.tl c.tc, .int .i64 c.per, .int .i64 c.ret, .int .i64 c.age, .int .i64 c.dead] 25)).cell? ⟨w.heap.size, 10, none⟩ = some (.int .i64 c.dead) := by first | (simp; done) | (rw [World.cell?_alloc_at _ _ _ _ (by simp)]; rfl) | (rw [World.cell?_alloc_past _ _ _ (by simp <;> omega), World.cell?_alloc_at _ _ _ _ (by simp)]; rfl) | (rw [World.cell?_alloc_past _ _ _ (by simp <;> omega), World.cell?_alloc_past _ _ _ (by simp <;> omega), World.cell?_alloc_at _ _ _ _ (by simp)]; rfl)
    have hb2 := (by repeat (first | exact hbel | refine belAlloc ?_ _ | refine belDrew ?_ | refine belSet ?_ _ _ (by simp)) : Below w.heap.size w (w.alloc (.cells #[.int .i64 c.k0, .int .i64 c.k1, .int .i64 c.k2, .int .i64 c.a0, .int .i64 c.a1, .int .i64 c.a2, .slice c.ta c.tl c.tc, .int .i64 c.per, .int .i64 c.ret, .int .i64 c.age, .int .i64 c.dead] 25)))
    replace hw := belStep hw hb2
    clear hb2 hbel
    generalize w.alloc (.cells #[.int .i64 c.k0, .int .i64 c.k1, .int .i64 c.k2, .int .i64 c.a0, .int .i64 c.a1, .int .i64 c.a2, .slice c.ta c.tl c.tc, .int .i64 c.per, .int .i64 c.ret, .int .i64 c.age, .int .i64 c.dead] 25) = W1 at *
    replace cc0 := keep cc0
    replace cc1 := keep cc1
    replace cc2 := keep cc2
    replace cc3 := keep cc3
    replace cc4 := keep cc4
    replace cc5 := keep cc5
    replace cc6 := keep cc6
    replace cc7 := keep cc7
    replace cc8 := keep cc8
    replace cc9 := keep cc9
    replace cc10 := keep cc10
    have hbel : Below W1.heap.size W1 W1 := Below.refl _ _
    skip
    have HW := Lib.hid hw
    go_upto_region 3 with (first | (go_at_call 9; (with_reducible refine (awake18 _).mono ?_); rintro e w1 ⟨rfl, hb1⟩; replace hbel := belStep hbel hb1; clear hb1) | (go_at_call 21; (with_reducible refine (CR.out _ (belStep HW.out hbel)).mono ?_); rintro e w2 ⟨⟨b, rfl, hT⟩, hb2⟩; replace hbel := belStep hbel hb2; have HTT := Lib.hid hT; clear hb2 hT; rcases Bool.eq_false_or_eq_true b with rfl | rfl))
    · have HG := Lib.hid (show ∀ u, Below w.heap.size w u → Good c u from fun u hu => ⟨HC.out.later hu, (HTT.out (by simp)).few, (HTT.out (by simp)).right⟩)
      have HK := Lib.hid (HTT.out (by simp)).caps
      have HCK := Lib.hid HC.out.ck
      have HRT := Lib.hid (show ∀ t ∈ c.L, t.right = true ∧ t.ok from fun t ht => ⟨(HTT.out (by simp)).right t ht, HC.out.thr t ht⟩)
      have HLs := Lib.hid (fun u (hu : Below w.heap.size w u) => Bools.later HLB.out hu)
      clear HC HLB HTT HT CR
      replace cc0 := keepOnP cc0 hbel
      replace cc1 := keepOnP cc1 hbel
      replace cc2 := keepOnP cc2 hbel
      replace cc3 := keepOnP cc3 hbel
      replace cc4 := keepOnP cc4 hbel
      replace cc5 := keepOnP cc5 hbel
      replace cc6 := keepOnP cc6 hbel
      replace cc7 := keepOnP cc7 hbel
      replace cc8 := keepOnP cc8 hbel
      replace cc9 := keepOnP cc9 hbel
      replace cc10 := keepOnP cc10 hbel
      replace hw := belStep hw hbel
      clear hbel
      generalize w2 = W2 at *
      have hbel : Below W2.heap.size W2 W2 := Below.refl _ _
      have HW2 := Lib.hid hw
      clear HW hw
      have hw : Below W2.heap.size W2 W2 := Below.refl _ _
      have CS := Lib.hid (fun u (hu : Below W2.heap.size W2 u) => gr_Signals c la lc l u (HG.out u (belStep HW2.out hu)) (HLs.out u (belStep HW2.out hu)))
      have CT := Lib.hid (fun u (hu : Below W2.heap.size W2 u) => ref_Signals c la lc l u (HG.out u (belStep HW2.out hu)) (HLs.out u (belStep HW2.out hu)))
      have P0 := Lib.hid (sg_pos c l 0 c.k0 HRT.out HCK.out.1 HK.out.1 c.tl)
      have P1 := Lib.hid (sg_pos c l 1 c.k1 HRT.out HCK.out.2.1 HK.out.2.1 c.tl)
      have P2 := Lib.hid (sg_pos c l 2 c.k2 HRT.out HCK.out.2.2 HK.out.2.2 c.tl)
      have E0 := Lib.hid (fun u (hu : Below W2.heap.size W2 u) => gr_Edge c la lc l 0 u (HG.out u (belStep HW2.out hu)) (HLs.out u (belStep HW2.out hu)) (by omega) HK.out)
      have E1 := Lib.hid (fun u (hu : Below W2.heap.size W2 u) => gr_Edge c la lc l 1 u (HG.out u (belStep HW2.out hu)) (HLs.out u (belStep HW2.out hu)) (by omega) HK.out)
      have E2 := Lib.hid (fun u (hu : Below W2.heap.size W2 u) => gr_Edge c la lc l 2 u (HG.out u (belStep HW2.out hu)) (HLs.out u (belStep HW2.out hu)) (by omega) HK.out)
      have F0 := Lib.hid (fun u (hu : Below W2.heap.size W2 u) => ref_Edge c la lc l 0 u (HG.out u (belStep HW2.out hu)) (HLs.out u (belStep HW2.out hu)) (by omega) HK.out)
      have F1 := Lib.hid (fun u (hu : Below W2.heap.size W2 u) => ref_Edge c la lc l 1 u (HG.out u (belStep HW2.out hu)) (HLs.out u (belStep HW2.out hu)) (by omega) HK.out)
      have F2 := Lib.hid (fun u (hu : Below W2.heap.size W2 u) => ref_Edge c la lc l 2 u (HG.out u (belStep HW2.out hu)) (HLs.out u (belStep HW2.out hu)) (by omega) HK.out)
      rw [show sel 0 c.k0 c.k1 c.k2 = c.k0 from rfl] at E0 F0
      rw [show sel 1 c.k0 c.k1 c.k2 = c.k1 from rfl] at E1 F1
      rw [show sel 2 c.k0 c.k1 c.k2 = c.k2 from rfl] at E2 F2
      generalize sgE c l c.tl 0 c.k0 = e0 at *
      generalize sgE c l c.tl 1 c.k1 = e1 at *
      generalize sgE c l c.tl 2 c.k2 = e2 at *
      generalize sgB c l c.tl 0 = p0 at *
      generalize sgB c l c.tl 1 = p1 at *
      generalize sgB c l c.tl 2 = p2 at *
      have heq := eq3_bool p0 p1 p2 p0 p1 p2
      simp only [beq_self_eq_true, Bool.and_self] at heq
      go_upto_region 4 with (first | (go_at_call 22; (with_reducible refine (CS.out _ hbel).mono ?_); rintro e w4 ⟨rfl, hb4⟩; replace hbel := belStep hbel hb4; clear hb4))
      have ss0 : (w4.alloc (.cells #[.bool p0, .bool p1, .bool p2] 38)).cell? ⟨w4.heap.size, 0, none⟩ = some (.bool p0) := by first | (simp; done) | (rw [World.cell?_alloc_at _ _ _ _ (by simp)]; rfl) | (rw [World.cell?_alloc_past _ _ _ (by simp <;> omega), World.cell?_alloc_at _ _ _ _ (by simp)]; rfl) | (rw [World.cell?_alloc_past _ _ _ (by simp <;> omega), World.cell?_alloc_past _ _ _ (by simp <;> omega), World.cell?_alloc_at _ _ _ _ (by simp)]; rfl)
      have ss1 : (w4.alloc (.cells #[.bool p0, .bool p1, .bool p2] 38)).cell? ⟨w4.heap.size, 1, none⟩ = some (.bool p1) := by first | (simp; done) | (rw [World.cell?_alloc_at _ _ _ _ (by simp)]; rfl) | (rw [World.cell?_alloc_past _ _ _ (by simp <;> omega), World.cell?_alloc_at _ _ _ _ (by simp)]; rfl) | (rw [World.cell?_alloc_past _ _ _ (by simp <;> omega), World.cell?_alloc_past _ _ _ (by simp <;> omega), World.cell?_alloc_at _ _ _ _ (by simp)]; rfl)
      have ss2 : (w4.alloc (.cells #[.bool p0, .bool p1, .bool p2] 38)).cell? ⟨w4.heap.size, 2, none⟩ = some (.bool p2) := by first | (simp; done) | (rw [World.cell?_alloc_at _ _ _ _ (by simp)]; rfl) | (rw [World.cell?_alloc_past _ _ _ (by simp <;> omega), World.cell?_alloc_at _ _ _ _ (by simp)]; rfl) | (rw [World.cell?_alloc_past _ _ _ (by simp <;> omega), World.cell?_alloc_past _ _ _ (by simp <;> omega), World.cell?_alloc_at _ _ _ _ (by simp)]; rfl)
      have hb2 := (by repeat (first | exact hbel | refine belAlloc ?_ _ | refine belDrew ?_ | refine belSet ?_ _ _ (by simp)) : Below W2.heap.size W2 (w4.alloc (.cells #[.bool p0, .bool p1, .bool p2] 38)))
      replace cc0 := keepOnP cc0 hb2
      replace cc1 := keepOnP cc1 hb2
      replace cc2 := keepOnP cc2 hb2
      replace cc3 := keepOnP cc3 hb2
      replace cc4 := keepOnP cc4 hb2
      replace cc5 := keepOnP cc5 hb2
      replace cc6 := keepOnP cc6 hb2
      replace cc7 := keepOnP cc7 hb2
      replace cc8 := keepOnP cc8 hb2
      replace cc9 := keepOnP cc9 hb2
      replace cc10 := keepOnP cc10 hb2
      replace hw := belStep hw hb2
      clear hb2 hbel
      generalize w4.alloc (.cells #[.bool p0, .bool p1, .bool p2] 38) = W3 at *
      replace ss0 := keep ss0
      replace ss1 := keep ss1
      replace ss2 := keep ss2
      generalize w4.heap.size = N4 at *
      have hbel : Below W3.heap.size W3 W3 := Below.refl _ _
      clear w4
      have CT1 := Lib.hid (fun u (hu : Below W3.heap.size W3 u) => CT.out u (belStep hw hu))
      have kk := fun d os => belStep hbel (below_regrown _ d os)
      refine wp_region_quiet_below (by kernel_rfl) (by kernel_rfl) ?_
      repeat ((with_reducible refine wpQuiet_step (fun K hK => ?_)); go_simp; (try (rw [if_neg]; rotate_left; · decide)); first | ((with_reducible refine hK _ ?_); clear hK K) | (apply Exists.intro; refine ⟨fun _ => ?_, hK _ ?_⟩; (first | (go_at_call 23; with_reducible exact Calls.regrown_of (CT1.out _ (kk _ _)))); clear hK K))
      refine wpQuiet_nil (fun w1 hw1 => ?_)
      replace hbel := belStep hbel (bel_of_class hw1)
      clear hw1 kk
      go_wp2
      have HW3 := Lib.hid hw
      have HB3 := Lib.hid hbel
      clear hbel hw
      go_loopw [6] (fun i wr => (i = .int .i64 0 ∨ i = .int .i64 1 ∨ i = .int .i64 2 ∨ i = .int .i64 3) ∧ Below W3.heap.size W3 wr) (fun i _ => 3 - (intOf i).toNat)
      case atStart => exact ⟨.inl rfl, HB3.out⟩
      case round =>
        obtain ⟨hi, hbel⟩ := hrel
        rcases hi with rfl | rfl | rfl | rfl
        · have hp := P0.out
          by_cases g : 0 < e0
          · rw [decide_eq_true g] at hp
            subst hp
            go_wp2_with (first | (go_at_call 24; (with_reducible refine (E0.out _ (belStep HW3.out hbel)).mono ?_); rintro e w5 ⟨rfl, hb5⟩; replace hbel := belStep hbel hb5; clear hb5) | (go_at_call 25; (with_reducible refine (F0.out _ (belStep HW3.out hbel)).mono ?_); rintro e w5 ⟨rfl, hb5⟩; replace hbel := belStep hbel hb5; clear hb5))
            go_roundw
            case rel => exact ⟨.inr (.inl rfl), hbel⟩
            case measure => simp [intOf]
          · rw [decide_eq_false g] at hp
            subst hp
            go_wp2_with (first | (go_at_call 24; (with_reducible refine (E0.out _ (belStep HW3.out hbel)).mono ?_); rintro e w5 ⟨rfl, hb5⟩; replace hbel := belStep hbel hb5; clear hb5) | (go_at_call 25; (with_reducible refine (F0.out _ (belStep HW3.out hbel)).mono ?_); rintro e w5 ⟨rfl, hb5⟩; replace hbel := belStep hbel hb5; clear hb5))
            go_roundw
            case rel => exact ⟨.inr (.inl rfl), hbel⟩
            case measure => simp [intOf]
        · have hp := P1.out
          by_cases g : 0 < e1
          · rw [decide_eq_true g] at hp
            subst hp
            go_wp2_with (first | (go_at_call 24; (with_reducible refine (E1.out _ (belStep HW3.out hbel)).mono ?_); rintro e w5 ⟨rfl, hb5⟩; replace hbel := belStep hbel hb5; clear hb5) | (go_at_call 25; (with_reducible refine (F1.out _ (belStep HW3.out hbel)).mono ?_); rintro e w5 ⟨rfl, hb5⟩; replace hbel := belStep hbel hb5; clear hb5))
            go_roundw
            case rel => exact ⟨.inr (.inr (.inl rfl)), hbel⟩
            case measure => simp [intOf]
          · rw [decide_eq_false g] at hp
            subst hp
            go_wp2_with (first | (go_at_call 24; (with_reducible refine (E1.out _ (belStep HW3.out hbel)).mono ?_); rintro e w5 ⟨rfl, hb5⟩; replace hbel := belStep hbel hb5; clear hb5) | (go_at_call 25; (with_reducible refine (F1.out _ (belStep HW3.out hbel)).mono ?_); rintro e w5 ⟨rfl, hb5⟩; replace hbel := belStep hbel hb5; clear hb5))
            go_roundw
            case rel => exact ⟨.inr (.inr (.inl rfl)), hbel⟩
            case measure => simp [intOf]
        · have hp := P2.out
          by_cases g : 0 < e2
          · rw [decide_eq_true g] at hp
            subst hp
            go_wp2_with (first | (go_at_call 24; (with_reducible refine (E2.out _ (belStep HW3.out hbel)).mono ?_); rintro e w5 ⟨rfl, hb5⟩; replace hbel := belStep hbel hb5; clear hb5) | (go_at_call 25; (with_reducible refine (F2.out _ (belStep HW3.out hbel)).mono ?_); rintro e w5 ⟨rfl, hb5⟩; replace hbel := belStep hbel hb5; clear hb5))
            go_roundw
            case rel => exact ⟨.inr (.inr (.inr rfl)), hbel⟩
            case measure => simp [intOf]
          · rw [decide_eq_false g] at hp
            subst hp
            go_wp2_with (first | (go_at_call 24; (with_reducible refine (E2.out _ (belStep HW3.out hbel)).mono ?_); rintro e w5 ⟨rfl, hb5⟩; replace hbel := belStep hbel hb5; clear hb5) | (go_at_call 25; (with_reducible refine (F2.out _ (belStep HW3.out hbel)).mono ?_); rintro e w5 ⟨rfl, hb5⟩; replace hbel := belStep hbel hb5; clear hb5))
            go_roundw
            case rel => exact ⟨.inr (.inr (.inr rfl)), hbel⟩
            case measure => simp [intOf]
        · go_wp2
          go_ret
          exact ⟨rfl, belStep HW2.out (belStep HW3.out hbel)⟩
    · go_wp2_with (first | (go_at_call 9; (with_reducible refine (awake18 _).mono ?_); rintro e w1 ⟨rfl, hb1⟩; replace hbel := belStep hbel hb1; clear hb1))
      go_ret
      exact ⟨rfl, belStep HW.out hbel⟩
  · have q2 : ((ln : Int) == (c.tl : Int)) = false := by simp; omega
    go_enter Try.func4, Try.ntmps4
    go_upto_region 1 with fail
    have cc0 : (w.alloc (.cells #[.int .i64 c.k0, .int .i64 c.k1, .int .i64 c.k2, .int .i64 c.a0, .int .i64 c.a1, .int .i64 c.a2, .slice c.ta c.tl c.tc, .int .i64 c.per, .int .i64 c.ret, .int .i64 c.age, .int .i64 c.dead] 25)).cell? ⟨w.heap.size, 0, none⟩ = some (.int .i64 c.k0) := by first | (simp; done) | (rw [World.cell?_alloc_at _ _ _ _ (by simp)]; rfl) | (rw [World.cell?_alloc_past _ _ _ (by simp <;> omega), World.cell?_alloc_at _ _ _ _ (by simp)]; rfl) | (rw [World.cell?_alloc_past _ _ _ (by simp <;> omega), World.cell?_alloc_past _ _ _ (by simp <;> omega), World.cell?_alloc_at _ _ _ _ (by simp)]; rfl)
    have cc1 : (w.alloc (.cells #[.int .i64 c.k0, .int .i64 c.k1, .int .i64 c.k2, .int .i64 c.a0, .int .i64 c.a1, .int .i64 c.a2, .slice c.ta c.tl c.tc, .int .i64 c.per, .int .i64 c.ret, .int .i64 c.age, .int .i64 c.dead] 25)).cell? ⟨w.heap.size, 1, none⟩ = some (.int .i64 c.k1) := by first | (simp; done) | (rw [World.cell?_alloc_at _ _ _ _ (by simp)]; rfl) | (rw [World.cell?_alloc_past _ _ _ (by simp <;> omega), World.cell?_alloc_at _ _ _ _ (by simp)]; rfl) | (rw [World.cell?_alloc_past _ _ _ (by simp <;> omega), World.cell?_alloc_past _ _ _ (by simp <;> omega), World.cell?_alloc_at _ _ _ _ (by simp)]; rfl)
    have cc2 : (w.alloc (.cells #[.int .i64 c.k0, .int .i64 c.k1, .int .i64 c.k2, .int .i64 c.a0, .int .i64 c.a1, .int .i64 c.a2, .slice c.ta c.tl c.tc, .int .i64 c.per, .int .i64 c.ret, .int .i64 c.age, .int .i64 c.dead] 25)).cell? ⟨w.heap.size, 2, none⟩ = some (.int .i64 c.k2) := by first | (simp; done) | (rw [World.cell?_alloc_at _ _ _ _ (by simp)]; rfl) | (rw [World.cell?_alloc_past _ _ _ (by simp <;> omega), World.cell?_alloc_at _ _ _ _ (by simp)]; rfl) | (rw [World.cell?_alloc_past _ _ _ (by simp <;> omega), World.cell?_alloc_past _ _ _ (by simp <;> omega), World.cell?_alloc_at _ _ _ _ (by simp)]; rfl)
    have cc3 : (w.alloc (.cells #[.int .i64 c.k0, .int .i64 c.k1, .int .i64 c.k2, .int .i64 c.a0, .int .i64 c.a1, .int .i64 c.a2, .slice c.ta c.tl c.tc, .int .i64 c.per, .int .i64 c.ret, .int .i64 c.age, .int .i64 c.dead] 25)).cell? ⟨w.heap.size, 3, none⟩ = some (.int .i64 c.a0) := by first | (simp; done) | (rw [World.cell?_alloc_at _ _ _ _ (by simp)]; rfl) | (rw [World.cell?_alloc_past _ _ _ (by simp <;> omega), World.cell?_alloc_at _ _ _ _ (by simp)]; rfl) | (rw [World.cell?_alloc_past _ _ _ (by simp <;> omega), World.cell?_alloc_past _ _ _ (by simp <;> omega), World.cell?_alloc_at _ _ _ _ (by simp)]; rfl)
    have cc4 : (w.alloc (.cells #[.int .i64 c.k0, .int .i64 c.k1, .int .i64 c.k2, .int .i64 c.a0, .int .i64 c.a1, .int .i64 c.a2, .slice c.ta c.tl c.tc, .int .i64 c.per, .int .i64 c.ret, .int .i64 c.age, .int .i64 c.dead] 25)).cell? ⟨w.heap.size, 4, none⟩ = some (.int .i64 c.a1) := by first | (simp; done) | (rw [World.cell?_alloc_at _ _ _ _ (by simp)]; rfl) | (rw [World.cell?_alloc_past _ _ _ (by simp <;> omega), World.cell?_alloc_at _ _ _ _ (by simp)]; rfl) | (rw [World.cell?_alloc_past _ _ _ (by simp <;> omega), World.cell?_alloc_past _ _ _ (by simp <;> omega), World.cell?_alloc_at _ _ _ _ (by simp)]; rfl)
    have cc5 : (w.alloc (.cells #[.int .i64 c.k0, .int .i64 c.k1, .int .i64 c.k2, .int .i64 c.a0, .int .i64 c.a1, .int .i64 c.a2, .slice c.ta c.tl c.tc, .int .i64 c.per, .int .i64 c.ret, .int .i64 c.age, .int .i64 c.dead] 25)).cell? ⟨w.heap.size, 5, none⟩ = some (.int .i64 c.a2) := by first | (simp; done) | (rw [World.cell?_alloc_at _ _ _ _ (by simp)]; rfl) | (rw [World.cell?_alloc_past _ _ _ (by simp <;> omega), World.cell?_alloc_at _ _ _ _ (by simp)]; rfl) | (rw [World.cell?_alloc_past _ _ _ (by simp <;> omega), World.cell?_alloc_past _ _ _ (by simp <;> omega), World.cell?_alloc_at _ _ _ _ (by simp)]; rfl)
    have cc6 : (w.alloc (.cells #[.int .i64 c.k0, .int .i64 c.k1, .int .i64 c.k2, .int .i64 c.a0, .int .i64 c.a1, .int .i64 c.a2, .slice c.ta c.tl c.tc, .int .i64 c.per, .int .i64 c.ret, .int .i64 c.age, .int .i64 c.dead] 25)).cell? ⟨w.heap.size, 6, none⟩ = some (.slice c.ta c.tl c.tc) := by first | (simp; done) | (rw [World.cell?_alloc_at _ _ _ _ (by simp)]; rfl) | (rw [World.cell?_alloc_past _ _ _ (by simp <;> omega), World.cell?_alloc_at _ _ _ _ (by simp)]; rfl) | (rw [World.cell?_alloc_past _ _ _ (by simp <;> omega), World.cell?_alloc_past _ _ _ (by simp <;> omega), World.cell?_alloc_at _ _ _ _ (by simp)]; rfl)
    have cc7 : (w.alloc (.cells #[.int .i64 c.k0, .int .i64 c.k1, .int .i64 c.k2, .int .i64 c.a0, .int .i64 c.a1, .int .i64 c.a2, .slice c.ta c.tl c.tc, .int .i64 c.per, .int .i64 c.ret, .int .i64 c.age, .int .i64 c.dead] 25)).cell? ⟨w.heap.size, 7, none⟩ = some (.int .i64 c.per) := by first | (simp; done) | (rw [World.cell?_alloc_at _ _ _ _ (by simp)]; rfl) | (rw [World.cell?_alloc_past _ _ _ (by simp <;> omega), World.cell?_alloc_at _ _ _ _ (by simp)]; rfl) | (rw [World.cell?_alloc_past _ _ _ (by simp <;> omega), World.cell?_alloc_past _ _ _ (by simp <;> omega), World.cell?_alloc_at _ _ _ _ (by simp)]; rfl)
    have cc8 : (w.alloc (.cells #[.int .i64 c.k0, .int .i64 c.k1, .int .i64 c.k2, .int .i64 c.a0, .int .i64 c.a1, .int .i64 c.a2, .slice c.ta c.tl c.tc, .int .i64 c.per, .int .i64 c.ret, .int .i64 c.age, .int .i64 c.dead] 25)).cell? ⟨w.heap.size, 8, none⟩ = some (.int .i64 c.ret) := by first | (simp; done) | (rw [World.cell?_alloc_at _ _ _ _ (by simp)]; rfl) | (rw [World.cell?_alloc_past _ _ _ (by simp <;> omega), World.cell?_alloc_at _ _ _ _ (by simp)]; rfl) | (rw [World.cell?_alloc_past _ _ _ (by simp <;> omega), World.cell?_alloc_past _ _ _ (by simp <;> omega), World.cell?_alloc_at _ _ _ _ (by simp)]; rfl)
    have cc9 : (w.alloc (.cells #[.int .i64 c.k0, .int .i64 c.k1, .int .i64 c.k2, .int .i64 c.a0, .int .i64 c.a1, .int .i64 c.a2, .slice c.ta c.tl c.tc, .int .i64 c.per, .int .i64 c.ret, .int .i64 c.age, .int .i64 c.dead] 25)).cell? ⟨w.heap.size, 9, none⟩ = some (.int .i64 c.age) := by first | (simp; done) | (rw [World.cell?_alloc_at _ _ _ _ (by simp)]; rfl) | (rw [World.cell?_alloc_past _ _ _ (by simp <;> omega), World.cell?_alloc_at _ _ _ _ (by simp)]; rfl) | (rw [World.cell?_alloc_past _ _ _ (by simp <;> omega), World.cell?_alloc_past _ _ _ (by simp <;> omega), World.cell?_alloc_at _ _ _ _ (by simp)]; rfl)
    have cc10 : (w.alloc (.cells #[.int .i64 c.k0, .int .i64 c.k1, .int .i64 c.k2, .int .i64 c.a0, .int .i64 c.a1, .int .i64 c.a2, .slice c.ta c.tl c.tc, .int .i64 c.per, .int .i64 c.ret, .int .i64 c.age, .int .i64 c.dead] 25)).cell? ⟨w.heap.size, 10, none⟩ = some (.int .i64 c.dead) := by first | (simp; done) | (rw [World.cell?_alloc_at _ _ _ _ (by simp)]; rfl) | (rw [World.cell?_alloc_past _ _ _ (by simp <;> omega), World.cell?_alloc_at _ _ _ _ (by simp)]; rfl) | (rw [World.cell?_alloc_past _ _ _ (by simp <;> omega), World.cell?_alloc_past _ _ _ (by simp <;> omega), World.cell?_alloc_at _ _ _ _ (by simp)]; rfl)
    have hb2 := (by repeat (first | exact hbel | refine belAlloc ?_ _ | refine belDrew ?_ | refine belSet ?_ _ _ (by simp)) : Below w.heap.size w (w.alloc (.cells #[.int .i64 c.k0, .int .i64 c.k1, .int .i64 c.k2, .int .i64 c.a0, .int .i64 c.a1, .int .i64 c.a2, .slice c.ta c.tl c.tc, .int .i64 c.per, .int .i64 c.ret, .int .i64 c.age, .int .i64 c.dead] 25)))
    replace hw := belStep hw hb2
    clear hb2 hbel
    generalize w.alloc (.cells #[.int .i64 c.k0, .int .i64 c.k1, .int .i64 c.k2, .int .i64 c.a0, .int .i64 c.a1, .int .i64 c.a2, .slice c.ta c.tl c.tc, .int .i64 c.per, .int .i64 c.ret, .int .i64 c.age, .int .i64 c.dead] 25) = W1 at *
    replace cc0 := keep cc0
    replace cc1 := keep cc1
    replace cc2 := keep cc2
    replace cc3 := keep cc3
    replace cc4 := keep cc4
    replace cc5 := keep cc5
    replace cc6 := keep cc6
    replace cc7 := keep cc7
    replace cc8 := keep cc8
    replace cc9 := keep cc9
    replace cc10 := keep cc10
    have hbel : Below W1.heap.size W1 W1 := Below.refl _ _
    skip
    have HW := Lib.hid hw
    go_wp2_with (first | (go_at_call 9; (with_reducible refine (awake18 _).mono ?_); rintro e w1 ⟨rfl, hb1⟩; replace hbel := belStep hbel hb1; clear hb1) | (go_at_call 21; (with_reducible refine (CR.out _ (belStep HW.out hbel)).mono ?_); rintro e w2 ⟨⟨b, rfl, hT⟩, hb2⟩; replace hbel := belStep hbel hb2; have HTT := Lib.hid hT; clear hb2 hT; rcases Bool.eq_false_or_eq_true b with rfl | rfl))
    all_goals
      go_ret
      exact ⟨rfl, belStep HW.out hbel⟩

set_option maxRecDepth 100000 in
theorem lifted (os : Os) (started : os.Started) (H : Type) (enc : TypeId × Value → H) :
    ReturnsInHanded {} Try.checked os 4 .any (Rows.graceSignalsSpec.pre6 enc Try.prog Try.f4 Rows.graceSignalsRow.domain false) (Rows.graceSignalsSpec.post enc Try.prog Try.f4 false true false false) := by
  refine returnsInHanded_of_change (C := Try.checked) own started (by kernel_rfl) Try.func4
    (ChangeSpec.witness6 (enc := enc) (C := Try.checked) false ⟨#[], #[.agg #[.int .i64 0, .int .i64 0, .int .i64 0, .int .i64 0, .int .i64 0, .int .i64 0, .slice none 0 0, .int .i64 0, .int .i64 0, .int .i64 0, .int .i64 0], .slice none 0 0], []⟩ 8 (by kernel_rfl) (by kernel_rfl) (by kernel_rfl) (by kernel_rfl)) ?_
  intro W base args ds gs before hval0 hW hcnd _
  have hval : ∀ (j : Nat) t v, Try.f4.params[j]? = some t → args[j]? = some v → Value.okWide Try.prog W .any base t v := hval0
  have hW' := hW
  obtain ⟨p, q, hA0, hV, rfl, hfz, hnd⟩ := hW
  have hA : DataW.TrodAll enc Try.prog W 0 (fun _ => true) true Try.f4.params.toList args.toList ds p := hA0
  rw [Try.params4] at hA hval
  obtain ⟨v0, vs0, d0, ds0, p0, q0, hargs, rfl, rfl, h0, r0⟩ := trodAll_cons hA
  obtain ⟨v1, vs1, d1, ds1, p1, q1, rfl, rfl, rfl, h1, r1⟩ := trodAll_cons r0
  obtain ⟨rfl, rfl, rfl⟩ := trodAll_nil r1
  obtain rfl : args = #[v0, v1] := by cases args; simp_all
  obtain ⟨rfl, rfl⟩ := trodVars_none hV
  have k0 := h0
  have lt0 : ∀ x ∈ p0, x.block < W.heap.size := by obtain ⟨m, hm⟩ := k0; exact DataW.trod_lt m _ _ _ hm
  have o0 : Value.okWide Try.prog W .any base 25 v0 := hval 0 25 v0 rfl rfl
  obtain ⟨c0, rfl, hc0⟩ := open_cfg o0 h0
  have k1 := h1
  have lt1 : ∀ x ∈ p1, x.block < W.heap.size := by obtain ⟨m, hm⟩ := k1; exact DataW.trod_lt m _ _ _ hm
  have o1 : Value.okWide Try.prog W .any base 33 v1 := hval 1 33 v1 rfl rfl
  obtain ⟨a1, len1, cap1, rfl⟩ := okWide_slice Try.underlying33 o1
  obtain ⟨z1, w1⟩ : ∃ zs, Bools W a1 len1 cap1 zs := bools_of_trod Try.underlying33 Try.underlying4 (by kernel_rfl) h1
  clear hA0 hval0
  refine (walk c0 a1 len1 cap1 z1 W hc0 w1).mono fun e W' ⟨he, bel⟩ => ?_
  subst he
  exact ⟨_, rfl, _, _, _, [], _, [], hW', trodAll_mk1 (shut_bool Try.underlying4 _), (trodAll_cons_mk (Below.trod laidOut (by kernel_rfl) (of_decide_eq_true (by kernel_rfl)) k0 bel lt0) (trodAll_cons_mk (Below.trod laidOut (by kernel_rfl) (of_decide_eq_true (by kernel_rfl)) k1 bel lt1) trodAll_mk0)), rfl, bel.frame _, fun h => by cases h⟩

theorem over : Rows.graceSignalsRow.holds Try.pinned (OpenSpec.ofChange Rows.graceSignalsSpec) :=
  OpenClaim.holds_of_wide 4 Try.f4 rfl rfl rfl rfl rfl rfl rfl ⟨rfl, rfl, rfl, rfl, rfl⟩ rfl rfl rfl rfl rfl (by kernel_rfl) Try.func4 (by kernel_rfl)
    (of_decide_eq_true (by kernel_rfl)) (by unfold Func.isWrapper; first | (rw [if_pos (by decide +kernel)]; kernel_rfl) | (rw [if_neg (by decide +kernel)]; exact ⟨rfl, rfl⟩))
    (fun os started H enc _ => lifted os started H enc)

/-- The statement. -/
theorem proved : Rows.GraceSignalsSaid := over
#print axioms proved

end Go.Proofs.Ytbancemkajgljaa.graceSignals
