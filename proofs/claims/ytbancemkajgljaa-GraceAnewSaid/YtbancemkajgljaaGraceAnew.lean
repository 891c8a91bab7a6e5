/- GraceAnew holds for every config, timers and samples: behind a sample that has plenty of all, no soft threshold holds for as many rounds as its grace. No conditions. -/
import Derived.Test.YtbancemkajgljaaGrRows
namespace Go.Proofs.Ytbancemkajgljaa.graceAnew
open Go.ChangeShapes Go.WideShapes Go.ChangeAt Go.RowKit
open Go.ChangeMaps (open_string shut_string)
set_option linter.unusedVariables false
set_option linter.unusedSimpArgs false

def atA (L : List RowV) (r : Int) (i : Nat) : Int := r + atR L i
def svA (c : CfgV) (L : List RowV) (r : Int) (n : Nat) : List Int := c.L.map (fun t => sv (fR c L t) (atA L r) n)
theorem svA_next (c : CfgV) (L : List RowV) (r0 : Int) (n : Nat) (r : RowV) (hr : L[n]? = some r) (h : ∀ i, i ≤ n → atA L r0 i ≠ -1) : stepL c (svA c L r0 n) r.v0 r.v1 r.v2 (atA L r0 n) = svA c L r0 (n + 1) := by
  unfold stepL svA
  rw [List.zipWith_map_right, List.zipWith_self]
  refine List.map_congr_left (fun t _ => ?_)
  rw [sv_next _ _ _ h]
  have : fR c L t n = met3 c t r.v0 r.v1 r.v2 := by unfold fR; rw [hr]
  rw [this]
theorem svA_el {c : CfgV} {L : List RowV} {r : Int} {n k : Nat} {t : ThrV} (ht : c.L[k]? = some t) : el (svA c L r n) k = sv (fR c L t) (atA L r) n := by
  unfold el svA; rw [List.getD_eq_getElem?_getD, List.getElem?_map, ht]; rfl
theorem svA_len (c : CfgV) (L : List RowV) (r : Int) (n : Nat) : (svA c L r n).length = c.L.length := by unfold svA; simp
theorem sv_bdG (f : Nat → Bool) (at' : Nat → Int) (n : Nat) (M : Int) (hM : 0 ≤ M) (h : ∀ i, i < n → 1 ≤ at' i ∧ at' i ≤ M) : -1 ≤ sv f at' n ∧ sv f at' n ≤ M := by
  unfold sv
  split
  · rename_i q; have := h _ q; omega
  · omega
theorem met_plenty (c : CfgV) (t : ThrV) (ht : t.ok) (hr : t.right = true) (hk : InI c.k0 ∧ InI c.k1 ∧ InI c.k2) : met3 c t 9223372036854775807 9223372036854775807 9223372036854775807 = false := by
  unfold met3
  rw [show sel t.sig (9223372036854775807 : Int) 9223372036854775807 9223372036854775807 = 9223372036854775807 by unfold sel; split <;> (try split) <;> rfl]
  have hc := satNum_bd _ (sel_in (s := t.sig) hk.1 hk.2.1 hk.2.2)
  generalize satNum (sel t.sig c.k0 c.k1 c.k2) = cp at *
  obtain ⟨_, hp, _⟩ := ThrV.facts hr
  unfold metF
  rcases hp with ⟨p1, p2, p3⟩ | ⟨p1, p2⟩
  · rw [if_pos (by omega)]
    refine decide_eq_false ?_
    rw [show satNum t.pct = t.pct by unfold satNum; omega, show satNum 9223372036854775807 = 9223372036854775807 from rfl]
    have h1 : satNum (sel t.sig c.k0 c.k1 c.k2) * t.pct ≤ 9223372036854775807 * 100 := Int.mul_le_mul (satNum_bd _ (sel_in (s := t.sig) hk.1 hk.2.1 hk.2.2)).2 p2 (by omega) (by omega)
    omega
  · rw [if_neg (by omega)]
    refine decide_eq_false ?_
    have := ht.2.2.1
    unfold InI at this
    omega
theorem step_plenty (c : CfgV) (S : List Int) (r : Int) (L : List RowV) (r' : Int) (hS : S.length = c.L.length) (hg : ∀ t ∈ c.L, t.right = true ∧ t.ok) (hk : InI c.k0 ∧ InI c.k1 ∧ InI c.k2) : stepL c S 9223372036854775807 9223372036854775807 9223372036854775807 r = svA c L r' 0 := by
  unfold stepL svA
  have : ∀ (l : List ThrV) (S : List Int), S.length = l.length → (∀ t ∈ l, t.right = true ∧ t.ok) → List.zipWith (fun t s => stepE (met3 c t 9223372036854775807 9223372036854775807 9223372036854775807) s r) l S = l.map (fun t => sv (fR c L t) (atA L r') 0) := by
    intro l
    induction l with
    | nil => intro S _ _; simp
    | cons t l ih =>
      intro S hS hg
      cases S with
      | nil => simp at hS
      | cons s S =>
        simp at hS
        rw [List.zipWith_cons_cons, List.map_cons, ih S hS (fun q hq => hg q (List.mem_cons_of_mem _ hq)), met_plenty c t (hg t List.mem_cons_self).2 (hg t List.mem_cons_self).1 hk]
        rfl
  exact this c.L S hS hg
theorem atR_mono {L : List RowV} (h : ∀ r ∈ L, r.ok) (j : Nat) : atR L 0 ≤ atR L j := by
  show sumR (L.take 1) ≤ sumR (L.take (j + 1))
  have e : L.take (j + 1) = (L.take (j + 1)).take 1 ++ (L.take (j + 1)).drop 1 := (List.take_append_drop 1 _).symm
  rw [e, sumR_app, List.take_take, show min 1 (j + 1) = 1 by omega]
  have := (sumR_bd ((L.take (j + 1)).drop 1) (fun r hr => h r (List.mem_of_mem_take (List.mem_of_mem_drop hr)))).1
  omega
/-- What holds behind the plenty has held for its grace. -/
theorem anew_hold (c : CfgV) (L : List RowV) (r : Int) (t : ThrV) (n : Nat) (h : ∀ q ∈ L, q.ok) (hne : ∀ i, i ≤ n → atA L r i ≠ -1) (hz : holdE t (sv (fR c L t) (atA L r) (n + 1)) (atA L r n) = true) (hs : t.soft = true) : ¬ atR L n - atR L 0 < t.grace := by
  rw [sv_hold _ _ _ _ hne, hs] at hz
  simp only [Bool.not_true, Bool.false_or, Bool.and_eq_true, decide_eq_true_eq] at hz
  have := atR_mono h (js (fR c L t) (n + 1))
  unfold atA at hz
  omega

set_option maxRecDepth 100000 in
set_option maxHeartbeats 8000000 in
theorem walk (c : CfgV) (sa : Option Addr) (sl sc : Nat) (S : List Int) (r0 : Int) (la : Option Addr) (n lc : Nat) (L : List RowV) (w : World) (hc : c.ok w) (hS : Ints .i64 w sa sl sc S) (hr0 : InI r0) (hL : L.length = n) (hok : ∀ r ∈ L, r.ok) (hR : Row w la n lc 4 (L.flatMap RowV.cells)) : Calls Try.prog 6 #[.agg #[.int .i64 c.k0, .int .i64 c.k1, .int .i64 c.k2, .int .i64 c.a0, .int .i64 c.a1, .int .i64 c.a2, .slice c.ta c.tl c.tc, .int .i64 c.per, .int .i64 c.ret, .int .i64 c.age, .int .i64 c.dead], .slice sa sl sc, .int .i64 r0, .slice la n lc] w fun e w' => e = .returned (.bool true) ∧ Below w.heap.size w w' := by
  have hw : Below w.heap.size w w := Below.refl _ _
  have hbel := hw
  have hbd : n ≤ lc ∧ lc ≤ 9223372036854775807 := by obtain ⟨_, h1, h2, _⟩ := hR; unfold maxLen at h2; exact ⟨h1, h2⟩
  obtain ⟨hbd1, hbd2⟩ := hbd
  have CF := Lib.hid (fun u (h : Below w.heap.size w u) => ref_Fit c sa sl sc S r0 u (hc.later h) (hS.later h))
  have HC := Lib.hid hc
  have HS := Lib.hid hS
  have HR := Lib.hid hR
  have HL := Lib.hid hL
  have HOK := Lib.hid hok
  clear hc hS hR hL hok hr0
  have key : (1000000000 < r0) ∨ (¬ 1000000000 < r0 ∧ (60 : Int) < n) ∨ (¬ 1000000000 < r0 ∧ ¬ (60 : Int) < n) := by omega
  rcases key with q1 | ⟨q1, q2⟩ | ⟨q1, q2⟩
  · go_enter Try.func6, Try.ntmps6
    go_upto_region 1 with fail
    have cc0 : (w.alloc (.cells #[.int .i64 c.k0, .int .i64 c.k1, .int .i64 c.k2, .int .i64 c.a0, .int .i64 c.a1, .int .i64 c.a2, .slice c.ta c.tl c.tc, .int .i64 c.per, .int .i64 c.ret, .int .i64 c.age, .int .i64 c.dead] 25)).cell? ⟨w.heap.size, 0, none⟩ = some (.int .i64 c.k0) := by first | (simp; done) | (rw [World.cell?_alloc_at _ _ _ _ (by simp)]; rfl) | (rw [World.cell?_alloc_past _ _ _ (by simp <;> omega), World.cell?_alloc_at _ _ _ _ (by simp)]; rfl) | (rw [World.cell?_alloc_past _ _ _ (by simp <;> omega), World.cell?_alloc_past _ _ _ (by simp <;> omega), World.cell?_alloc_at _ _ _ _ (by simp)]; rfl)
    have cc1 : (w.alloc (.cells #[.int .i64 c.k0, .int .i64 c.k1, .int .i64 c.k2, .int .i64 c.a0, .int .i64 c.a1, .int .i64 c.a2, .slice c.ta c.tl c.tc, .int .i64 c.per, .int .i64 c.ret, .int .i64 c.age, .int .i64 c.dead] 25)).cell? ⟨w.heap.size, 1, none⟩ = some (.int .i64 c.k1) := by first | (simp; done) | (rw [World.cell?_alloc_at _ _ _ _ (by simp)]; rfl) | (rw [World.cell?_alloc_past _ _ _ (by simp <;> omega), World.cell?_alloc_at _ _ _ _ (by simp)]; rfl) | (rw [World.cell?_alloc_past _ _ _ (by simp <;> omega), World.cell?_alloc_past _ _ _ (by simp <;> omega), World.cell?_alloc_at _ _ _ _ (by simp)]; rfl)
    have cc2 : (w.alloc (.cells #[.int .i64 c.k0, .int .i64 c.k1, .int .i64 c.k2, .int .i64 c.a0, .int .i64 c.a1, .int .i64 c.a2, .slice c.ta c.tl c.tc, .int .i64 c.per, .int .i64 c.ret, .int .i64 c.age, .int .i64 c.dead] 25)).cell? ⟨w.heap.size, 2, none⟩ = some (.int .i64 c.k2) := by first | (simp; done) | (rw [World.cell?_alloc_at _ _ _ _ (by simp)]; rfl) | (rw [World.cell?_alloc_past _ _ _ (by simp <;> omega), World.cell?_alloc_at _ _ _ _ (by simp)]; rfl) | (rw [World.cell?_alloc_past _ _ _ (by simp <;> omega), World.cell?_alloc_past _ _ _ (by simp <;> omega), World.cell?_alloc_at _ _ _ _ (by simp)]; rfl)
    have cc3 : (w.alloc (.cells #[.int .i64 c.k0, .int .i64 c.k1, .int .i64 c.k2, .int .i64 c.a0, .int .i64 c.a1, .int .i64 c.a2, .slice c.ta c.tl c.tc, .int .i64 c.per, .int .i64 c.ret, .int .i64 c.age, .int .i64 c.dead] 25)).cell? ⟨w.heap.size, 3, none⟩ = some (.int .i64 c.a0) := by first | (simp; done) | (rw [World.cell?_alloc_at _ _ _ _ (by simp)]; rfl) | (rw [World.cell?_alloc_past _ _ _ (by simp <;> omega), World.cell?_alloc_at _ _ _ _ (by simp)]; rfl) | (rw [World.cell?_alloc_past _ _ _ (by simp <;> omega), World.cell?_alloc_past _ _ _ (by simp <;> omega), World.cell?_alloc_at _ _ _ _ (by simp)]; rfl)
    have cc4 : (w.alloc (.cells #[.int .i64 c.k0, .int .i64 c.k1, .int .i64 c.k2, .int .i64 c.a0, .int .i64 c.a1, .int .i64 c.a2, .slice c.ta c.tl c.tc, .int .i64 c.per, .int .i64 c.ret, .int .i64 c.age, .int .i64 c.dead] 25)).cell? ⟨w.heap.size, 4, none⟩ = some (.int .i64 c.a1) := by first | (simp; done) | (rw [World.cell?_alloc_at _ _ _ _ (by simp)]; rfl) | (rw [World.cell?_alloc_past _ _ _ (by simp <;> omega), World.cell?_alloc_at _ _ _ _ (by simp)]; rfl) | (rw [World.cell?_alloc_past _ _ _ (by simp <;> omega), World.cell?_alloc_past _ _ _ (by simp <;> omega), World.cell?_alloc_at _ _ _ _ (by simp)]; rfl)
    have cc5 : (w.alloc (.cells #[.int .i64 c.k0, .int .i64 c.k1, .int .i64 c.k2, .int .i64 c.a0, .int .i64 c.a1, .int .i64 c.a2, .slice c.ta c.tl c.tc, .int .i64 c.per, .int .i64 c.ret, .int .i64 c.age, .int .i64 c.dead] 25)).cell? ⟨w.heap.size, 5, none⟩ = some (.int .i64 c.a2) := by first | (simp; done) | (rw [World.cell?_alloc_at _ _ _ _ (by simp)]; rfl) | (rw [World.cell?_alloc_past _ _ _ (by simp <;> omega), World.cell?_alloc_at _ _ _ _ (by simp)]; rfl) | (rw [World.cell?_alloc_past _ _ _ (by simp <;> omega), World.cell?_alloc_past _ _ _ (by simp <;> omega), World.cell?_alloc_at _ _ _ _ (by simp)]; rfl)
    have cc6 : (w.alloc (.cells #[.int .i64 c.k0, .int .i64 c.k1, .int .i64 c.k2, .int .i64 c.a0, .int .i64 c.a1, .int .i64 c.a2, .slice c.ta c.tl c.tc, .int .i64 c.per, .int .i64 c.ret, .int .i64 c.age, .int .i64 c.dead] 25)).cell? ⟨w.heap.size, 6, none⟩ = some (.slice c.ta c.tl c.tc) := by first | (simp; done) | (rw [World.cell?_alloc_at _ _ _ _ (by simp)]; rfl) | (rw [World.cell?_alloc_past _ _ _ (by simp <;> omega), World.cell?_alloc_at _ _ _ _ (by simp)]; rfl) | (rw [World.cell?_alloc_past _ _ _ (by simp <;> omega), World.cell?_alloc_past _ _ _ (by simp <;> omega), World.cell?_alloc_at _ _ _ _ (by simp)]; rfl)
    have cc7 : (w.alloc (.cells #[.int .i64 c.k0, .int .i64 c.k1, .int .i64 c.k2, .int .i64 c.a0, .int .i64 c.a1, .int .i64 c.a2, .slice c.ta c.tl c.tc, .int .i64 c.per, .int .i64 c.ret, .int .i64 c.age, .int .i64 c.dead] 25)).cell? ⟨w.heap.size, 7, none⟩ = some (.int .i64 c.per) := by first | (simp; done) | (rw [World.cell?_alloc_at _ _ _ _ (by simp)]; rfl) | (rw [World.cell?_alloc_past _ _ _ (by simp <;> omega), World.cell?_alloc_at _ _ _ _ (by simp)]; rfl) | (rw [World.cell?_alloc_past _ _ _ (by simp <;> omega), World.cell?_alloc_past _ _ _ (by simp <;> omega), World.cell?_alloc_at _ _ _ _ (by simp)]; rfl)
    have cc8 : (w.alloc (.cells #[.int .i64 c.k0, .int .i64 c.k1, .int .i64 c.k2, .int .i64 c.a0, .int .i64 c.a1, .int .i64 c.a2, .slice c.ta c.tl c.tc, .int .i64 c.per, .int .i64 c.ret, .int .i64 c.age, .int .i64 c.dead] 25)).cell? ⟨w.heap.size, 8, none⟩ = some (.int .i64 c.ret) := by first | (simp; done) | (rw [World.cell?_alloc_at _ _ _ _ (by simp)]; rfl) | (rw [World.cell?_alloc_past _ _ _ (by simp <;> omega), World.cell?_alloc_at _ _ _ _ (by simp)]; rfl) | (rw [World.cell?_alloc_past _ _ _ (by simp <;> omega), World.cell?_alloc_past _ _ _ (by simp <;> omega), World.cell?_alloc_at _ _ _ _ (by simp)]; rfl)
    have cc9 : (w.alloc (.cells #[.int .i64 c.k0, .int .i64 c.k1, .int .i64 c.k2, .int .i64 c.a0, .int .i64 c.a1, .int .i64 c.a2, .slice c.ta c.tl c.tc, .int .i64 c.per, .int .i64 c.ret, .int .i64 c.age, .int .i64 c.dead] 25)).cell? ⟨w.heap.size, 9, none⟩ = some (.int .i64 c.age) := by first | (simp; done) | (rw [World.cell?_alloc_at _ _ _ _ (by simp)]; rfl) | (rw [World.cell?_alloc_past _ _ _ (by simp <;> omega), World.cell?_alloc_at _ _ _ _ (by simp)]; rfl) | (rw [World.cell?_alloc_past _ _ _ (by simp <;> omega), World.cell?_alloc_past _ _ _ (by simp <;> omega), World.cell?_alloc_at _ _ _ _ (by simp)]; rfl)
    have cc10 : (w.alloc (.cells #[.int .i64 c.k0, .int .i64 c.k1, .int .i64 c.k2, .int .i64 c.a0, .int .i64 c.a1, .int .i64 c.a2, .slice c.ta c.tl c.tc, .int .i64 c.per, .int .i64 c.ret, .int .i64 c.age, .int .i64 c.dead] 25)).cell? ⟨w.heap.size, 10, none⟩ = some (.int .i64 c.dead) := by first | (simp; done) | (rw [World.cell?_alloc_at _ _ _ _ (by simp)]; rfl) | (rw [World.cell?_alloc_past _ _ _ (by simp <;> omega), World.cell?_alloc_at _ _ _ _ (by simp)]; rfl) | (rw [World.cell?_alloc_past _ _ _ (by simp <;> omega), World.cell?_alloc_past _ _ _ (by simp <;> omega), World.cell?_alloc_at _ _ _ _ (by simp)]; rfl)
    have hb2 := (by repeat (first | exact hbel | refine belAlloc ?_ _ | refine belDrew ?_ | refine belSet ?_ _ _ (by simp)) : Below w.heap.size w (w.alloc (.cells #[.int .i64 c.k0, .int .i64 c.k1, .int .i64 c.k2, .int .i64 c.a0, .int .i64 c.a1, .int .i64 c.a2, .slice c.ta c.tl c.tc, .int .i64 c.per, .int .i64 c.ret, .int .i64 c.age, .int .i64 c.dead] 25)))
    replace hw := belStep hw hb2
    clear hb2 hbel
    generalize w.alloc (.cells #[.int .i64 c.k0, .int .i64 c.k1, .int .i64 c.k2, .int .i64 c.a0, .int .i64 c.a1, .int .i64 c.a2, .slice c.ta c.tl c.tc, .int .i64 c.per, .int .i64 c.ret, .int .i64 c.age, .int .i64 c.dead] 25) = W1 at *
    replace cc0 := keep cc0
    replace cc1 := keep cc1
    replace cc2 := keep cc2
    replace cc3 := keep cc3
    replace cc4 := keep cc4
    replace cc5 := keep cc5
    replace cc6 := keep cc6
    replace cc7 := keep cc7
    replace cc8 := keep cc8
    replace cc9 := keep cc9
    replace cc10 := keep cc10
    have hbel : Below W1.heap.size W1 W1 := Below.refl _ _
    skip
    have HW := Lib.hid hw
    go_wp2_with (first | (go_at_call 9; (with_reducible refine (awake18 _).mono ?_); rintro e w1 ⟨rfl, hb1⟩; replace hbel := belStep hbel hb1; clear hb1) | (go_at_call 10; (with_reducible refine (CF.out _ (belStep HW.out hbel)).mono ?_); rintro e w2 ⟨⟨b, rfl, hT⟩, hb2⟩; replace hbel := belStep hbel hb2; have HTT := Lib.hid hT; clear hb2 hT; rcases Bool.eq_false_or_eq_true b with rfl | rfl))
    all_goals
      go_ret
      exact ⟨rfl, belStep HW.out hbel⟩
  · go_enter Try.func6, Try.ntmps6
    go_upto_region 1 with fail
    have cc0 : (w.alloc (.cells #[.int .i64 c.k0, .int .i64 c.k1, .int .i64 c.k2, .int .i64 c.a0, .int .i64 c.a1, .int .i64 c.a2, .slice c.ta c.tl c.tc, .int .i64 c.per, .int .i64 c.ret, .int .i64 c.age, .int .i64 c.dead] 25)).cell? ⟨w.heap.size, 0, none⟩ = some (.int .i64 c.k0) := by first | (simp; done) | (rw [World.cell?_alloc_at _ _ _ _ (by simp)]; rfl) | (rw [World.cell?_alloc_past _ _ _ (by simp <;> omega), World.cell?_alloc_at _ _ _ _ (by simp)]; rfl) | (rw [World.cell?_alloc_past _ _ _ (by simp <;> omega), World.cell?_alloc_past _ _ _ (by simp <;> omega), World.cell?_alloc_at _ _ _ _ (by simp)]; rfl)
    have cc1 : (w.alloc (.cells #[.int .i64 c.k0, .int .i64 c.k1, .int .i64 c.k2, .int .i64 c.a0, .int .i64 c.a1, .int .i64 c.a2, .slice c.ta c.tl c.tc, .int .i64 c.per, .int .i64 c.ret, .int .i64 c.age, .int .i64 c.dead] 25)).cell? ⟨w.heap.size, 1, none⟩ = some (.int .i64 c.k1) := by first | (simp; done) | (rw [World.cell?_alloc_at _ _ _ _ (by simp)]; rfl) | (rw [World.cell?_alloc_past _ _ _ (by simp <;> omega), World.cell?_alloc_at _ _ _ _ (by simp)]; rfl) | (rw [World.cell?_alloc_past _ _ _ (by simp <;> omega), World.cell?_alloc_past _ _ _ (by simp <;> omega), World.cell?_alloc_at _ _ _ _ (by simp)]; rfl)
    have cc2 : (w.alloc (.cells #[.int .i64 c.k0, .int .i64 c.k1, .int .i64 c.k2, .int .i64 c.a0, .int .i64 c.a1, .int .i64 c.a2, .slice c.ta c.tl c.tc, .int .i64 c.per, .int .i64 c.ret, .int .i64 c.age, .int .i64 c.dead] 25)).cell? ⟨w.heap.size, 2, none⟩ = some (.int .i64 c.k2) := by first | (simp; done) | (rw [World.cell?_alloc_at _ _ _ _ (by simp)]; rfl) | (rw [World.cell?_alloc_past _ _ _ (by simp <;> omega), World.cell?_alloc_at _ _ _ _ (by simp)]; rfl) | (rw [World.cell?_alloc_past _ _ _ (by simp <;> omega), World.cell?_alloc_past _ _ _ (by simp <;> omega), World.cell?_alloc_at _ _ _ _ (by simp)]; rfl)
    have cc3 : (w.alloc (.cells #[.int .i64 c.k0, .int .i64 c.k1, .int .i64 c.k2, .int .i64 c.a0, .int .i64 c.a1, .int .i64 c.a2, .slice c.ta c.tl c.tc, .int .i64 c.per, .int .i64 c.ret, .int .i64 c.age, .int .i64 c.dead] 25)).cell? ⟨w.heap.size, 3, none⟩ = some (.int .i64 c.a0) := by first | (simp; done) | (rw [World.cell?_alloc_at _ _ _ _ (by simp)]; rfl) | (rw [World.cell?_alloc_past _ _ _ (by simp <;> omega), World.cell?_alloc_at _ _ _ _ (by simp)]; rfl) | (rw [World.cell?_alloc_past _ _ _ (by simp <;> omega), World.cell?_alloc_past _ _ _ (by simp <;> omega), World.cell?_alloc_at _ _ _ _ (by simp)]; rfl)
    have cc4 : (w.alloc (.cells #[.int .i64 c.k0, .int .i64 c.k1, .int .i64 c.k2, .int .i64 c.a0, .int .i64 c.a1, .int .i64 c.a2, .slice c.ta c.tl c.tc, .int .i64 c.per, .int .i64 c.ret, .int .i64 c.age, .int .i64 c.dead] 25)).cell? ⟨w.heap.size, 4, none⟩ = some (.int .i64 c.a1) := by first | (simp; done) | (rw [World.cell?_alloc_at _ _ _ _ (by simp)]; rfl) | (rw [World.cell?_alloc_past _ _ _ (by simp <;> omega), World.cell?_alloc_at _ _ _ _ (by simp)]; rfl) | (rw [World.cell?_alloc_past _ _ _ (by simp <;> omega), World.cell?_alloc_past _ _ _ (by simp <;> omega), World.cell?_alloc_at _ _ _ _ (by simp)]; rfl)
    have cc5 : (w.alloc (.cells #[.int .i64 c.k0, .int .i64 c.k1, .int .i64 c.k2, .int .i64 c.a0, .int .i64 c.a1, .int .i64 c.a2, .slice c.ta c.tl c.tc, .int .i64 c.per, .int .i64 c.ret, .int .i64 c.age, .int .i64 c.dead] 25)).cell? ⟨w.heap.size, 5, none⟩ = some (.int .i64 c.a2) := by first | (simp; done) | (rw [World.cell?_alloc_at _ _ _ _ (by simp)]; rfl) | (rw [World.cell?_alloc_past _ _ _ (by simp <;> omega), World.cell?_alloc_at _ _ _ _ (by simp)]; rfl) | (rw [World.cell?_alloc_past _ _ _ (by simp <;> omega), World.cell?_alloc_past _ _ _ (by simp <;> omega), World.cell?_alloc_at _ _ _ _ (by simp)]; rfl)
    have cc6 : (w.alloc (.cells #[.int .i64 c.k0, .int .i64 c.k1, .int .i64 c.k2, .int .i64 c.a0, .int .i64 c.a1, .int .i64 c.a2, .slice c.ta c.tl c.tc, .int .i64 c.per, .int .i64 c.ret, .int .i64 c.age, .int .i64 c.dead] 25)).cell? ⟨w.heap.size, 6, none⟩ = some (.slice c.ta c.tl c.tc) := by first | (simp; done) | (rw [World.cell?_alloc_at _ _ _ _ (by simp)]; rfl) | (rw [World.cell?_alloc_past _ _ _ (by simp <;> omega), World.cell?_alloc_at _ _ _ _ (by simp)]; rfl) | (rw [World.cell?_alloc_past _ _ _ (by simp <;> omega), World.cell?_alloc_past _ _ _ (by simp <;> omega), World.cell?_alloc_at _ _ _ _ (by simp)]; rfl)
    have cc7 : (w.alloc (.cells #[.int .i64 c.k0, .int .i64 c.k1, .int .i64 c.k2, .int .i64 c.a0, .int .i64 c.a1, .int .i64 c.a2, .slice c.ta c.tl c.tc, .int .i64 c.per, .int .i64 c.ret, .int .i64 c.age, .int .i64 c.dead] 25)).cell? ⟨w.heap.size, 7, none⟩ = some (.int .i64 c.per) := by first | (simp; done) | (rw [World.cell?_alloc_at _ _ _ _ (by simp)]; rfl) | (rw [World.cell?_alloc_past _ _ _ (by simp <;> omega), World.cell?_alloc_at _ _ _ _ (by simp)]; rfl) | (rw [World.cell?_alloc_past _ _ _ (by simp <;> omega), World.cell?_alloc_past _ _ _ (by simp <;> omega), World.cell?_alloc_at _ _ _ _ (by simp)]; rfl)
    have cc8 : (w.alloc (.cells #[.int .i64 c.k0, .int .i64 c.k1, .int .i64 c.k2, .int .i64 c.a0, .int .i64 c.a1, .int .i64 c.a2, .slice c.ta c.tl c.tc, .int .i64 c.per, .int .i64 c.ret, .int .i64 c.age, .int .i64 c.dead] 25)).cell? ⟨w.heap.size, 8, none⟩ = some (.int .i64 c.ret) := by first | (simp; done) | (rw [World.cell?_alloc_at _ _ _ _ (by simp)]; rfl) | (rw [World.cell?_alloc_past _ _ _ (by simp <;> omega), World.cell?_alloc_at _ _ _ _ (by simp)]; rfl) | (rw [World.cell?_alloc_past _ _ _ (by simp <;> omega), World.cell?_alloc_past _ _ _ (by simp <;> omega), World.cell?_alloc_at _ _ _ _ (by simp)]; rfl)
    have cc9 : (w.alloc (.cells #[.int .i64 c.k0, .int .i64 c.k1, .int .i64 c.k2, .int .i64 c.a0, .int .i64 c.a1, .int .i64 c.a2, .slice c.ta c.tl c.tc, .int .i64 c.per, .int .i64 c.ret, .int .i64 c.age, .int .i64 c.dead] 25)).cell? ⟨w.heap.size, 9, none⟩ = some (.int .i64 c.age) := by first | (simp; done) | (rw [World.cell?_alloc_at _ _ _ _ (by simp)]; rfl) | (rw [World.cell?_alloc_past _ _ _ (by simp <;> omega), World.cell?_alloc_at _ _ _ _ (by simp)]; rfl) | (rw [World.cell?_alloc_past _ _ _ (by simp <;> omega), World.cell?_alloc_past _ _ _ (by simp <;> omega), World.cell?_alloc_at _ _ _ _ (by simp)]; rfl)
    have cc10 : (w.alloc (.cells #[.int .i64 c.k0, .int .i64 c.k1, .int .i64 c.k2, .int .i64 c.a0, .int .i64 c.a1, .int .i64 c.a2, .slice c.ta c.tl c.tc, .int .i64 c.per, .int .i64 c.ret, .int .i64 c.age, .int .i64 c.dead] 25)).cell? ⟨w.heap.size, 10, none⟩ = some (.int .i64 c.dead) := by first | (simp; done) | (rw [World.cell?_alloc_at _ _ _ _ (by simp)]; rfl) | (rw [World.cell?_alloc_past _ _ _ (by simp <;> omega), World.cell?_alloc_at _ _ _ _ (by simp)]; rfl) | (rw [World.cell?_alloc_past _ _ _ (by simp <;> omega), World.cell?_alloc_past _ _ _ (by simp <;> omega), World.cell?_alloc_at _ _ _ _ (by simp)]; rfl)
    have hb2 := (by repeat (first | exact hbel | refine belAlloc ?_ _ | refine belDrew ?_ | refine belSet ?_ _ _ (by simp)) : Below w.heap.size w (w.alloc (.cells #[.int .i64 c.k0, .int .i64 c.k1, .int .i64 c.k2, .int .i64 c.a0, .int .i64 c.a1, .int .i64 c.a2, .slice c.ta c.tl c.tc, .int .i64 c.per, .int .i64 c.ret, .int .i64 c.age, .int .i64 c.dead] 25)))
    replace hw := belStep hw hb2
    clear hb2 hbel
    generalize w.alloc (.cells #[.int .i64 c.k0, .int .i64 c.k1, .int .i64 c.k2, .int .i64 c.a0, .int .i64 c.a1, .int .i64 c.a2, .slice c.ta c.tl c.tc, .int .i64 c.per, .int .i64 c.ret, .int .i64 c.age, .int .i64 c.dead] 25) = W1 at *
    replace cc0 := keep cc0
    replace cc1 := keep cc1
    replace cc2 := keep cc2
    replace cc3 := keep cc3
    replace cc4 := keep cc4
    replace cc5 := keep cc5
    replace cc6 := keep cc6
    replace cc7 := keep cc7
    replace cc8 := keep cc8
    replace cc9 := keep cc9
    replace cc10 := keep cc10
    have hbel : Below W1.heap.size W1 W1 := Below.refl _ _
    skip
    have HW := Lib.hid hw
    go_wp2_with (first | (go_at_call 9; (with_reducible refine (awake18 _).mono ?_); rintro e w1 ⟨rfl, hb1⟩; replace hbel := belStep hbel hb1; clear hb1) | (go_at_call 10; (with_reducible refine (CF.out _ (belStep HW.out hbel)).mono ?_); rintro e w2 ⟨⟨b, rfl, hT⟩, hb2⟩; replace hbel := belStep hbel hb2; have HTT := Lib.hid hT; clear hb2 hT; rcases Bool.eq_false_or_eq_true b with rfl | rfl))
    all_goals
      go_ret
      exact ⟨rfl, belStep HW.out hbel⟩
  · go_enter Try.func6, Try.ntmps6
    go_upto_region 1 with fail
    have cc0 : (w.alloc (.cells #[.int .i64 c.k0, .int .i64 c.k1, .int .i64 c.k2, .int .i64 c.a0, .int .i64 c.a1, .int .i64 c.a2, .slice c.ta c.tl c.tc, .int .i64 c.per, .int .i64 c.ret, .int .i64 c.age, .int .i64 c.dead] 25)).cell? ⟨w.heap.size, 0, none⟩ = some (.int .i64 c.k0) := by first | (simp; done) | (rw [World.cell?_alloc_at _ _ _ _ (by simp)]; rfl) | (rw [World.cell?_alloc_past _ _ _ (by simp <;> omega), World.cell?_alloc_at _ _ _ _ (by simp)]; rfl) | (rw [World.cell?_alloc_past _ _ _ (by simp <;> omega), World.cell?_alloc_past _ _ _ (by simp <;> omega), World.cell?_alloc_at _ _ _ _ (by simp)]; rfl)
    have cc1 : (w.alloc (.cells #[.int .i64 c.k0, .int .i64 c.k1, .int .i64 c.k2, .int .i64 c.a0, .int .i64 c.a1, .int .i64 c.a2, .slice c.ta c.tl c.tc, .int .i64 c.per, .int .i64 c.ret, .int .i64 c.age, .int .i64 c.dead] 25)).cell? ⟨w.heap.size, 1, none⟩ = some (.int .i64 c.k1) := by first | (simp; done) | (rw [World.cell?_alloc_at _ _ _ _ (by simp)]; rfl) | (rw [World.cell?_alloc_past _ _ _ (by simp <;> omega), World.cell?_alloc_at _ _ _ _ (by simp)]; rfl) | (rw [World.cell?_alloc_past _ _ _ (by simp <;> omega), World.cell?_alloc_past _ _ _ (by simp <;> omega), World.cell?_alloc_at _ _ _ _ (by simp)]; rfl)
    have cc2 : (w.alloc (.cells #[.int .i64 c.k0, .int .i64 c.k1, .int .i64 c.k2, .int .i64 c.a0, .int .i64 c.a1, .int .i64 c.a2, .slice c.ta c.tl c.tc, .int .i64 c.per, .int .i64 c.ret, .int .i64 c.age, .int .i64 c.dead] 25)).cell? ⟨w.heap.size, 2, none⟩ = some (.int .i64 c.k2) := by first | (simp; done) | (rw [World.cell?_alloc_at _ _ _ _ (by simp)]; rfl) | (rw [World.cell?_alloc_past _ _ _ (by simp <;> omega), World.cell?_alloc_at _ _ _ _ (by simp)]; rfl) | (rw [World.cell?_alloc_past _ _ _ (by simp <;> omega), World.cell?_alloc_past _ _ _ (by simp <;> omega), World.cell?_alloc_at _ _ _ _ (by simp)]; rfl)
    have cc3 : (w.alloc (.cells #[.int .i64 c.k0, .int .i64 c.k1, .int .i64 c.k2, .int .i64 c.a0, .int .i64 c.a1, .int .i64 c.a2, .slice c.ta c.tl c.tc, .int .i64 c.per, .int .i64 c.ret, .int .i64 c.age, .int .i64 c.dead] 25)).cell? ⟨w.heap.size, 3, none⟩ = some (.int .i64 c.a0) := by first | (simp; done) | (rw [World.cell?_alloc_at _ _ _ _ (by simp)]; rfl) | (rw [World.cell?_alloc_past _ _ _ (by simp <;> omega), World.cell?_alloc_at _ _ _ _ (by simp)]; rfl) | (rw [World.cell?_alloc_past _ _ _ (by simp <;> omega), World.cell?_alloc_past _ _ _ (by simp <;> omega), World.cell?_alloc_at _ _ _ _ (by simp)]; rfl)
    have cc4 : (w.alloc (.cells #[.int .i64 c.k0, .int .i64 c.k1, .int .i64 c.k2, .int .i64 c.a0, .int .i64 c.a1, .int .i64 c.a2, .slice c.ta c.tl c.tc, .int .i64 c.per, .int .i64 c.ret, .int .i64 c.age, .int .i64 c.dead] 25)).cell? ⟨w.heap.size, 4, none⟩ = some (.int .i64 c.a1) := by first | (simp; done) | (rw [World.cell?_alloc_at _ _ _ _ (by simp)]; rfl) | (rw [World.cell?_alloc_past _ _ _ (by simp <;> omega), World.cell?_alloc_at _ _ _ _ (by simp)]; rfl) | (rw [World.cell?_alloc_past _ _ _ (by simp <;> omega), World.cell?_alloc_past _ _ _ (by simp <;> omega), World.cell?_alloc_at _ _ _ _ (by simp)]; rfl)
    have cc5 : (w.alloc (.cells #[.int .i64 c.k0, .int .i64 c.k1, .int .i64 c.k2, .int .i64 c.a0, .int .i64 c.a1, .int .i64 c.a2, .slice c.ta c.tl c.tc, .int .i64 c.per, .int .i64 c.ret, .int .i64 c.age, .int .i64 c.dead] 25)).cell? ⟨w.heap.size, 5, none⟩ = some (.int .i64 c.a2) := by first | (simp; done) | (rw [World.cell?_alloc_at _ _ _ _ (by simp)]; rfl) | (rw [World.cell?_alloc_past _ _ _ (by simp <;> omega), World.cell?_alloc_at _ _ _ _ (by simp)]; rfl) | (rw [World.cell?_alloc_past _ _ _ (by simp <;> omega), World.cell?_alloc_past _ _ _ (by simp <;> omega), World.cell?_alloc_at _ _ _ _ (by simp)]; rfl)
    have cc6 : (w.alloc (.cells #[.int .i64 c.k0, .int .i64 c.k1, .int .i64 c.k2, .int .i64 c.a0, .int .i64 c.a1, .int .i64 c.a2, .slice c.ta c.tl c.tc, .int .i64 c.per, .int .i64 c.ret, .int .i64 c.age, .int .i64 c.dead] 25)).cell? ⟨w.heap.size, 6, none⟩ = some (.slice c.ta c.tl c.tc) := by first | (simp; done) | (rw [World.cell?_alloc_at _ _ _ _ (by simp)]; rfl) | (rw [World.cell?_alloc_past _ _ _ (by simp <;> omega), World.cell?_alloc_at _ _ _ _ (by simp)]; rfl) | (rw [World.cell?_alloc_past _ _ _ (by simp <;> omega), World.cell?_alloc_past _ _ _ (by simp <;> omega), World.cell?_alloc_at _ _ _ _ (by simp)]; rfl)
    have cc7 : (w.alloc (.cells #[.int .i64 c.k0, .int .i64 c.k1, .int .i64 c.k2, .int .i64 c.a0, .int .i64 c.a1, .int .i64 c.a2, .slice c.ta c.tl c.tc, .int .i64 c.per, .int .i64 c.ret, .int .i64 c.age, .int .i64 c.dead] 25)).cell? ⟨w.heap.size, 7, none⟩ = some (.int .i64 c.per) := by first | (simp; done) | (rw [World.cell?_alloc_at _ _ _ _ (by simp)]; rfl) | (rw [World.cell?_alloc_past _ _ _ (by simp <;> omega), World.cell?_alloc_at _ _ _ _ (by simp)]; rfl) | (rw [World.cell?_alloc_past _ _ _ (by simp <;> omega), World.cell?_alloc_past _ _ _ (by simp <;> omega), World.cell?_alloc_at _ _ _ _ (by simp)]; rfl)
    have cc8 : (w.alloc (.cells #[.int .i64 c.k0, .int .i64 c.k1, .int .i64 c.k2, .int .i64 c.a0, .int .i64 c.a1, .int .i64 c.a2, .slice c.ta c.tl c.tc, .int .i64 c.per, .int .i64 c.ret, .int .i64 c.age, .int .i64 c.dead] 25)).cell? ⟨w.heap.size, 8, none⟩ = some (.int .i64 c.ret) := by first | (simp; done) | (rw [World.cell?_alloc_at _ _ _ _ (by simp)]; rfl) | (rw [World.cell?_alloc_past _ _ _ (by simp <;> omega), World.cell?_alloc_at _ _ _ _ (by simp)]; rfl) | (rw [World.cell?_alloc_past _ _ _ (by simp <;> omega), World.cell?_alloc_past _ _ _ (by simp <;> omega), World.cell?_alloc_at _ _ _ _ (by simp)]; rfl)
    have cc9 : (w.alloc (.cells #[.int .i64 c.k0, .int .i64 c.k1, .int .i64 c.k2, .int .i64 c.a0, .int .i64 c.a1, .int .i64 c.a2, .slice c.ta c.tl c.tc, .int .i64 c.per, .int .i64 c.ret, .int .i64 c.age, .int .i64 c.dead] 25)).cell? ⟨w.heap.size, 9, none⟩ = some (.int .i64 c.age) := by first | (simp; done) | (rw [World.cell?_alloc_at _ _ _ _ (by simp)]; rfl) | (rw [World.cell?_alloc_past _ _ _ (by simp <;> omega), World.cell?_alloc_at _ _ _ _ (by simp)]; rfl) | (rw [World.cell?_alloc_past _ _ _ (by simp <;> omega), World.cell?_alloc_past _ _ _ (by simp <;> omega), World.cell?_alloc_at _ _ _ _ (by simp)]; rfl)
    have cc10 : (w.alloc (.cells #[.int .i64 c.k0, .int .i64 c.k1, .int .i64 c.k2, .int .i64 c.a0, .int .i64 c.a1, .int .i64 c.a2, .slice c.ta c.tl c.tc, .int .i64 c.per, .int .i64 c.ret, .int .i64 c.age, .int .i64 c.dead] 25)).cell? ⟨w.heap.size, 10, none⟩ = some (.int .i64 c.dead) := by first | (simp; done) | (rw [World.cell?_alloc_at _ _ _ _ (by simp)]; rfl) | (rw [World.cell?_alloc_past _ _ _ (by simp <;> omega), World.cell?_alloc_at _ _ _ _ (by simp)]; rfl) | (rw [World.cell?_alloc_past _ _ _ (by simp <;> omega), World.cell?_alloc_past _ _ _ (by simp <;> omega), World.cell?_alloc_at _ _ _ _ (by simp)]; rfl)
    have hb2 := (by repeat (first | exact hbel | refine belAlloc ?_ _ | refine belDrew ?_ | refine belSet ?_ _ _ (by simp)) : Below w.heap.size w (w.alloc (.cells #[.int .i64 c.k0, .int .i64 c.k1, .int .i64 c.k2, .int .i64 c.a0, .int .i64 c.a1, .int .i64 c.a2, .slice c.ta c.tl c.tc, .int .i64 c.per, .int .i64 c.ret, .int .i64 c.age, .int .i64 c.dead] 25)))
    replace hw := belStep hw hb2
    clear hb2 hbel
    generalize w.alloc (.cells #[.int .i64 c.k0, .int .i64 c.k1, .int .i64 c.k2, .int .i64 c.a0, .int .i64 c.a1, .int .i64 c.a2, .slice c.ta c.tl c.tc, .int .i64 c.per, .int .i64 c.ret, .int .i64 c.age, .int .i64 c.dead] 25) = W1 at *
    replace cc0 := keep cc0
    replace cc1 := keep cc1
    replace cc2 := keep cc2
    replace cc3 := keep cc3
    replace cc4 := keep cc4
    replace cc5 := keep cc5
    replace cc6 := keep cc6
    replace cc7 := keep cc7
    replace cc8 := keep cc8
    replace cc9 := keep cc9
    replace cc10 := keep cc10
    have hbel : Below W1.heap.size W1 W1 := Below.refl _ _
    skip
    have HW := Lib.hid hw
    go_upto_region 3 with (first | (go_at_call 9; (with_reducible refine (awake18 _).mono ?_); rintro e w1 ⟨rfl, hb1⟩; replace hbel := belStep hbel hb1; clear hb1) | (go_at_call 10; (with_reducible refine (CF.out _ (belStep HW.out hbel)).mono ?_); rintro e w2 ⟨⟨b, rfl, hT⟩, hb2⟩; replace hbel := belStep hbel hb2; have HTT := Lib.hid hT; clear hb2 hT; rcases Bool.eq_false_or_eq_true b with rfl | rfl))
    rotate_left 1
    · go_wp2_with (first | (go_at_call 9; (with_reducible refine (awake18 _).mono ?_); rintro e w1 ⟨rfl, hb1⟩; replace hbel := belStep hbel hb1; clear hb1))
      go_ret
      exact ⟨rfl, belStep HW.out hbel⟩
    obtain ⟨hrc, hsl, hr00, hr01, hS0⟩ := HTT.out (by simp)
    subst hsl
    have HG := Lib.hid (show ∀ u, Below w.heap.size w u → Good c u from fun u hu => ⟨HC.out.later hu, hrc.few, hrc.right⟩)
    have hfew := hrc.few
    have HLEN := Lib.hid HC.out.len
    have HST := Lib.hid (step_plenty c S r0 L r0 (by rw [HS.out.bounds.1, HC.out.len]) (fun t ht => ⟨hrc.right t ht, HC.out.thr t ht⟩) HC.out.ck)
    have HRR := Lib.hid (fun u (hu : Below w.heap.size w u) => HR.out.later hu)
    have HSR := Lib.hid (fun u (hu : Below w.heap.size w u) => HS.out.later hu)
    clear HC HTT CF hrc hS0 hr01
    replace cc0 := keepOnP cc0 hbel
    replace cc1 := keepOnP cc1 hbel
    replace cc2 := keepOnP cc2 hbel
    replace cc3 := keepOnP cc3 hbel
    replace cc4 := keepOnP cc4 hbel
    replace cc5 := keepOnP cc5 hbel
    replace cc6 := keepOnP cc6 hbel
    replace cc7 := keepOnP cc7 hbel
    replace cc8 := keepOnP cc8 hbel
    replace cc9 := keepOnP cc9 hbel
    replace cc10 := keepOnP cc10 hbel
    replace hw := belStep hw hbel
    clear hbel
    generalize w2 = W2 at *
    have hbel : Below W2.heap.size W2 W2 := Below.refl _ _
    have HW2 := Lib.hid hw
    clear HW hw
    have hw : Below W2.heap.size W2 W2 := Below.refl _ _
    go_upto_region 4 with fail
    have vv0 : (W2.alloc (.cells #[.int .i64 9223372036854775807, .int .i64 9223372036854775807, .int .i64 9223372036854775807] 22)).cell? ⟨W2.heap.size, 0, none⟩ = some (.int .i64 9223372036854775807) := by first | (simp; done) | (rw [World.cell?_alloc_at _ _ _ _ (by simp)]; rfl) | (rw [World.cell?_alloc_past _ _ _ (by simp <;> omega), World.cell?_alloc_at _ _ _ _ (by simp)]; rfl) | (rw [World.cell?_alloc_past _ _ _ (by simp <;> omega), World.cell?_alloc_past _ _ _ (by simp <;> omega), World.cell?_alloc_at _ _ _ _ (by simp)]; rfl)
    have vv1 : (W2.alloc (.cells #[.int .i64 9223372036854775807, .int .i64 9223372036854775807, .int .i64 9223372036854775807] 22)).cell? ⟨W2.heap.size, 1, none⟩ = some (.int .i64 9223372036854775807) := by first | (simp; done) | (rw [World.cell?_alloc_at _ _ _ _ (by simp)]; rfl) | (rw [World.cell?_alloc_past _ _ _ (by simp <;> omega), World.cell?_alloc_at _ _ _ _ (by simp)]; rfl) | (rw [World.cell?_alloc_past _ _ _ (by simp <;> omega), World.cell?_alloc_past _ _ _ (by simp <;> omega), World.cell?_alloc_at _ _ _ _ (by simp)]; rfl)
    have vv2 : (W2.alloc (.cells #[.int .i64 9223372036854775807, .int .i64 9223372036854775807, .int .i64 9223372036854775807] 22)).cell? ⟨W2.heap.size, 2, none⟩ = some (.int .i64 9223372036854775807) := by first | (simp; done) | (rw [World.cell?_alloc_at _ _ _ _ (by simp)]; rfl) | (rw [World.cell?_alloc_past _ _ _ (by simp <;> omega), World.cell?_alloc_at _ _ _ _ (by simp)]; rfl) | (rw [World.cell?_alloc_past _ _ _ (by simp <;> omega), World.cell?_alloc_past _ _ _ (by simp <;> omega), World.cell?_alloc_at _ _ _ _ (by simp)]; rfl)
    have hb2 := (by repeat (first | exact hbel | refine belAlloc ?_ _ | refine belDrew ?_ | refine belSet ?_ _ _ (by simp)) : Below W2.heap.size W2 (W2.alloc (.cells #[.int .i64 9223372036854775807, .int .i64 9223372036854775807, .int .i64 9223372036854775807] 22)))
    replace cc0 := keepOnP cc0 hb2
    replace cc1 := keepOnP cc1 hb2
    replace cc2 := keepOnP cc2 hb2
    replace cc3 := keepOnP cc3 hb2
    replace cc4 := keepOnP cc4 hb2
    replace cc5 := keepOnP cc5 hb2
    replace cc6 := keepOnP cc6 hb2
    replace cc7 := keepOnP cc7 hb2
    replace cc8 := keepOnP cc8 hb2
    replace cc9 := keepOnP cc9 hb2
    replace cc10 := keepOnP cc10 hb2
    replace hw := belStep hw hb2
    clear hb2 hbel
    generalize W2.alloc (.cells #[.int .i64 9223372036854775807, .int .i64 9223372036854775807, .int .i64 9223372036854775807] 22) = W3 at *
    replace vv0 := keep vv0
    replace vv1 := keep vv1
    replace vv2 := keep vv2
    have hbel : Below W3.heap.size W3 W3 := Below.refl _ _
    skip
    have HW3 := Lib.hid (belStep HW2.out hw)
    clear hw HW2
    have hw : Below W3.heap.size W3 W3 := Below.refl _ _
    have CB := Lib.hid (fun u (hu : Below W3.heap.size W3 u) => gr_Step c sa sc S 9223372036854775807 9223372036854775807 9223372036854775807 r0 u (HG.out u (belStep HW3.out hu)) (by unfold InI; omega) (HSR.out u (belStep HW3.out hu)))
    rw [HST.out] at CB
    have CQ := Lib.hid (fun u (hu : Below W3.heap.size W3 u) => law_rounds la n lc L u HL.out (by omega) HOK.out (HRR.out u (belStep HW3.out hu)))
    go_upto_region 6 with (first | (go_at_call 11; (with_reducible refine (CB.out _ hbel).mono ?_); rintro e w4 ⟨g4, rfl, ho4, hg4, hb4⟩; have HO4 := Lib.hid ho4; replace hbel := belStep hbel hb4; clear ho4 hb4 hg4) | (go_at_call 26; (with_reducible refine (CQ.out _ hbel).mono ?_); rintro e w3 ⟨v3, rfl, ho3, hb3⟩; have HO3 := Lib.hid ho3; replace HO4 := Lib.hid (HO4.out.later hb3); replace hbel := belStep hbel hb3; clear ho3 hb3))
    obtain ⟨ra, rc, e3, hrow3⟩ := HO3.out.row
    rw [atL_len, HL.out] at e3 hrow3
    subst e3
    have hI3 : Ints .i64 w3 ra n rc (atL L) := ⟨hrow3, fun x hx => by
      unfold atL at hx
      obtain ⟨i, hi, rfl⟩ := List.mem_map.1 hx
      have := atR_bd HOK.out (by rw [HL.out]; omega) i (by simpa using hi)
      exact wfI64 (by omega) (by omega)⟩
    have hI4 : Ints .i64 w3 (some ⟨g4, 0, none⟩) c.tl c.tl (svA c L r0 0) := ints_ownG HO4.out (fun x hx => by
      unfold svA at hx
      obtain ⟨t, _, rfl⟩ := List.mem_map.1 hx
      rw [sv_zero]; decide)
    have HI3 := Lib.hid hI3
    have HI4 := Lib.hid hI4
    have HG4 := Lib.hid (show ∀ u, Below w3.heap.size w3 u → Good c u from fun u hu => HG.out u (belStep HW3.out (belStep hbel hu)))
    have HR4 := Lib.hid (fun u (hu : Below w3.heap.size w3 u) => HRR.out u (belStep HW3.out (belStep hbel hu)))
    clear HO3 HO4 hrow3 hI3 hI4 CB CQ HRR HG HR HSR HS vv0 vv1 vv2
    replace cc0 := keepOnP cc0 hbel
    replace cc1 := keepOnP cc1 hbel
    replace cc2 := keepOnP cc2 hbel
    replace cc3 := keepOnP cc3 hbel
    replace cc4 := keepOnP cc4 hbel
    replace cc5 := keepOnP cc5 hbel
    replace cc6 := keepOnP cc6 hbel
    replace cc7 := keepOnP cc7 hbel
    replace cc8 := keepOnP cc8 hbel
    replace cc9 := keepOnP cc9 hbel
    replace cc10 := keepOnP cc10 hbel
    replace hw := belStep hw hbel
    clear hbel
    generalize w3 = W4 at *
    have hbel : Below W4.heap.size W4 W4 := Below.refl _ _
    have HW4 := Lib.hid (belStep HW3.out hw)
    clear hw HW3
    have hAT := Lib.hid (fun i (hi : i < n) => atR_bd HOK.out (by rw [HL.out]; omega) i (by rw [HL.out]; exact hi))
    go_wp2
    clear hbel
    go_loopw [10, 12] (fun v i wr => ∃ k : Nat, k ≤ n ∧ i = .int .i64 k ∧ (∃ g, v = .slice (some ⟨g, 0, none⟩) c.tl c.tl ∧ Ints .i64 wr (some ⟨g, 0, none⟩) c.tl c.tl (svA c L r0 k)) ∧ Below W4.heap.size W4 wr) (fun _ i _ => n - (intOf i).toNat)
    case atStart => exact ⟨0, by omega, rfl, ⟨g4, rfl, HI4.out⟩, Below.refl _ _⟩
    case round =>
      obtain ⟨i, hi, rfl, ⟨g, rfl, hS⟩, hbel⟩ := hrel
      have HB := Lib.hid hbel
      have HS := Lib.hid hS
      clear hS HI4
      by_cases hin : i < n
      · obtain ⟨r, hr⟩ : ∃ r, L[i]? = some r := ⟨_, List.getElem?_eq_getElem (by rw [HL.out]; exact hin)⟩
        obtain ⟨b, off, rfl, _, hcl⟩ := (HR4.out _ (Below.refl _ _)).elem RowV.cells_len (by omega) hr
        have y1 := keep (hcl 1 _ rfl)
        have y2 := keep (hcl 2 _ rfl)
        have y3 := keep (hcl 3 _ rfl)
        obtain ⟨rb, ro, rfl, _, hrx⟩ := HI3.out.opened (by omega)
        have a0 := keep (hrx i hin)
        rw [atL_el (by rw [HL.out]; exact hin)] at a0
        have a1 := keep (hrx 0 (by omega))
        rw [atL_el (by rw [HL.out]; omega), Nat.add_zero] at a1
        have hrok := HOK.out r (List.mem_of_getElem? hr)
        have hini : (i : Int) < (n : Int) := by omega
        have hn0 : 0 < n := by omega
        have hai := hAT.out i hin
        have ha1 := hAT.out 0 hn0
        have hne : ∀ q, q ≤ i → atA L r0 q ≠ -1 := fun q hq => by have := hAT.out q (by omega); unfold atA; omega
        have hsn := svA_next c L r0 i r hr hne
        have hnow : atA L r0 i = r0 + atR L i := rfl
        have hbdA : ∀ q, q < i + 1 → 1 ≤ atA L r0 q ∧ atA L r0 q ≤ 1000100000 := fun q hq => by have := hAT.out q (by omega); unfold atA; omega
        have CS := Lib.hid (fun u (hu : Below W4.heap.size W4 u) (hS : Ints .i64 u (some ⟨g, 0, none⟩) c.tl c.tl (svA c L r0 i)) => gr_Step c (some ⟨g, 0, none⟩) c.tl (svA c L r0 i) r.v0 r.v1 r.v2 (r0 + atR L i) u (HG4.out u hu) hrok.2 hS)
        rw [← hnow, hsn, hnow] at CS
        have CH := Lib.hid (fun g2 u (hu : Below W4.heap.size W4 u) (hS : Ints .i64 u (some ⟨g2, 0, none⟩) c.tl c.tl (svA c L r0 (i + 1))) => gr_Hold c (some ⟨g2, 0, none⟩) c.tl (svA c L r0 (i + 1)) (r0 + atR L i) u (HG4.out u hu) hS (by omega) (fun k hk => by
          obtain ⟨t, hti⟩ : ∃ t, c.L[k]? = some t := ⟨_, List.getElem?_eq_getElem (by rw [HLEN.out]; exact hk)⟩
          rw [svA_el hti]
          have := sv_bdG (fR c L t) (atA L r0) (i + 1) 1000100000 (by omega) hbdA
          omega))
        have HWF := Lib.hid (show ∀ x ∈ svA c L r0 (i + 1), (Lit.int .i64 x).wf = true from fun x hx => by
          unfold svA at hx
          obtain ⟨t, _, rfl⟩ := List.mem_map.1 hx
          have := sv_bdG (fR c L t) (atA L r0) (i + 1) 1000100000 (by omega) hbdA
          exact wfI64 (by omega) (by omega))
        have HAN := Lib.hid (fun t => anew_hold c L r0 t i HOK.out hne)
        rw [hnow] at HAN
        clear hcl hrx hr hrok hsn hne hnow hbdA
        generalize hA : atR L i = ai at *
        generalize hA0 : atR L 0 = az at *
        have hwr : IntKind.i64.wrap (r0 + ai) = r0 + ai := by simp only [IntKind.wrap_i64]; omega
        have hwr2 : wrap64 (r0 + ai) = r0 + ai := by unfold wrap64; omega
        clear hA hA0
        have hw : Below W4.heap.size W4 W4 := Below.refl _ _
        replace cc0 := keepOnP cc0 hbel
        replace cc1 := keepOnP cc1 hbel
        replace cc2 := keepOnP cc2 hbel
        replace cc3 := keepOnP cc3 hbel
        replace cc4 := keepOnP cc4 hbel
        replace cc5 := keepOnP cc5 hbel
        replace cc6 := keepOnP cc6 hbel
        replace cc7 := keepOnP cc7 hbel
        replace cc8 := keepOnP cc8 hbel
        replace cc9 := keepOnP cc9 hbel
        replace cc10 := keepOnP cc10 hbel
        replace y1 := keepOnP y1 hbel
        replace y2 := keepOnP y2 hbel
        replace y3 := keepOnP y3 hbel
        replace a0 := keepOnP a0 hbel
        replace a1 := keepOnP a1 hbel
        replace hw := belStep hw hbel
        clear hbel
        generalize wr = W5 at *
        have hbel : Below W5.heap.size W5 W5 := Below.refl _ _
        have HW5 := Lib.hid hw
        clear hw
        have hw : Below W5.heap.size W5 W5 := Below.refl _ _
        go_upto_region 10 with fail
        have kk := fun d os => belStep hbel (below_regrown _ d os)
        refine wp_region_below_tail 8 (by kernel_rfl) (by kernel_rfl) ?_
        simp only [List.take_succ_cons, List.take_zero, List.drop_succ_cons, List.drop_zero]
        repeat ((with_reducible refine wpQuiet_step (fun K hK => ?_)); go_simp; (try (rw [if_neg]; rotate_left; · decide)); first | ((with_reducible refine hK _ ?_); clear hK K) | (apply Exists.intro; refine ⟨fun _ => ?_, hK _ ?_⟩; (fail); clear hK K))
        refine wpQuiet_nil (fun w1 hw1 => ?_)
        replace hbel := belStep hbel (bel_of_class hw1)
        clear hw1 kk
        have HS1 := Lib.hid (HS.out.later hbel)
        go_upto_region 12 with (first | (go_at_call 11; (with_reducible refine (CS.out _ (belStep HW5.out hbel) HS1.out).mono ?_); rintro e w3 ⟨g3, rfl, ho3, hg3, hb3⟩; have HS3 := Lib.hid (ints_ownG ho3 HWF.out); replace hbel := belStep hbel hb3; clear ho3 hg3 hb3) | (go_at_call 19; (with_reducible refine (CH.out _ _ (belStep HW5.out hbel) HS3.out).mono ?_); rintro e w5 ⟨g5, rfl, ho5, hg5, hb5⟩; have HH := Lib.hid ho5; have HS5 := Lib.hid (HS3.out.later hb5); replace hbel := belStep hbel hb5; clear ho5 hg5 hb5))
        clear HS1 HS3
        replace cc0 := keepOnP cc0 hbel
        replace cc1 := keepOnP cc1 hbel
        replace cc2 := keepOnP cc2 hbel
        replace cc3 := keepOnP cc3 hbel
        replace cc4 := keepOnP cc4 hbel
        replace cc5 := keepOnP cc5 hbel
        replace cc6 := keepOnP cc6 hbel
        replace cc7 := keepOnP cc7 hbel
        replace cc8 := keepOnP cc8 hbel
        replace cc9 := keepOnP cc9 hbel
        replace cc10 := keepOnP cc10 hbel
        replace y1 := keepOnP y1 hbel
        replace y2 := keepOnP y2 hbel
        replace y3 := keepOnP y3 hbel
        replace a0 := keepOnP a0 hbel
        replace a1 := keepOnP a1 hbel
        replace hw := belStep hw hbel
        clear hbel
        generalize w5 = W7 at *
        have hbel : Below W7.heap.size W7 W7 := Below.refl _ _
        have HW7 := Lib.hid (belStep HW5.out hw)
        clear hw HW5
        go_wp2
        clear hbel
        go_loopw [15] (fun v wr => ∃ k : Nat, k ≤ c.tl ∧ v = .int .i64 k ∧ Below W7.heap.size W7 wr) (fun v _ => c.tl - (intOf v).toNat)
        case atStart => exact ⟨0, by omega, rfl, Below.refl _ _⟩
        case round =>
          obtain ⟨k, hk, rfl, hbel⟩ := hrel
          have HB7 := Lib.hid hbel
          by_cases hkt : k < c.tl
          · obtain ⟨t, hti, htr, hto, bt, ot, hta, _, x0, x1, x2, x3, x4⟩ := (HG4.out _ HW7.out).at hkt
            obtain ⟨hbt1, hbt2⟩ := (HG4.out _ HW7.out).bd
            replace x0 := keep x0
            replace x1 := keep x1
            replace x2 := keep x2
            replace x3 := keep x3
            replace x4 := keep x4
            have hlenH : (holdL c (svA c L r0 (i + 1)) (r0 + ai)).length = c.tl := by rw [holdL_len (svA_len c L r0 (i + 1)), HLEN.out]
            have hz := HH.out.cellAt hlenH.symm (holdL_get (r := r0 + ai) hti (by rw [svA_len, HLEN.out]; exact hkt))
            rw [svA_el hti] at hz
            have han := HAN.out t
            have hki : (k : Int) < (c.tl : Int) := by omega
            generalize holdE t (sv (fR c L t) (atA L r0) (i + 1)) (r0 + ai) = z at *
            replace hz := keep hz
            have hgf := (ThrV.facts htr).2.2
            simp only [hta] at cc6 ⊢
            clear hti htr hto hlenH
            obtain ⟨tg, tp, tm, ts, tgr⟩ := t
            simp only at x0 x1 x2 x3 x4 hgf han
            rcases Bool.eq_false_or_eq_true z with rfl | rfl
            · rcases hgf with ⟨rfl, g1, g2⟩ | ⟨rfl, g1⟩
              · have hge := han rfl rfl
                have hwk : IntKind.i64.wrap (ai - az) = ai - az := by simp only [IntKind.wrap_i64]; omega
                have hwk2 : wrap64 (ai - az) = ai - az := by unfold wrap64; omega
                clear han g1 g2
                go_wp2
                have kk := fun d os => belStep hbel (below_regrown _ d os)
                refine wp_region_quiet_below (by kernel_rfl) (by kernel_rfl) ?_
                repeat ((with_reducible refine wpQuiet_step (fun K hK => ?_)); go_simp; (try (rw [if_neg]; rotate_left; · decide)); first | ((with_reducible refine hK _ ?_); clear hK K) | (apply Exists.intro; refine ⟨fun _ => ?_, hK _ ?_⟩; (fail); clear hK K))
                refine wpQuiet_nil (fun w1 hw1 => ?_)
                replace hbel := belStep hbel (bel_of_class hw1)
                clear hw1 kk
                go_wp2
                go_roundw
                case rel => exact ⟨k + 1, by omega, by push_cast; rfl, hbel⟩
                case measure => simp [intOf] <;> omega
              · clear han g1
                go_wp2
                have kk := fun d os => belStep hbel (below_regrown _ d os)
                refine wp_region_quiet_below (by kernel_rfl) (by kernel_rfl) ?_
                repeat ((with_reducible refine wpQuiet_step (fun K hK => ?_)); go_simp; (try (rw [if_neg]; rotate_left; · decide)); first | ((with_reducible refine hK _ ?_); clear hK K) | (apply Exists.intro; refine ⟨fun _ => ?_, hK _ ?_⟩; (fail); clear hK K))
                refine wpQuiet_nil (fun w1 hw1 => ?_)
                replace hbel := belStep hbel (bel_of_class hw1)
                clear hw1 kk
                go_wp2
                go_roundw
                case rel => exact ⟨k + 1, by omega, by push_cast; rfl, hbel⟩
                case measure => simp [intOf] <;> omega
            · clear han hgf
              go_wp2
              have kk := fun d os => belStep hbel (below_regrown _ d os)
              refine wp_region_quiet_below (by kernel_rfl) (by kernel_rfl) ?_
              repeat ((with_reducible refine wpQuiet_step (fun K hK => ?_)); go_simp; (try (rw [if_neg]; rotate_left; · decide)); first | ((with_reducible refine hK _ ?_); clear hK K) | (apply Exists.intro; refine ⟨fun _ => ?_, hK _ ?_⟩; (fail); clear hK K))
              refine wpQuiet_nil (fun w1 hw1 => ?_)
              replace hbel := belStep hbel (bel_of_class hw1)
              clear hw1 kk
              go_wp2
              go_roundw
              case rel => exact ⟨k + 1, by omega, by push_cast; rfl, hbel⟩
              case measure => simp [intOf] <;> omega
          · obtain rfl : k = c.tl := by omega
            have hki : ¬ (c.tl : Int) < (c.tl : Int) := by omega
            go_wp2
            go_roundw
            case rel => exact ⟨i + 1, by omega, by push_cast; rfl, ⟨g3, rfl, HS5.out.later HB7.out⟩, belStep HW7.out HB7.out⟩
            case measure => simp [intOf] <;> omega
      · obtain rfl : i = n := by omega
        have hini : ¬ (i : Int) < (i : Int) := by omega
        go_wp2
        go_ret
        exact ⟨rfl, belStep HW4.out hbel⟩

set_option maxRecDepth 100000 in
theorem lifted (os : Os) (started : os.Started) (H : Type) (enc : TypeId × Value → H) :
    ReturnsInHanded {} Try.checked os 6 .any (Rows.graceAnewSpec.pre6 enc Try.prog Try.f6 Rows.graceAnewRow.domain false) (Rows.graceAnewSpec.post enc Try.prog Try.f6 false true false false) := by
  refine returnsInHanded_of_change (C := Try.checked) own started (by kernel_rfl) Try.func6
    (ChangeSpec.witness6 (enc := enc) (C := Try.checked) false ⟨#[], #[.agg #[.int .i64 0, .int .i64 0, .int .i64 0, .int .i64 0, .int .i64 0, .int .i64 0, .slice none 0 0, .int .i64 0, .int .i64 0, .int .i64 0, .int .i64 0], .slice none 0 0, .int .i64 0, .slice none 0 0], []⟩ 8 (by kernel_rfl) (by kernel_rfl) (by kernel_rfl) (by kernel_rfl)) ?_
  intro W base args ds gs before hval0 hW hcnd _
  have hval : ∀ (j : Nat) t v, Try.f6.params[j]? = some t → args[j]? = some v → Value.okWide Try.prog W .any base t v := hval0
  have hW' := hW
  obtain ⟨p, q, hA0, hV, rfl, hfz, hnd⟩ := hW
  have hA : DataW.TrodAll enc Try.prog W 0 (fun _ => true) true Try.f6.params.toList args.toList ds p := hA0
  rw [Try.params6] at hA hval
  obtain ⟨v0, vs0, d0, ds0, p0, q0, hargs, rfl, rfl, h0, r0⟩ := trodAll_cons hA
  obtain ⟨v1, vs1, d1, ds1, p1, q1, rfl, rfl, rfl, h1, r1⟩ := trodAll_cons r0
  obtain ⟨v2, vs2, d2, ds2, p2, q2, rfl, rfl, rfl, h2, r2⟩ := trodAll_cons r1
  obtain ⟨v3, vs3, d3, ds3, p3, q3, rfl, rfl, rfl, h3, r3⟩ := trodAll_cons r2
  obtain ⟨rfl, rfl, rfl⟩ := trodAll_nil r3
  obtain rfl : args = #[v0, v1, v2, v3] := by cases args; simp_all
  obtain ⟨rfl, rfl⟩ := trodVars_none hV
  have k0 := h0
  have lt0 : ∀ x ∈ p0, x.block < W.heap.size := by obtain ⟨m, hm⟩ := k0; exact DataW.trod_lt m _ _ _ hm
  have o0 : Value.okWide Try.prog W .any base 25 v0 := hval 0 25 v0 rfl rfl
  obtain ⟨c0, rfl, hc0⟩ := open_cfg o0 h0
  have k1 := h1
  have lt1 : ∀ x ∈ p1, x.block < W.heap.size := by obtain ⟨m, hm⟩ := k1; exact DataW.trod_lt m _ _ _ hm
  have o1 : Value.okWide Try.prog W .any base 26 v1 := hval 1 26 v1 rfl rfl
  obtain ⟨a1, len1, cap1, rfl⟩ := okWide_slice Try.underlying26 o1
  obtain ⟨z1, w1⟩ : ∃ zs, Ints .i64 W a1 len1 cap1 zs := ints_of_trod Try.underlying26 Try.underlying3 (by kernel_rfl) h1
  have k2 := h2
  have lt2 : ∀ x ∈ p2, x.block < W.heap.size := by obtain ⟨m, hm⟩ := k2; exact DataW.trod_lt m _ _ _ hm
  have o2 : Value.okWide Try.prog W .any base 3 v2 := hval 2 3 v2 rfl rfl
  obtain ⟨a2, rfl, rfl, rfl, w2⟩ := open_int Try.underlying3 o2 h2
  have k3 := h3
  have lt3 : ∀ x ∈ p3, x.block < W.heap.size := by obtain ⟨m, hm⟩ := k3; exact DataW.trod_lt m _ _ _ hm
  have o3 : Value.okWide Try.prog W .any base 42 v3 := hval 3 42 v3 rfl rfl
  obtain ⟨a3, n3, lc3, L3, rfl, hL3, hok3, hR3⟩ := open_rows o3 h3
  clear hA0 hval0
  refine (walk c0 a1 len1 cap1 z1 a2 a3 n3 lc3 L3 W hc0 w1 (inI_of_wf w2) hL3 hok3 hR3).mono fun e W' ⟨he, bel⟩ => ?_
  subst he
  exact ⟨_, rfl, _, _, _, [], _, [], hW', trodAll_mk1 (shut_bool Try.underlying4 _), (trodAll_cons_mk (Below.trod laidOut (by kernel_rfl) (of_decide_eq_true (by kernel_rfl)) k0 bel lt0) (trodAll_cons_mk (Below.trod laidOut (by kernel_rfl) (of_decide_eq_true (by kernel_rfl)) k1 bel lt1) (trodAll_cons_mk (Below.trod laidOut (by kernel_rfl) (of_decide_eq_true (by kernel_rfl)) k2 bel lt2) (trodAll_cons_mk (Below.trod laidOut (by kernel_rfl) (of_decide_eq_true (by kernel_rfl)) k3 bel lt3) trodAll_mk0)))), rfl, bel.frame _, fun h => by cases h⟩

theorem over : Rows.graceAnewRow.holds Try.pinned (OpenSpec.ofChange Rows.graceAnewSpec) :=
  OpenClaim.holds_of_wide 6 Try.f6 rfl rfl rfl rfl rfl rfl rfl ⟨rfl, rfl, rfl, rfl, rfl⟩ rfl rfl rfl rfl rfl (by kernel_rfl) Try.func6 (by kernel_rfl)
    (of_decide_eq_true (by kernel_rfl)) (by unfold Func.isWrapper; first | (rw [if_pos (by decide +kernel)]; kernel_rfl) | (rw [if_neg (by decide +kernel)]; exact ⟨rfl, rfl⟩))
    (fun os started H enc _ => lifted os started H enc)

/-- The statement. -/
theorem proved : Rows.GraceAnewSaid := over
#print axioms proved

end Go.Proofs.Ytbancemkajgljaa.graceAnew
