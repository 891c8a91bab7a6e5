/- GraceSteps holds for every config, timers, sample and round: what is met, the timers behind it, what holds. No conditions. -/
import Derived.Test.YtbancemkajgljaaAwake18
namespace Go.Proofs.Ytbancemkajgljaa.graceSteps
open Go.ChangeShapes Go.WideShapes Go.ChangeAt Go.RowKit
open Go.ChangeMaps (open_string shut_string)
set_option linter.unusedVariables false
set_option linter.unusedSimpArgs false

theorem ints_mk {w : World} {a : Option Addr} {n cap : Nat} {l : List Int} (h : Row w a n cap 1 (l.map (fun c => .int .i64 c))) (hw : ∀ x ∈ l, (Lit.int .i64 x).wf = true) : Ints .i64 w a n cap l := ⟨h, hw⟩
theorem rows_ownG {α : Type} {f : α → Value} {w : World} {B : Nat} {e : TypeId} {a : Option Addr} {n cap : Nat} {l : List α} (h : OwnG f w B e (.slice a n cap) l) : Row w a n cap 1 (l.map f) := by
  obtain ⟨a', cap', e1, h1⟩ := h.row
  simp at e1
  obtain ⟨rfl, rfl, rfl⟩ := e1
  exact h1
section
variable {P : Program} {md : Region.Mode} {ops : Array Oper} {Q : Exit → Act → World → Prop} {S : World → Prop}
/-- A region in phases: what stands behind a phase is shown once, whatever order the phase took. -/
theorem phase {fuel : Nat} {listed : Array Bool} {a : Act} {w : World} (fuel2 : Nat) (listed2 : Array Bool) (Pre : Act → World → Prop)
    (rest : ∀ a w, S w → Pre a w → wpAnyH P md ops Q S fuel2 listed2 a w)
    (first : RowKit.Hid (∀ a w, S w → Pre a w → wpAnyH P md ops Q S fuel2 listed2 a w) → wpAnyH P md ops Q S fuel listed a w) : wpAnyH P md ops Q S fuel listed a w := first (Lib.hid rest)
theorem relist {fuel : Nat} {listed listed2 : Array Bool} {a : Act} {w : World} (h : listed = listed2) (h2 : wpAnyH P md ops Q S fuel listed2 a w) : wpAnyH P md ops Q S fuel listed a w := h ▸ h2
end
set_option maxRecDepth 100000 in
set_option maxHeartbeats 8000000 in
theorem walk (c : CfgV) (sa : Option Addr) (sl sc : Nat) (S : List Int) (v0 v1 v2 r : Int) (w : World) (hc : c.ok w) (hS : Ints .i64 w sa sl sc S) (hv0 : InI v0) (hv1 : InI v1) (hv2 : InI v2) (hr0 : InI r) : Calls Try.prog 3 #[.agg #[.int .i64 c.k0, .int .i64 c.k1, .int .i64 c.k2, .int .i64 c.a0, .int .i64 c.a1, .int .i64 c.a2, .slice c.ta c.tl c.tc, .int .i64 c.per, .int .i64 c.ret, .int .i64 c.age, .int .i64 c.dead], .slice sa sl sc, .agg #[.int .i64 v0, .int .i64 v1, .int .i64 v2], .int .i64 r] w fun e w' => e = .returned (.bool true) ∧ Below w.heap.size w w' := by
  have hw : Below w.heap.size w w := Below.refl _ _
  have hbel := hw
  have CF := Lib.hid (fun u (h : Below w.heap.size w u) => ref_Fit c sa sl sc S r u (hc.later h) (hS.later h))
  have HC := Lib.hid hc
  have HS := Lib.hid hS
  have HV := Lib.hid (And.intro hv0 (And.intro hv1 hv2))
  clear hc hS hv0 hv1 hv2 hr0
  go_enter Try.func3, Try.ntmps3
  go_upto_region 1 with fail
  have cc0 : ((w.alloc (.cells #[.int .i64 c.k0, .int .i64 c.k1, .int .i64 c.k2, .int .i64 c.a0, .int .i64 c.a1, .int .i64 c.a2, .slice c.ta c.tl c.tc, .int .i64 c.per, .int .i64 c.ret, .int .i64 c.age, .int .i64 c.dead] 25)).alloc (.cells #[.int .i64 v0, .int .i64 v1, .int .i64 v2] 22)).cell? ⟨w.heap.size, 0, none⟩ = some (.int .i64 c.k0) := by first | (simp; done) | (rw [World.cell?_alloc_at _ _ _ _ (by simp)]; rfl) | (rw [World.cell?_alloc_past _ _ _ (by simp <;> omega), World.cell?_alloc_at _ _ _ _ (by simp)]; rfl) | (rw [World.cell?_alloc_past _ _ _ (by simp <;> omega), World.cell?_alloc_past _ _ _ (by simp <;> omega), World.cell?_alloc_at _ _ _ _ (by simp)]; rfl)
  have cc1 : ((w.alloc (.cells #[.int .i64 c.k0, .int .i64 c.k1, .int .i64 c.k2, .int .i64 c.a0, .int .i64 c.a1, .int .i64 c.a2, .slice c.ta c.tl c.tc, .int .i64 c.per, .int .i64 c.ret, .int .i64 c.age, .int .i64 c.dead] 25)).alloc (.cells #[.int .i64 v0, .int .i64 v1, .int .i64 v2] 22)).cell? ⟨w.heap.size, 1, none⟩ = some (.int .i64 c.k1) := by first | (simp; done) | (rw [World.cell?_alloc_at _ _ _ _ (by simp)]; rfl) | (rw [World.cell?_alloc_past _ _ _ (by simp <;> omega), World.cell?_alloc_at _ _ _ _ (by simp)]; rfl) | (rw [World.cell?_alloc_past _ _ _ (by simp <;> omega), World.cell?_alloc_past _ _ _ (by simp <;> omega), World.cell?_alloc_at _ _ _ _ (by simp)]; rfl)
  have cc2 : ((w.alloc (.cells #[.int .i64 c.k0, .int .i64 c.k1, .int .i64 c.k2, .int .i64 c.a0, .int .i64 c.a1, .int .i64 c.a2, .slice c.ta c.tl c.tc, .int .i64 c.per, .int .i64 c.ret, .int .i64 c.age, .int .i64 c.dead] 25)).alloc (.cells #[.int .i64 v0, .int .i64 v1, .int .i64 v2] 22)).cell? ⟨w.heap.size, 2, none⟩ = some (.int .i64 c.k2) := by first | (simp; done) | (rw [World.cell?_alloc_at _ _ _ _ (by simp)]; rfl) | (rw [World.cell?_alloc_past _ _ _ (by simp <;> omega), World.cell?_alloc_at _ _ _ _ (by simp)]; rfl) | (rw [World.cell?_alloc_past _ _ _ (by simp <;> omega), World.cell?_alloc_past _ _ _ (by simp <;> omega), World.cell?_alloc_at _ _ _ _ (by simp)]; rfl)
  have cc3 : ((w.alloc (.cells #[.int .i64 c.k0, .int .i64 c.k1, .int .i64 c.k2, .int .i64 c.a0, .int .i64 c.a1, .int .i64 c.a2, .slice c.ta c.tl c.tc, .int .i64 c.per, .int .i64 c.ret, .int .i64 c.age, .int .i64 c.dead] 25)).alloc (.cells #[.int .i64 v0, .int .i64 v1, .int .i64 v2] 22)).cell? ⟨w.heap.size, 3, none⟩ = some (.int .i64 c.a0) := by first | (simp; done) | (rw [World.cell?_alloc_at _ _ _ _ (by simp)]; rfl) | (rw [World.cell?_alloc_past _ _ _ (by simp <;> omega), World.cell?_alloc_at _ _ _ _ (by simp)]; rfl) | (rw [World.cell?_alloc_past _ _ _ (by simp <;> omega), World.cell?_alloc_past _ _ _ (by simp <;> omega), World.cell?_alloc_at _ _ _ _ (by simp)]; rfl)
  have cc4 : ((w.alloc (.cells #[.int .i64 c.k0, .int .i64 c.k1, .int .i64 c.k2, .int .i64 c.a0, .int .i64 c.a1, .int .i64 c.a2, .slice c.ta c.tl c.tc, .int .i64 c.per, .int .i64 c.ret, .int .i64 c.age, .int .i64 c.dead] 25)).alloc (.cells #[.int .i64 v0, .int .i64 v1, .int .i64 v2] 22)).cell? ⟨w.heap.size, 4, none⟩ = some (.int .i64 c.a1) := by first | (simp; done) | (rw [World.cell?_alloc_at _ _ _ _ (by simp)]; rfl) | (rw [World.cell?_alloc_past _ _ _ (by simp <;> omega), World.cell?_alloc_at _ _ _ _ (by simp)]; rfl) | (rw [World.cell?_alloc_past _ _ _ (by simp <;> omega), World.cell?_alloc_past _ _ _ (by simp <;> omega), World.cell?_alloc_at _ _ _ _ (by simp)]; rfl)
  have cc5 : ((w.alloc (.cells #[.int .i64 c.k0, .int .i64 c.k1, .int .i64 c.k2, .int .i64 c.a0, .int .i64 c.a1, .int .i64 c.a2, .slice c.ta c.tl c.tc, .int .i64 c.per, .int .i64 c.ret, .int .i64 c.age, .int .i64 c.dead] 25)).alloc (.cells #[.int .i64 v0, .int .i64 v1, .int .i64 v2] 22)).cell? ⟨w.heap.size, 5, none⟩ = some (.int .i64 c.a2) := by first | (simp; done) | (rw [World.cell?_alloc_at _ _ _ _ (by simp)]; rfl) | (rw [World.cell?_alloc_past _ _ _ (by simp <;> omega), World.cell?_alloc_at _ _ _ _ (by simp)]; rfl) | (rw [World.cell?_alloc_past _ _ _ (by simp <;> omega), World.cell?_alloc_past _ _ _ (by simp <;> omega), World.cell?_alloc_at _ _ _ _ (by simp)]; rfl)
  have cc6 : ((w.alloc (.cells #[.int .i64 c.k0, .int .i64 c.k1, .int .i64 c.k2, .int .i64 c.a0, .int .i64 c.a1, .int .i64 c.a2, .slice c.ta c.tl c.tc, .int .i64 c.per, .int .i64 c.ret, .int .i64 c.age, .int .i64 c.dead] 25)).alloc (.cells #[.int .i64 v0, .int .i64 v1, .int .i64 v2] 22)).cell? ⟨w.heap.size, 6, none⟩ = some (.slice c.ta c.tl c.tc) := by first | (simp; done) | (rw [World.cell?_alloc_at _ _ _ _ (by simp)]; rfl) | (rw [World.cell?_alloc_past _ _ _ (by simp <;> omega), World.cell?_alloc_at _ _ _ _ (by simp)]; rfl) | (rw [World.cell?_alloc_past _ _ _ (by simp <;> omega), World.cell?_alloc_past _ _ _ (by simp <;> omega), World.cell?_alloc_at _ _ _ _ (by simp)]; rfl)
  have cc7 : ((w.alloc (.cells #[.int .i64 c.k0, .int .i64 c.k1, .int .i64 c.k2, .int .i64 c.a0, .int .i64 c.a1, .int .i64 c.a2, .slice c.ta c.tl c.tc, .int .i64 c.per, .int .i64 c.ret, .int .i64 c.age, .int .i64 c.dead] 25)).alloc (.cells #[.int .i64 v0, .int .i64 v1, .int .i64 v2] 22)).cell? ⟨w.heap.size, 7, none⟩ = some (.int .i64 c.per) := by first | (simp; done) | (rw [World.cell?_alloc_at _ _ _ _ (by simp)]; rfl) | (rw [World.cell?_alloc_past _ _ _ (by simp <;> omega), World.cell?_alloc_at _ _ _ _ (by simp)]; rfl) | (rw [World.cell?_alloc_past _ _ _ (by simp <;> omega), World.cell?_alloc_past _ _ _ (by simp <;> omega), World.cell?_alloc_at _ _ _ _ (by simp)]; rfl)
  have cc8 : ((w.alloc (.cells #[.int .i64 c.k0, .int .i64 c.k1, .int .i64 c.k2, .int .i64 c.a0, .int .i64 c.a1, .int .i64 c.a2, .slice c.ta c.tl c.tc, .int .i64 c.per, .int .i64 c.ret, .int .i64 c.age, .int .i64 c.dead] 25)).alloc (.cells #[.int .i64 v0, .int .i64 v1, .int .i64 v2] 22)).cell? ⟨w.heap.size, 8, none⟩ = some (.int .i64 c.ret) := by first | (simp; done) | (rw [World.cell?_alloc_at _ _ _ _ (by simp)]; rfl) | (rw [World.cell?_alloc_past _ _ _ (by simp <;> omega), World.cell?_alloc_at _ _ _ _ (by simp)]; rfl) | (rw [World.cell?_alloc_past _ _ _ (by simp <;> omega), World.cell?_alloc_past _ _ _ (by simp <;> omega), World.cell?_alloc_at _ _ _ _ (by simp)]; rfl)
  have cc9 : ((w.alloc (.cells #[.int .i64 c.k0, .int .i64 c.k1, .int .i64 c.k2, .int .i64 c.a0, .int .i64 c.a1, .int .i64 c.a2, .slice c.ta c.tl c.tc, .int .i64 c.per, .int .i64 c.ret, .int .i64 c.age, .int .i64 c.dead] 25)).alloc (.cells #[.int .i64 v0, .int .i64 v1, .int .i64 v2] 22)).cell? ⟨w.heap.size, 9, none⟩ = some (.int .i64 c.age) := by first | (simp; done) | (rw [World.cell?_alloc_at _ _ _ _ (by simp)]; rfl) | (rw [World.cell?_alloc_past _ _ _ (by simp <;> omega), World.cell?_alloc_at _ _ _ _ (by simp)]; rfl) | (rw [World.cell?_alloc_past _ _ _ (by simp <;> omega), World.cell?_alloc_past _ _ _ (by simp <;> omega), World.cell?_alloc_at _ _ _ _ (by simp)]; rfl)
  have cc10 : ((w.alloc (.cells #[.int .i64 c.k0, .int .i64 c.k1, .int .i64 c.k2, .int .i64 c.a0, .int .i64 c.a1, .int .i64 c.a2, .slice c.ta c.tl c.tc, .int .i64 c.per, .int .i64 c.ret, .int .i64 c.age, .int .i64 c.dead] 25)).alloc (.cells #[.int .i64 v0, .int .i64 v1, .int .i64 v2] 22)).cell? ⟨w.heap.size, 10, none⟩ = some (.int .i64 c.dead) := by first | (simp; done) | (rw [World.cell?_alloc_at _ _ _ _ (by simp)]; rfl) | (rw [World.cell?_alloc_past _ _ _ (by simp <;> omega), World.cell?_alloc_at _ _ _ _ (by simp)]; rfl) | (rw [World.cell?_alloc_past _ _ _ (by simp <;> omega), World.cell?_alloc_past _ _ _ (by simp <;> omega), World.cell?_alloc_at _ _ _ _ (by simp)]; rfl)
  have vv0 : ((w.alloc (.cells #[.int .i64 c.k0, .int .i64 c.k1, .int .i64 c.k2, .int .i64 c.a0, .int .i64 c.a1, .int .i64 c.a2, .slice c.ta c.tl c.tc, .int .i64 c.per, .int .i64 c.ret, .int .i64 c.age, .int .i64 c.dead] 25)).alloc (.cells #[.int .i64 v0, .int .i64 v1, .int .i64 v2] 22)).cell? ⟨w.heap.size + 1, 0, none⟩ = some (.int .i64 v0) := by first | (simp; done) | (rw [World.cell?_alloc_at _ _ _ _ (by simp)]; rfl) | (rw [World.cell?_alloc_past _ _ _ (by simp <;> omega), World.cell?_alloc_at _ _ _ _ (by simp)]; rfl) | (rw [World.cell?_alloc_past _ _ _ (by simp <;> omega), World.cell?_alloc_past _ _ _ (by simp <;> omega), World.cell?_alloc_at _ _ _ _ (by simp)]; rfl)
  have vv1 : ((w.alloc (.cells #[.int .i64 c.k0, .int .i64 c.k1, .int .i64 c.k2, .int .i64 c.a0, .int .i64 c.a1, .int .i64 c.a2, .slice c.ta c.tl c.tc, .int .i64 c.per, .int .i64 c.ret, .int .i64 c.age, .int .i64 c.dead] 25)).alloc (.cells #[.int .i64 v0, .int .i64 v1, .int .i64 v2] 22)).cell? ⟨w.heap.size + 1, 1, none⟩ = some (.int .i64 v1) := by first | (simp; done) | (rw [World.cell?_alloc_at _ _ _ _ (by simp)]; rfl) | (rw [World.cell?_alloc_past _ _ _ (by simp <;> omega), World.cell?_alloc_at _ _ _ _ (by simp)]; rfl) | (rw [World.cell?_alloc_past _ _ _ (by simp <;> omega), World.cell?_alloc_past _ _ _ (by simp <;> omega), World.cell?_alloc_at _ _ _ _ (by simp)]; rfl)
  have vv2 : ((w.alloc (.cells #[.int .i64 c.k0, .int .i64 c.k1, .int .i64 c.k2, .int .i64 c.a0, .int .i64 c.a1, .int .i64 c.a2, .slice c.ta c.tl c.tc, .int .i64 c.per, .int .i64 c.ret, .int .i64 c.age, .int .i64 c.dead] 25)).alloc (.cells #[.int .i64 v0, .int .i64 v1, .int .i64 v2] 22)).cell? ⟨w.heap.size + 1, 2, none⟩ = some (.int .i64 v2) := by first | (simp; done) | (rw [World.cell?_alloc_at _ _ _ _ (by simp)]; rfl) | (rw [World.cell?_alloc_past _ _ _ (by simp <;> omega), World.cell?_alloc_at _ _ _ _ (by simp)]; rfl) | (rw [World.cell?_alloc_past _ _ _ (by simp <;> omega), World.cell?_alloc_past _ _ _ (by simp <;> omega), World.cell?_alloc_at _ _ _ _ (by simp)]; rfl)
  have hb2 := (by repeat (first | exact hbel | refine belAlloc ?_ _ | refine belDrew ?_ | refine belSet ?_ _ _ (by simp)) : Below w.heap.size w ((w.alloc (.cells #[.int .i64 c.k0, .int .i64 c.k1, .int .i64 c.k2, .int .i64 c.a0, .int .i64 c.a1, .int .i64 c.a2, .slice c.ta c.tl c.tc, .int .i64 c.per, .int .i64 c.ret, .int .i64 c.age, .int .i64 c.dead] 25)).alloc (.cells #[.int .i64 v0, .int .i64 v1, .int .i64 v2] 22)))
  replace hw := belStep hw hb2
  clear hb2 hbel
  generalize (w.alloc (.cells #[.int .i64 c.k0, .int .i64 c.k1, .int .i64 c.k2, .int .i64 c.a0, .int .i64 c.a1, .int .i64 c.a2, .slice c.ta c.tl c.tc, .int .i64 c.per, .int .i64 c.ret, .int .i64 c.age, .int .i64 c.dead] 25)).alloc (.cells #[.int .i64 v0, .int .i64 v1, .int .i64 v2] 22) = W1 at *
  replace cc0 := keep cc0
  replace cc1 := keep cc1
  replace cc2 := keep cc2
  replace cc3 := keep cc3
  replace cc4 := keep cc4
  replace cc5 := keep cc5
  replace cc6 := keep cc6
  replace cc7 := keep cc7
  replace cc8 := keep cc8
  replace cc9 := keep cc9
  replace cc10 := keep cc10
  replace vv0 := keep vv0
  replace vv1 := keep vv1
  replace vv2 := keep vv2
  have hbel : Below W1.heap.size W1 W1 := Below.refl _ _
  skip
  have HW := Lib.hid hw
  go_upto_region 3 with (first | (go_at_call 9; (with_reducible refine (awake18 _).mono ?_); rintro e w1 ⟨rfl, hb1⟩; replace hbel := belStep hbel hb1; clear hb1) | (go_at_call 10; (with_reducible refine (CF.out _ (belStep HW.out hbel)).mono ?_); rintro e w2 ⟨⟨b, rfl, hT⟩, hb2⟩; replace hbel := belStep hbel hb2; have HTT := Lib.hid hT; clear hb2 hT; rcases Bool.eq_false_or_eq_true b with rfl | rfl))
  rotate_left 1
  · go_wp2_with (first | (go_at_call 9; (with_reducible refine (awake18 _).mono ?_); rintro e w1 ⟨rfl, hb1⟩; replace hbel := belStep hbel hb1; clear hb1))
    go_ret
    exact ⟨rfl, belStep HW.out hbel⟩
  obtain ⟨hrc, hsl, hr00, hr01, hS0⟩ := HTT.out (by simp)
  subst hsl
  have HG := Lib.hid (show ∀ u, Below w.heap.size w u → Good c u from fun u hu => ⟨HC.out.later hu, hrc.few, hrc.right⟩)
  have hfew := hrc.few
  have HSR := Lib.hid (fun u (hu : Below w.heap.size w u) => HS.out.later hu)
  have HSL := Lib.hid HS.out.bounds.1
  have HLEN := Lib.hid HC.out.len
  have HSb := Lib.hid hS0
  have HRB := Lib.hid (And.intro hr00 hr01)
  clear HC HTT CF hrc hS0 hr00 hr01 HS
  replace cc0 := keepOnP cc0 hbel
  replace cc1 := keepOnP cc1 hbel
  replace cc2 := keepOnP cc2 hbel
  replace cc3 := keepOnP cc3 hbel
  replace cc4 := keepOnP cc4 hbel
  replace cc5 := keepOnP cc5 hbel
  replace cc6 := keepOnP cc6 hbel
  replace cc7 := keepOnP cc7 hbel
  replace cc8 := keepOnP cc8 hbel
  replace cc9 := keepOnP cc9 hbel
  replace cc10 := keepOnP cc10 hbel
  replace vv0 := keepOnP vv0 hbel
  replace vv1 := keepOnP vv1 hbel
  replace vv2 := keepOnP vv2 hbel
  replace hw := belStep hw hbel
  clear hbel
  generalize w2 = W2 at *
  have hbel : Below W2.heap.size W2 W2 := Below.refl _ _
  have HW2 := Lib.hid hw
  clear HW hw
  have hw : Below W2.heap.size W2 W2 := Below.refl _ _
  have CS := Lib.hid (fun u (hu : Below W2.heap.size W2 u) => gr_Step c sa sc S v0 v1 v2 r u (HG.out u (belStep HW2.out hu)) HV.out (HSR.out u (belStep HW2.out hu)))
  have hst : ∀ k, k < c.tl → -1 ≤ el (stepL c S v0 v1 v2 r) k ∧ el (stepL c S v0 v1 v2 r) k ≤ r := fun k hk => by
    obtain ⟨t, hti⟩ : ∃ t, c.L[k]? = some t := ⟨_, List.getElem?_eq_getElem (by rw [HLEN.out]; exact hk)⟩
    have h1 := stepL_get (v0 := v0) (v1 := v1) (v2 := v2) (r := r) (S := S) hti (by rw [HSL.out]; exact hk)
    have h2 : el (stepL c S v0 v1 v2 r) k = stepE (met3 c t v0 v1 v2) (el S k) r := by unfold el; rw [List.getD_eq_getElem?_getD, h1]; rfl
    rw [h2]
    have h3 := HSb.out k hk
    have h4 := HRB.out
    unfold stepE
    split
    · split <;> omega
    · omega
  have HST := Lib.hid hst
  have HLS := Lib.hid (show (stepL c S v0 v1 v2 r).length = c.tl by rw [stepL_len (by rw [HSL.out, HLEN.out]), HLEN.out])
  have hwf : ∀ x ∈ stepL c S v0 v1 v2 r, (Lit.int .i64 x).wf = true := fun x hx => by
    obtain ⟨k, hk, e⟩ := List.getElem_of_mem hx
    have h1 := HST.out k (by rw [← HLS.out]; exact hk)
    have h2 : el (stepL c S v0 v1 v2 r) k = x := by unfold el; rw [List.getD_eq_getElem?_getD, List.getElem?_eq_getElem hk, e]; rfl
    rw [h2] at h1
    have := HRB.out
    exact wfI64 (by omega) (by omega)
  have HWF := Lib.hid hwf
  clear hst hwf
  go_upto_region 4 with (first | (go_at_call 11; (with_reducible refine (CS.out _ hbel).mono ?_); rintro e w4 ⟨g4, rfl, ho4, hg4, hb4⟩; have HI4 := Lib.hid (ints_ownG ho4 HWF.out); replace hbel := belStep hbel hb4; clear ho4 hb4 hg4))
  replace cc0 := keepOnP cc0 hbel
  replace cc1 := keepOnP cc1 hbel
  replace cc2 := keepOnP cc2 hbel
  replace cc3 := keepOnP cc3 hbel
  replace cc4 := keepOnP cc4 hbel
  replace cc5 := keepOnP cc5 hbel
  replace cc6 := keepOnP cc6 hbel
  replace cc7 := keepOnP cc7 hbel
  replace cc8 := keepOnP cc8 hbel
  replace cc9 := keepOnP cc9 hbel
  replace cc10 := keepOnP cc10 hbel
  replace vv0 := keepOnP vv0 hbel
  replace vv1 := keepOnP vv1 hbel
  replace vv2 := keepOnP vv2 hbel
  replace hw := belStep hw hbel
  clear hbel
  generalize w4 = W3 at *
  have hbel : Below W3.heap.size W3 W3 := Below.refl _ _
  have HW3 := Lib.hid (belStep HW2.out hw)
  clear hw CS HW2
  have CB := Lib.hid (fun u (hu : Below W3.heap.size W3 u) => gr_Begin c u (HG.out u (belStep HW3.out hu)))
  have CB2 := Lib.hid (fun u (hu : Below W3.heap.size W3 u) => ref_Begin c u (HG.out u (belStep HW3.out hu)))
  have CM := Lib.hid (fun u (hu : Below W3.heap.size W3 u) => gr_Met c v0 v1 v2 u (HG.out u (belStep HW3.out hu)) HV.out)
  have CM2 := Lib.hid (fun u (hu : Below W3.heap.size W3 u) => ref_MetL c v0 v1 v2 u (HG.out u (belStep HW3.out hu)) HV.out)
  have CS2 := Lib.hid (fun u (hu : Below W3.heap.size W3 u) => ref_Step c sa sc S v0 v1 v2 r u (HG.out u (belStep HW3.out hu)) HV.out (HSR.out u (belStep HW3.out hu)) (fun k hk => (HSb.out k hk).1))
  have CH := Lib.hid (fun u (hu : Below W3.heap.size W3 u) => gr_Hold c sa sc S r u (HG.out u (belStep HW3.out hu)) (HSR.out u (belStep HW3.out hu)) (by have := HRB.out; omega) (fun k hk => by have := HSb.out k hk; have := HRB.out; omega))
  have CH2 := Lib.hid (fun u (hu : Below W3.heap.size W3 u) => ref_Hold c sa sc S r u (HG.out u (belStep HW3.out hu)) (HSR.out u (belStep HW3.out hu)) (by have := HRB.out; omega) (fun k hk => by have := HSb.out k hk; have := HRB.out; omega))
  have CG := Lib.hid (fun u (hu : Below W3.heap.size W3 u) => gr_Hold c (some ⟨g4, 0, none⟩) c.tl (stepL c S v0 v1 v2 r) r u (HG.out u (belStep HW3.out hu)) (HI4.out.later hu) (by have := HRB.out; omega) (fun k hk => by have := HST.out k hk; have := HRB.out; omega))
  have CG2 := Lib.hid (fun (x : Option Addr) (cx : Nat) u (hu : Below W3.heap.size W3 u) (hI : Ints .i64 u x c.tl cx (stepL c S v0 v1 v2 r)) => ref_Hold c x cx (stepL c S v0 v1 v2 r) r u (HG.out u (belStep HW3.out hu)) hI (by have := HRB.out; omega) (fun k hk => by have := HST.out k hk; have := HRB.out; omega))
  have HLM := Lib.hid (show (c.L.map (fun t => met3 c t v0 v1 v2)).length = c.tl by rw [List.length_map, HLEN.out])
  have HLH := Lib.hid (show (holdL c S r).length = c.tl by rw [holdL_len (by rw [HSL.out, HLEN.out]), HLEN.out])
  have HLG := Lib.hid (show (holdL c (stepL c S v0 v1 v2 r) r).length = c.tl by rw [holdL_len (by rw [HLS.out, HLEN.out]), HLEN.out])
  refine wp_region_held_drew (S := (fun w' => w'.cell? ⟨w.heap.size, 0, none⟩ = some (.int .i64 c.k0) ∧ w'.cell? ⟨w.heap.size, 1, none⟩ = some (.int .i64 c.k1) ∧ w'.cell? ⟨w.heap.size, 2, none⟩ = some (.int .i64 c.k2) ∧ w'.cell? ⟨w.heap.size, 3, none⟩ = some (.int .i64 c.a0) ∧ w'.cell? ⟨w.heap.size, 4, none⟩ = some (.int .i64 c.a1) ∧ w'.cell? ⟨w.heap.size, 5, none⟩ = some (.int .i64 c.a2) ∧ w'.cell? ⟨w.heap.size, 6, none⟩ = some (.slice c.ta c.tl c.tc) ∧ w'.cell? ⟨w.heap.size, 7, none⟩ = some (.int .i64 c.per) ∧ w'.cell? ⟨w.heap.size, 8, none⟩ = some (.int .i64 c.ret) ∧ w'.cell? ⟨w.heap.size, 9, none⟩ = some (.int .i64 c.age) ∧ w'.cell? ⟨w.heap.size, 10, none⟩ = some (.int .i64 c.dead) ∧ w'.cell? ⟨w.heap.size + 1, 0, none⟩ = some (.int .i64 v0) ∧ w'.cell? ⟨w.heap.size + 1, 1, none⟩ = some (.int .i64 v1) ∧ w'.cell? ⟨w.heap.size + 1, 2, none⟩ = some (.int .i64 v2))) (by kernel_rfl) (by exact ⟨cc0 _ (by repeat (first | assumption | exact Below.refl _ _ | refine belDrew ?_ | refine belStep ?_ (by assumption))), cc1 _ (by repeat (first | assumption | exact Below.refl _ _ | refine belDrew ?_ | refine belStep ?_ (by assumption))), cc2 _ (by repeat (first | assumption | exact Below.refl _ _ | refine belDrew ?_ | refine belStep ?_ (by assumption))), cc3 _ (by repeat (first | assumption | exact Below.refl _ _ | refine belDrew ?_ | refine belStep ?_ (by assumption))), cc4 _ (by repeat (first | assumption | exact Below.refl _ _ | refine belDrew ?_ | refine belStep ?_ (by assumption))), cc5 _ (by repeat (first | assumption | exact Below.refl _ _ | refine belDrew ?_ | refine belStep ?_ (by assumption))), cc6 _ (by repeat (first | assumption | exact Below.refl _ _ | refine belDrew ?_ | refine belStep ?_ (by assumption))), cc7 _ (by repeat (first | assumption | exact Below.refl _ _ | refine belDrew ?_ | refine belStep ?_ (by assumption))), cc8 _ (by repeat (first | assumption | exact Below.refl _ _ | refine belDrew ?_ | refine belStep ?_ (by assumption))), cc9 _ (by repeat (first | assumption | exact Below.refl _ _ | refine belDrew ?_ | refine belStep ?_ (by assumption))), cc10 _ (by repeat (first | assumption | exact Below.refl _ _ | refine belDrew ?_ | refine belStep ?_ (by assumption))), vv0 _ (by repeat (first | assumption | exact Below.refl _ _ | refine belDrew ?_ | refine belStep ?_ (by assumption))), vv1 _ (by repeat (first | assumption | exact Below.refl _ _ | refine belDrew ?_ | refine belStep ?_ (by assumption))), vv2 _ (by repeat (first | assumption | exact Below.refl _ _ | refine belDrew ?_ | refine belStep ?_ (by assumption)))⟩) (fun hHeld => ?_)
  refine phase 44 #[true, true, true, true, true, true, false, false, false, false, false, false, false, false, false, false, false, false, false, false, false, false, false, false, false, false, false, false, false, false, false, false, false, false, false, false, false, false, false, false, false, false, false, false, false, false, false, false, false, false] (fun a u => ∃ x0 x2 x5 x7 x8 x10 x11 x12 x13 x14 x15 x16 x17 x18 x19 x20 x21 x22 x23 x24 x25 x26 x27 x28 x29 x31 x32 x33 x34 x35 x36 x37 x38 x39 x40 x41 x42 x43 x44 x45 x46 x47 x48 x49 x50 x51 x52 x53 x54 x55 x56 x57 x58 x59 x60 x61 x62 x63 x64 x65 x66 x67 x68 x69 x70 x71 x72 x73 : Value, a = { tmps := #[x0, .slice sa c.tl sc, x2, .int .i64 r, .pointer (some ⟨w.heap.size, 0, none⟩), x5, .pointer (some ⟨w.heap.size + 1, 0, none⟩), x7, x8, .slice (some ⟨g4, 0, none⟩) c.tl c.tl, x10, x11, x12, x13, x14, x15, x16, x17, x18, x19, x20, x21, x22, x23, x24, x25, x26, x27, x28, x29, .bool true, x31, x32, x33, x34, x35, x36, x37, x38, x39, x40, x41, x42, x43, x44, x45, x46, x47, x48, x49, x50, x51, x52, x53, x54, x55, x56, x57, x58, x59, x60, x61, x62, x63, x64, x65, x66, x67, x68, x69, x70, x71, x72, x73], defers := [] } ∧ Below W3.heap.size W3 u) ?rest_65 (fun hG => ?first_65)
  case first_65 =>
    refine wpAnyH_take (i := 0) (oi := ?oi_66) (v := ?v_66) ?hi_66 (by kernel_rfl) ?hf_66 ?hr_66 ?hQ_66 (Or.inl ⟨?hw_66, ?hy_66⟩) (by assumption) ?rest_66
    case hi_66 => ((simp only [List.getElem?_toArray, List.getElem?_cons_succ, List.getElem?_cons_zero]); rfl)
    case hf_66 => kernel_rfl
    case hr_66 => kernel_rfl
    case hQ_66 => exact fun _ _ _ h => h
    case hw_66 => rfl
    case hy_66 => ((intro w hSw; (try dsimp only at hSw); go_simp); all_goals (with_reducible rfl))
    try simp only [Act.put, List.setIfInBounds_toArray, List.set_cons_zero, List.set_cons_succ]
    refine wpAnyH_take (i := 2) (oi := ?oi_67) (v := ?v_67) ?hi_67 (by kernel_rfl) ?hf_67 ?hr_67 ?hQ_67 (Or.inl ⟨?hw_67, ?hy_67⟩) (by assumption) ?rest_67
    case hi_67 => ((simp only [List.getElem?_toArray, List.getElem?_cons_succ, List.getElem?_cons_zero]); rfl)
    case hf_67 => kernel_rfl
    case hr_67 => kernel_rfl
    case hQ_67 => exact fun _ _ _ h => h
    case hw_67 => rfl
    case hy_67 => ((intro w hSw; (try dsimp only at hSw); go_simp); all_goals (with_reducible rfl))
    try simp only [Act.put, List.setIfInBounds_toArray, List.set_cons_zero, List.set_cons_succ]
    refine wpAnyH_ready (rs := [1]) (by kernel_rfl) (by simp) ?_
    refine AllReadyH.cons (o := ?o1_74) ?hi_74 (fun K hK => ?rest_74) AllReadyH.nil
    case hi_74 => ((simp only [List.getElem?_toArray, List.getElem?_cons_succ, List.getElem?_cons_zero]); rfl)
    go_simp
    (go_at_call 13; (with_reducible refine (CB.out _ (by repeat (first | assumption | exact Below.refl _ _ | refine belDrew ?_ | refine belStep ?_ (by assumption)))).mono ?_); rintro e wq ⟨gq, rfl, hoq, hgq, hbq⟩; have R1 := Lib.hid (rows_ownG hoq); replace hbel := belStep (show Below W3.heap.size W3 _ from (by repeat (first | assumption | exact Below.refl _ _ | refine belDrew ?_ | refine belStep ?_ (by assumption)))) hbq; clear hoq hgq hbq)
    try go_simp
    refine hK.out _ _ (by exact ⟨cc0 _ (by repeat (first | assumption | exact Below.refl _ _ | refine belDrew ?_ | refine belStep ?_ (by assumption))), cc1 _ (by repeat (first | assumption | exact Below.refl _ _ | refine belDrew ?_ | refine belStep ?_ (by assumption))), cc2 _ (by repeat (first | assumption | exact Below.refl _ _ | refine belDrew ?_ | refine belStep ?_ (by assumption))), cc3 _ (by repeat (first | assumption | exact Below.refl _ _ | refine belDrew ?_ | refine belStep ?_ (by assumption))), cc4 _ (by repeat (first | assumption | exact Below.refl _ _ | refine belDrew ?_ | refine belStep ?_ (by assumption))), cc5 _ (by repeat (first | assumption | exact Below.refl _ _ | refine belDrew ?_ | refine belStep ?_ (by assumption))), cc6 _ (by repeat (first | assumption | exact Below.refl _ _ | refine belDrew ?_ | refine belStep ?_ (by assumption))), cc7 _ (by repeat (first | assumption | exact Below.refl _ _ | refine belDrew ?_ | refine belStep ?_ (by assumption))), cc8 _ (by repeat (first | assumption | exact Below.refl _ _ | refine belDrew ?_ | refine belStep ?_ (by assumption))), cc9 _ (by repeat (first | assumption | exact Below.refl _ _ | refine belDrew ?_ | refine belStep ?_ (by assumption))), cc10 _ (by repeat (first | assumption | exact Below.refl _ _ | refine belDrew ?_ | refine belStep ?_ (by assumption))), vv0 _ (by repeat (first | assumption | exact Below.refl _ _ | refine belDrew ?_ | refine belStep ?_ (by assumption))), vv1 _ (by repeat (first | assumption | exact Below.refl _ _ | refine belDrew ?_ | refine belStep ?_ (by assumption))), vv2 _ (by repeat (first | assumption | exact Below.refl _ _ | refine belDrew ?_ | refine belStep ?_ (by assumption)))⟩) (fun hHeld => ?_)
    clear hK K
    try simp only [Act.put, List.setIfInBounds_toArray, List.set_cons_zero, List.set_cons_succ]
    refine wpAnyH_ready (rs := [3]) (by kernel_rfl) (by simp) ?_
    refine AllReadyH.cons (o := ?o1_68) ?hi_68 (fun K hK => ?rest_68) AllReadyH.nil
    case hi_68 => ((simp only [List.getElem?_toArray, List.getElem?_cons_succ, List.getElem?_cons_zero]); rfl)
    go_simp
    (go_at_call 14; (with_reducible refine (CB2.out _ (by repeat (first | assumption | exact Below.refl _ _ | refine belDrew ?_ | refine belStep ?_ (by assumption)))).mono ?_); rintro e wq ⟨vq, rfl, hoq, hbq⟩; obtain ⟨aq, cq, eq, hrq⟩ := hoq.row; rw [List.length_replicate] at eq hrq; subst eq; have R2 := Lib.hid hrq; replace R1 := Lib.hid (R1.out.later hbq); replace hbel := belStep (show Below W3.heap.size W3 _ from (by repeat (first | assumption | exact Below.refl _ _ | refine belDrew ?_ | refine belStep ?_ (by assumption)))) hbq; clear hoq hrq hbq)
    try go_simp
    refine hK.out _ _ (by exact ⟨cc0 _ (by repeat (first | assumption | exact Below.refl _ _ | refine belDrew ?_ | refine belStep ?_ (by assumption))), cc1 _ (by repeat (first | assumption | exact Below.refl _ _ | refine belDrew ?_ | refine belStep ?_ (by assumption))), cc2 _ (by repeat (first | assumption | exact Below.refl _ _ | refine belDrew ?_ | refine belStep ?_ (by assumption))), cc3 _ (by repeat (first | assumption | exact Below.refl _ _ | refine belDrew ?_ | refine belStep ?_ (by assumption))), cc4 _ (by repeat (first | assumption | exact Below.refl _ _ | refine belDrew ?_ | refine belStep ?_ (by assumption))), cc5 _ (by repeat (first | assumption | exact Below.refl _ _ | refine belDrew ?_ | refine belStep ?_ (by assumption))), cc6 _ (by repeat (first | assumption | exact Below.refl _ _ | refine belDrew ?_ | refine belStep ?_ (by assumption))), cc7 _ (by repeat (first | assumption | exact Below.refl _ _ | refine belDrew ?_ | refine belStep ?_ (by assumption))), cc8 _ (by repeat (first | assumption | exact Below.refl _ _ | refine belDrew ?_ | refine belStep ?_ (by assumption))), cc9 _ (by repeat (first | assumption | exact Below.refl _ _ | refine belDrew ?_ | refine belStep ?_ (by assumption))), cc10 _ (by repeat (first | assumption | exact Below.refl _ _ | refine belDrew ?_ | refine belStep ?_ (by assumption))), vv0 _ (by repeat (first | assumption | exact Below.refl _ _ | refine belDrew ?_ | refine belStep ?_ (by assumption))), vv1 _ (by repeat (first | assumption | exact Below.refl _ _ | refine belDrew ?_ | refine belStep ?_ (by assumption))), vv2 _ (by repeat (first | assumption | exact Below.refl _ _ | refine belDrew ?_ | refine belStep ?_ (by assumption)))⟩) (fun hHeld => ?_)
    clear hK K
    try simp only [Act.put, List.setIfInBounds_toArray, List.set_cons_zero, List.set_cons_succ]
    refine wpAnyH_ready (rs := [4]) (by kernel_rfl) (by simp) ?_
    refine AllReadyH.cons (o := ?o1_69) ?hi_69 (fun K hK => ?rest_69) AllReadyH.nil
    case hi_69 => ((simp only [List.getElem?_toArray, List.getElem?_cons_succ, List.getElem?_cons_zero]); rfl)
    go_simp
    (go_at_call 12; (with_reducible refine (ref_SameInts _ _ _ _ _ _ _ R1.out R2.out).mono ?_); rintro e wq ⟨rfl, hbq⟩; replace hbel := belStep (show Below W3.heap.size W3 _ from (by repeat (first | assumption | exact Below.refl _ _ | refine belDrew ?_ | refine belStep ?_ (by assumption)))) hbq; clear hbq)
    try go_simp
    refine hK.out _ _ (by exact ⟨cc0 _ (by repeat (first | assumption | exact Below.refl _ _ | refine belDrew ?_ | refine belStep ?_ (by assumption))), cc1 _ (by repeat (first | assumption | exact Below.refl _ _ | refine belDrew ?_ | refine belStep ?_ (by assumption))), cc2 _ (by repeat (first | assumption | exact Below.refl _ _ | refine belDrew ?_ | refine belStep ?_ (by assumption))), cc3 _ (by repeat (first | assumption | exact Below.refl _ _ | refine belDrew ?_ | refine belStep ?_ (by assumption))), cc4 _ (by repeat (first | assumption | exact Below.refl _ _ | refine belDrew ?_ | refine belStep ?_ (by assumption))), cc5 _ (by repeat (first | assumption | exact Below.refl _ _ | refine belDrew ?_ | refine belStep ?_ (by assumption))), cc6 _ (by repeat (first | assumption | exact Below.refl _ _ | refine belDrew ?_ | refine belStep ?_ (by assumption))), cc7 _ (by repeat (first | assumption | exact Below.refl _ _ | refine belDrew ?_ | refine belStep ?_ (by assumption))), cc8 _ (by repeat (first | assumption | exact Below.refl _ _ | refine belDrew ?_ | refine belStep ?_ (by assumption))), cc9 _ (by repeat (first | assumption | exact Below.refl _ _ | refine belDrew ?_ | refine belStep ?_ (by assumption))), cc10 _ (by repeat (first | assumption | exact Below.refl _ _ | refine belDrew ?_ | refine belStep ?_ (by assumption))), vv0 _ (by repeat (first | assumption | exact Below.refl _ _ | refine belDrew ?_ | refine belStep ?_ (by assumption))), vv1 _ (by repeat (first | assumption | exact Below.refl _ _ | refine belDrew ?_ | refine belStep ?_ (by assumption))), vv2 _ (by repeat (first | assumption | exact Below.refl _ _ | refine belDrew ?_ | refine belStep ?_ (by assumption)))⟩) (fun hHeld => ?_)
    clear hK K
    try simp only [Act.put, List.setIfInBounds_toArray, List.set_cons_zero, List.set_cons_succ]
    refine wpAnyH_take (i := 5) (oi := ?oi_70) (v := ?v_70) ?hi_70 (by kernel_rfl) ?hf_70 ?hr_70 ?hQ_70 (Or.inl ⟨?hw_70, ?hy_70⟩) (by assumption) ?rest_70
    case hi_70 => ((simp only [List.getElem?_toArray, List.getElem?_cons_succ, List.getElem?_cons_zero]); rfl)
    case hf_70 => kernel_rfl
    case hr_70 => kernel_rfl
    case hQ_70 => exact fun _ _ _ h => h
    case hw_70 => rfl
    case hy_70 => ((intro w hSw; (try dsimp only at hSw); go_simp); all_goals (with_reducible rfl))
    try simp only [Act.put, List.setIfInBounds_toArray, List.set_cons_zero, List.set_cons_succ]
    exact relist (by kernel_rfl) (hG.out _ _ hHeld ⟨_, _, _, _, _, _, _, _, _, _, _, _, _, _, _, _, _, _, _, _, _, _, _, _, _, _, _, _, _, _, _, _, _, _, _, _, _, _, _, _, _, _, _, _, _, _, _, _, _, _, _, _, _, _, _, _, _, _, _, _, _, _, _, _, _, _, _, _, rfl, (by repeat (first | assumption | exact Below.refl _ _ | refine belDrew ?_ | refine belStep ?_ (by assumption)))⟩)
  case rest_65 =>
    rintro a u hHeld ⟨x0, x2, x5, x7, x8, x10, x11, x12, x13, x14, x15, x16, x17, x18, x19, x20, x21, x22, x23, x24, x25, x26, x27, x28, x29, x31, x32, x33, x34, x35, x36, x37, x38, x39, x40, x41, x42, x43, x44, x45, x46, x47, x48, x49, x50, x51, x52, x53, x54, x55, x56, x57, x58, x59, x60, x61, x62, x63, x64, x65, x66, x67, x68, x69, x70, x71, x72, x73, rfl, hbel⟩
    refine phase 35 #[true, true, true, true, true, true, true, true, true, true, true, true, true, true, true, false, false, false, false, false, false, false, false, false, false, false, false, false, false, false, false, false, false, false, false, false, false, false, false, false, false, false, false, false, false, false, false, false, false, false] (fun a u => ∃ x0 x2 x5 x7 x8 x10 x11 x12 x13 x14 x15 x16 x17 x18 x19 x20 x21 x22 x23 x24 x25 x26 x27 x28 x29 x30 x31 x32 x33 x34 x35 x36 x37 x38 x40 x41 x42 x43 x44 x45 x46 x47 x48 x49 x50 x51 x52 x53 x54 x55 x56 x57 x58 x59 x60 x61 x62 x63 x64 x65 x66 x67 x68 x69 x70 x71 x72 x73 : Value, a = { tmps := #[x0, .slice sa c.tl sc, x2, .int .i64 r, .pointer (some ⟨w.heap.size, 0, none⟩), x5, .pointer (some ⟨w.heap.size + 1, 0, none⟩), x7, x8, .slice (some ⟨g4, 0, none⟩) c.tl c.tl, x10, x11, x12, x13, x14, x15, x16, x17, x18, x19, x20, x21, x22, x23, x24, x25, x26, x27, x28, x29, x30, x31, x32, x33, x34, x35, x36, x37, x38, .bool true, x40, x41, x42, x43, x44, x45, x46, x47, x48, x49, x50, x51, x52, x53, x54, x55, x56, x57, x58, x59, x60, x61, x62, x63, x64, x65, x66, x67, x68, x69, x70, x71, x72, x73], defers := [] } ∧ Below W3.heap.size W3 u) ?rest_51 (fun hG => ?first_51)
    case first_51 =>
      refine wpAnyH_take (i := 6) (oi := ?oi_52) (v := ?v_52) ?hi_52 (by kernel_rfl) ?hf_52 ?hr_52 ?hQ_52 (Or.inl ⟨?hw_52, ?hy_52⟩) (by assumption) ?rest_52
      case hi_52 => ((simp only [List.getElem?_toArray, List.getElem?_cons_succ, List.getElem?_cons_zero]); rfl)
      case hf_52 => kernel_rfl
      case hr_52 => kernel_rfl
      case hQ_52 => exact fun _ _ _ h => h
      case hw_52 => rfl
      case hy_52 => ((intro w hSw; (try dsimp only at hSw); go_simp); all_goals (with_reducible rfl))
      try simp only [Act.put, List.setIfInBounds_toArray, List.set_cons_zero, List.set_cons_succ]
      refine wpAnyH_take (i := 7) (oi := ?oi_53) (v := ?v_53) ?hi_53 (by kernel_rfl) ?hf_53 ?hr_53 ?hQ_53 (Or.inl ⟨?hw_53, ?hy_53⟩) (by assumption) ?rest_53
      case hi_53 => ((simp only [List.getElem?_toArray, List.getElem?_cons_succ, List.getElem?_cons_zero]); rfl)
      case hf_53 => kernel_rfl
      case hr_53 => kernel_rfl
      case hQ_53 => exact fun _ _ _ h => h
      case hw_53 => rfl
      case hy_53 => ((intro w hSw; (try dsimp only at hSw); go_simp); all_goals (with_reducible rfl))
      try simp only [Act.put, List.setIfInBounds_toArray, List.set_cons_zero, List.set_cons_succ]
      refine wpAnyH_take (i := 9) (oi := ?oi_54) (v := ?v_54) ?hi_54 (by kernel_rfl) ?hf_54 ?hr_54 ?hQ_54 (Or.inl ⟨?hw_54, ?hy_54⟩) (by assumption) ?rest_54
      case hi_54 => ((simp only [List.getElem?_toArray, List.getElem?_cons_succ, List.getElem?_cons_zero]); rfl)
      case hf_54 => kernel_rfl
      case hr_54 => kernel_rfl
      case hQ_54 => exact fun _ _ _ h => h
      case hw_54 => rfl
      case hy_54 => ((intro w hSw; (try dsimp only at hSw); go_simp); all_goals (with_reducible rfl))
      try simp only [Act.put, List.setIfInBounds_toArray, List.set_cons_zero, List.set_cons_succ]
      refine wpAnyH_take (i := 10) (oi := ?oi_55) (v := ?v_55) ?hi_55 (by kernel_rfl) ?hf_55 ?hr_55 ?hQ_55 (Or.inl ⟨?hw_55, ?hy_55⟩) (by assumption) ?rest_55
      case hi_55 => ((simp only [List.getElem?_toArray, List.getElem?_cons_succ, List.getElem?_cons_zero]); rfl)
      case hf_55 => kernel_rfl
      case hr_55 => kernel_rfl
      case hQ_55 => exact fun _ _ _ h => h
      case hw_55 => rfl
      case hy_55 => ((intro w hSw; (try dsimp only at hSw); go_simp); all_goals (with_reducible rfl))
      try simp only [Act.put, List.setIfInBounds_toArray, List.set_cons_zero, List.set_cons_succ]
      refine wpAnyH_ready (rs := [8]) (by kernel_rfl) (by simp) ?_
      refine AllReadyH.cons (o := ?o1_64) ?hi_64 (fun K hK => ?rest_64) AllReadyH.nil
      case hi_64 => ((simp only [List.getElem?_toArray, List.getElem?_cons_succ, List.getElem?_cons_zero]); rfl)
      go_simp
      (go_at_call 16; (with_reducible refine (CM.out _ (by repeat (first | assumption | exact Below.refl _ _ | refine belDrew ?_ | refine belStep ?_ (by assumption)))).mono ?_); rintro e wq ⟨gq, rfl, hoq, hgq, hbq⟩; have R1 := Lib.hid (rows_ownG hoq); replace hbel := belStep (show Below W3.heap.size W3 _ from (by repeat (first | assumption | exact Below.refl _ _ | refine belDrew ?_ | refine belStep ?_ (by assumption)))) hbq; clear hoq hgq hbq)
      try go_simp
      refine hK.out _ _ (by exact ⟨cc0 _ (by repeat (first | assumption | exact Below.refl _ _ | refine belDrew ?_ | refine belStep ?_ (by assumption))), cc1 _ (by repeat (first | assumption | exact Below.refl _ _ | refine belDrew ?_ | refine belStep ?_ (by assumption))), cc2 _ (by repeat (first | assumption | exact Below.refl _ _ | refine belDrew ?_ | refine belStep ?_ (by assumption))), cc3 _ (by repeat (first | assumption | exact Below.refl _ _ | refine belDrew ?_ | refine belStep ?_ (by assumption))), cc4 _ (by repeat (first | assumption | exact Below.refl _ _ | refine belDrew ?_ | refine belStep ?_ (by assumption))), cc5 _ (by repeat (first | assumption | exact Below.refl _ _ | refine belDrew ?_ | refine belStep ?_ (by assumption))), cc6 _ (by repeat (first | assumption | exact Below.refl _ _ | refine belDrew ?_ | refine belStep ?_ (by assumption))), cc7 _ (by repeat (first | assumption | exact Below.refl _ _ | refine belDrew ?_ | refine belStep ?_ (by assumption))), cc8 _ (by repeat (first | assumption | exact Below.refl _ _ | refine belDrew ?_ | refine belStep ?_ (by assumption))), cc9 _ (by repeat (first | assumption | exact Below.refl _ _ | refine belDrew ?_ | refine belStep ?_ (by assumption))), cc10 _ (by repeat (first | assumption | exact Below.refl _ _ | refine belDrew ?_ | refine belStep ?_ (by assumption))), vv0 _ (by repeat (first | assumption | exact Below.refl _ _ | refine belDrew ?_ | refine belStep ?_ (by assumption))), vv1 _ (by repeat (first | assumption | exact Below.refl _ _ | refine belDrew ?_ | refine belStep ?_ (by assumption))), vv2 _ (by repeat (first | assumption | exact Below.refl _ _ | refine belDrew ?_ | refine belStep ?_ (by assumption)))⟩) (fun hHeld => ?_)
      clear hK K
      try simp only [Act.put, List.setIfInBounds_toArray, List.set_cons_zero, List.set_cons_succ]
      refine wpAnyH_ready (rs := [11]) (by kernel_rfl) (by simp) ?_
      refine AllReadyH.cons (o := ?o1_56) ?hi_56 (fun K hK => ?rest_56) AllReadyH.nil
      case hi_56 => ((simp only [List.getElem?_toArray, List.getElem?_cons_succ, List.getElem?_cons_zero]); rfl)
      go_simp
      (go_at_call 17; (with_reducible refine (CM2.out _ (by repeat (first | assumption | exact Below.refl _ _ | refine belDrew ?_ | refine belStep ?_ (by assumption)))).mono ?_); rintro e wq ⟨vq, rfl, hoq, hbq⟩; obtain ⟨aq, cq, eq, hrq⟩ := hoq.row; rw [HLM.out] at eq hrq; subst eq; have R2 := Lib.hid hrq; replace R1 := Lib.hid (R1.out.later hbq); replace hbel := belStep (show Below W3.heap.size W3 _ from (by repeat (first | assumption | exact Below.refl _ _ | refine belDrew ?_ | refine belStep ?_ (by assumption)))) hbq; clear hoq hrq hbq)
      try go_simp
      refine hK.out _ _ (by exact ⟨cc0 _ (by repeat (first | assumption | exact Below.refl _ _ | refine belDrew ?_ | refine belStep ?_ (by assumption))), cc1 _ (by repeat (first | assumption | exact Below.refl _ _ | refine belDrew ?_ | refine belStep ?_ (by assumption))), cc2 _ (by repeat (first | assumption | exact Below.refl _ _ | refine belDrew ?_ | refine belStep ?_ (by assumption))), cc3 _ (by repeat (first | assumption | exact Below.refl _ _ | refine belDrew ?_ | refine belStep ?_ (by assumption))), cc4 _ (by repeat (first | assumption | exact Below.refl _ _ | refine belDrew ?_ | refine belStep ?_ (by assumption))), cc5 _ (by repeat (first | assumption | exact Below.refl _ _ | refine belDrew ?_ | refine belStep ?_ (by assumption))), cc6 _ (by repeat (first | assumption | exact Below.refl _ _ | refine belDrew ?_ | refine belStep ?_ (by assumption))), cc7 _ (by repeat (first | assumption | exact Below.refl _ _ | refine belDrew ?_ | refine belStep ?_ (by assumption))), cc8 _ (by repeat (first | assumption | exact Below.refl _ _ | refine belDrew ?_ | refine belStep ?_ (by assumption))), cc9 _ (by repeat (first | assumption | exact Below.refl _ _ | refine belDrew ?_ | refine belStep ?_ (by assumption))), cc10 _ (by repeat (first | assumption | exact Below.refl _ _ | refine belDrew ?_ | refine belStep ?_ (by assumption))), vv0 _ (by repeat (first | assumption | exact Below.refl _ _ | refine belDrew ?_ | refine belStep ?_ (by assumption))), vv1 _ (by repeat (first | assumption | exact Below.refl _ _ | refine belDrew ?_ | refine belStep ?_ (by assumption))), vv2 _ (by repeat (first | assumption | exact Below.refl _ _ | refine belDrew ?_ | refine belStep ?_ (by assumption)))⟩) (fun hHeld => ?_)
      clear hK K
      try simp only [Act.put, List.setIfInBounds_toArray, List.set_cons_zero, List.set_cons_succ]
      refine wpAnyH_ready (rs := [12]) (by kernel_rfl) (by simp) ?_
      refine AllReadyH.cons (o := ?o1_57) ?hi_57 (fun K hK => ?rest_57) AllReadyH.nil
      case hi_57 => ((simp only [List.getElem?_toArray, List.getElem?_cons_succ, List.getElem?_cons_zero]); rfl)
      go_simp
      (go_at_call 15; (with_reducible refine (ref_SameBools _ _ _ _ _ _ _ R1.out R2.out).mono ?_); rintro e wq ⟨rfl, hbq⟩; replace hbel := belStep (show Below W3.heap.size W3 _ from (by repeat (first | assumption | exact Below.refl _ _ | refine belDrew ?_ | refine belStep ?_ (by assumption)))) hbq; clear hbq)
      try go_simp
      refine hK.out _ _ (by exact ⟨cc0 _ (by repeat (first | assumption | exact Below.refl _ _ | refine belDrew ?_ | refine belStep ?_ (by assumption))), cc1 _ (by repeat (first | assumption | exact Below.refl _ _ | refine belDrew ?_ | refine belStep ?_ (by assumption))), cc2 _ (by repeat (first | assumption | exact Below.refl _ _ | refine belDrew ?_ | refine belStep ?_ (by assumption))), cc3 _ (by repeat (first | assumption | exact Below.refl _ _ | refine belDrew ?_ | refine belStep ?_ (by assumption))), cc4 _ (by repeat (first | assumption | exact Below.refl _ _ | refine belDrew ?_ | refine belStep ?_ (by assumption))), cc5 _ (by repeat (first | assumption | exact Below.refl _ _ | refine belDrew ?_ | refine belStep ?_ (by assumption))), cc6 _ (by repeat (first | assumption | exact Below.refl _ _ | refine belDrew ?_ | refine belStep ?_ (by assumption))), cc7 _ (by repeat (first | assumption | exact Below.refl _ _ | refine belDrew ?_ | refine belStep ?_ (by assumption))), cc8 _ (by repeat (first | assumption | exact Below.refl _ _ | refine belDrew ?_ | refine belStep ?_ (by assumption))), cc9 _ (by repeat (first | assumption | exact Below.refl _ _ | refine belDrew ?_ | refine belStep ?_ (by assumption))), cc10 _ (by repeat (first | assumption | exact Below.refl _ _ | refine belDrew ?_ | refine belStep ?_ (by assumption))), vv0 _ (by repeat (first | assumption | exact Below.refl _ _ | refine belDrew ?_ | refine belStep ?_ (by assumption))), vv1 _ (by repeat (first | assumption | exact Below.refl _ _ | refine belDrew ?_ | refine belStep ?_ (by assumption))), vv2 _ (by repeat (first | assumption | exact Below.refl _ _ | refine belDrew ?_ | refine belStep ?_ (by assumption)))⟩) (fun hHeld => ?_)
      clear hK K
      try simp only [Act.put, List.setIfInBounds_toArray, List.set_cons_zero, List.set_cons_succ]
      refine wpAnyH_take (i := 13) (oi := ?oi_58) (v := ?v_58) ?hi_58 (by kernel_rfl) ?hf_58 ?hr_58 ?hQ_58 (Or.inl ⟨?hw_58, ?hy_58⟩) (by assumption) ?rest_58
      case hi_58 => ((simp only [List.getElem?_toArray, List.getElem?_cons_succ, List.getElem?_cons_zero]); rfl)
      case hf_58 => kernel_rfl
      case hr_58 => kernel_rfl
      case hQ_58 => exact fun _ _ _ h => h
      case hw_58 => rfl
      case hy_58 => ((intro w hSw; (try dsimp only at hSw); go_simp); all_goals (with_reducible rfl))
      try simp only [Act.put, List.setIfInBounds_toArray, List.set_cons_zero, List.set_cons_succ]
      refine wpAnyH_take (i := 14) (oi := ?oi_59) (v := ?v_59) ?hi_59 (by kernel_rfl) ?hf_59 ?hr_59 ?hQ_59 (Or.inl ⟨?hw_59, ?hy_59⟩) (by assumption) ?rest_59
      case hi_59 => ((simp only [List.getElem?_toArray, List.getElem?_cons_succ, List.getElem?_cons_zero]); rfl)
      case hf_59 => kernel_rfl
      case hr_59 => kernel_rfl
      case hQ_59 => exact fun _ _ _ h => h
      case hw_59 => rfl
      case hy_59 => ((intro w hSw; (try dsimp only at hSw); go_simp); all_goals (with_reducible rfl))
      try simp only [Act.put, List.setIfInBounds_toArray, List.set_cons_zero, List.set_cons_succ]
      exact relist (by kernel_rfl) (hG.out _ _ hHeld ⟨_, _, _, _, _, _, _, _, _, _, _, _, _, _, _, _, _, _, _, _, _, _, _, _, _, _, _, _, _, _, _, _, _, _, _, _, _, _, _, _, _, _, _, _, _, _, _, _, _, _, _, _, _, _, _, _, _, _, _, _, _, _, _, _, _, _, _, _, rfl, (by repeat (first | assumption | exact Below.refl _ _ | refine belDrew ?_ | refine belStep ?_ (by assumption)))⟩)
    case rest_51 =>
      rintro a u hHeld ⟨x0, x2, x5, x7, x8, x10, x11, x12, x13, x14, x15, x16, x17, x18, x19, x20, x21, x22, x23, x24, x25, x26, x27, x28, x29, x30, x31, x32, x33, x34, x35, x36, x37, x38, x40, x41, x42, x43, x44, x45, x46, x47, x48, x49, x50, x51, x52, x53, x54, x55, x56, x57, x58, x59, x60, x61, x62, x63, x64, x65, x66, x67, x68, x69, x70, x71, x72, x73, rfl, hbel⟩
      refine phase 26 #[true, true, true, true, true, true, true, true, true, true, true, true, true, true, true, true, true, true, true, true, true, true, true, true, false, false, false, false, false, false, false, false, false, false, false, false, false, false, false, false, false, false, false, false, false, false, false, false, false, false] (fun a u => ∃ x0 x2 x5 x7 x8 x10 x11 x12 x13 x14 x15 x16 x17 x18 x19 x20 x21 x22 x23 x24 x25 x26 x27 x28 x29 x30 x31 x32 x33 x34 x35 x36 x37 x38 x39 x40 x41 x42 x43 x44 x45 x46 x47 x49 x50 x51 x52 x53 x54 x55 x56 x57 x58 x59 x60 x61 x62 x63 x64 x65 x66 x67 x68 x69 x70 x71 x72 x73 : Value, a = { tmps := #[x0, .slice sa c.tl sc, x2, .int .i64 r, .pointer (some ⟨w.heap.size, 0, none⟩), x5, .pointer (some ⟨w.heap.size + 1, 0, none⟩), x7, x8, .slice (some ⟨g4, 0, none⟩) c.tl c.tl, x10, x11, x12, x13, x14, x15, x16, x17, x18, x19, x20, x21, x22, x23, x24, x25, x26, x27, x28, x29, x30, x31, x32, x33, x34, x35, x36, x37, x38, x39, x40, x41, x42, x43, x44, x45, x46, x47, .bool true, x49, x50, x51, x52, x53, x54, x55, x56, x57, x58, x59, x60, x61, x62, x63, x64, x65, x66, x67, x68, x69, x70, x71, x72, x73], defers := [] } ∧ Below W3.heap.size W3 u) ?rest_41 (fun hG => ?first_41)
      case first_41 =>
        refine wpAnyH_take (i := 15) (oi := ?oi_42) (v := ?v_42) ?hi_42 (by kernel_rfl) ?hf_42 ?hr_42 ?hQ_42 (Or.inl ⟨?hw_42, ?hy_42⟩) (by assumption) ?rest_42
        case hi_42 => ((simp only [List.getElem?_toArray, List.getElem?_cons_succ, List.getElem?_cons_zero]); rfl)
        case hf_42 => kernel_rfl
        case hr_42 => kernel_rfl
        case hQ_42 => exact fun _ _ _ h => h
        case hw_42 => rfl
        case hy_42 => ((intro w hSw; (try dsimp only at hSw); go_simp); all_goals (with_reducible rfl))
        try simp only [Act.put, List.setIfInBounds_toArray, List.set_cons_zero, List.set_cons_succ]
        refine wpAnyH_take (i := 16) (oi := ?oi_43) (v := ?v_43) ?hi_43 (by kernel_rfl) ?hf_43 ?hr_43 ?hQ_43 (Or.inl ⟨?hw_43, ?hy_43⟩) (by assumption) ?rest_43
        case hi_43 => ((simp only [List.getElem?_toArray, List.getElem?_cons_succ, List.getElem?_cons_zero]); rfl)
        case hf_43 => kernel_rfl
        case hr_43 => kernel_rfl
        case hQ_43 => exact fun _ _ _ h => h
        case hw_43 => rfl
        case hy_43 => ((intro w hSw; (try dsimp only at hSw); go_simp); all_goals (with_reducible rfl))
        try simp only [Act.put, List.setIfInBounds_toArray, List.set_cons_zero, List.set_cons_succ]
        refine wpAnyH_take (i := 17) (oi := ?oi_44) (v := ?v_44) ?hi_44 (by kernel_rfl) ?hf_44 ?hr_44 ?hQ_44 (Or.inl ⟨?hw_44, ?hy_44⟩) (by assumption) ?rest_44
        case hi_44 => ((simp only [List.getElem?_toArray, List.getElem?_cons_succ, List.getElem?_cons_zero]); rfl)
        case hf_44 => kernel_rfl
        case hr_44 => kernel_rfl
        case hQ_44 => exact fun _ _ _ h => h
        case hw_44 => rfl
        case hy_44 => ((intro w hSw; (try dsimp only at hSw); go_simp); all_goals (with_reducible rfl))
        try simp only [Act.put, List.setIfInBounds_toArray, List.set_cons_zero, List.set_cons_succ]
        refine wpAnyH_take (i := 18) (oi := ?oi_45) (v := ?v_45) ?hi_45 (by kernel_rfl) ?hf_45 ?hr_45 ?hQ_45 (Or.inl ⟨?hw_45, ?hy_45⟩) (by assumption) ?rest_45
        case hi_45 => ((simp only [List.getElem?_toArray, List.getElem?_cons_succ, List.getElem?_cons_zero]); rfl)
        case hf_45 => kernel_rfl
        case hr_45 => kernel_rfl
        case hQ_45 => exact fun _ _ _ h => h
        case hw_45 => rfl
        case hy_45 => ((intro w hSw; (try dsimp only at hSw); go_simp); all_goals (with_reducible rfl))
        try simp only [Act.put, List.setIfInBounds_toArray, List.set_cons_zero, List.set_cons_succ]
        refine wpAnyH_take (i := 19) (oi := ?oi_46) (v := ?v_46) ?hi_46 (by kernel_rfl) ?hf_46 ?hr_46 ?hQ_46 (Or.inl ⟨?hw_46, ?hy_46⟩) (by assumption) ?rest_46
        case hi_46 => ((simp only [List.getElem?_toArray, List.getElem?_cons_succ, List.getElem?_cons_zero]); rfl)
        case hf_46 => kernel_rfl
        case hr_46 => kernel_rfl
        case hQ_46 => exact fun _ _ _ h => h
        case hw_46 => rfl
        case hy_46 => ((intro w hSw; (try dsimp only at hSw); go_simp); all_goals (with_reducible rfl))
        try simp only [Act.put, List.setIfInBounds_toArray, List.set_cons_zero, List.set_cons_succ]
        refine wpAnyH_ready (rs := [20]) (by kernel_rfl) (by simp) ?_
        refine AllReadyH.cons (o := ?o1_47) ?hi_47 (fun K hK => ?rest_47) AllReadyH.nil
        case hi_47 => ((simp only [List.getElem?_toArray, List.getElem?_cons_succ, List.getElem?_cons_zero]); rfl)
        go_simp
        (go_at_call 18; (with_reducible refine (CS2.out _ (by repeat (first | assumption | exact Below.refl _ _ | refine belDrew ?_ | refine belStep ?_ (by assumption)))).mono ?_); rintro e wq ⟨vq, rfl, hoq, hbq⟩; obtain ⟨aq, cq, eq, hrq⟩ := hoq.row; rw [HLS.out] at eq hrq; subst eq; have R2 := Lib.hid hrq; replace hbel := belStep (show Below W3.heap.size W3 _ from (by repeat (first | assumption | exact Below.refl _ _ | refine belDrew ?_ | refine belStep ?_ (by assumption)))) hbq; clear hoq hrq hbq)
        try go_simp
        refine hK.out _ _ (by exact ⟨cc0 _ (by repeat (first | assumption | exact Below.refl _ _ | refine belDrew ?_ | refine belStep ?_ (by assumption))), cc1 _ (by repeat (first | assumption | exact Below.refl _ _ | refine belDrew ?_ | refine belStep ?_ (by assumption))), cc2 _ (by repeat (first | assumption | exact Below.refl _ _ | refine belDrew ?_ | refine belStep ?_ (by assumption))), cc3 _ (by repeat (first | assumption | exact Below.refl _ _ | refine belDrew ?_ | refine belStep ?_ (by assumption))), cc4 _ (by repeat (first | assumption | exact Below.refl _ _ | refine belDrew ?_ | refine belStep ?_ (by assumption))), cc5 _ (by repeat (first | assumption | exact Below.refl _ _ | refine belDrew ?_ | refine belStep ?_ (by assumption))), cc6 _ (by repeat (first | assumption | exact Below.refl _ _ | refine belDrew ?_ | refine belStep ?_ (by assumption))), cc7 _ (by repeat (first | assumption | exact Below.refl _ _ | refine belDrew ?_ | refine belStep ?_ (by assumption))), cc8 _ (by repeat (first | assumption | exact Below.refl _ _ | refine belDrew ?_ | refine belStep ?_ (by assumption))), cc9 _ (by repeat (first | assumption | exact Below.refl _ _ | refine belDrew ?_ | refine belStep ?_ (by assumption))), cc10 _ (by repeat (first | assumption | exact Below.refl _ _ | refine belDrew ?_ | refine belStep ?_ (by assumption))), vv0 _ (by repeat (first | assumption | exact Below.refl _ _ | refine belDrew ?_ | refine belStep ?_ (by assumption))), vv1 _ (by repeat (first | assumption | exact Below.refl _ _ | refine belDrew ?_ | refine belStep ?_ (by assumption))), vv2 _ (by repeat (first | assumption | exact Below.refl _ _ | refine belDrew ?_ | refine belStep ?_ (by assumption)))⟩) (fun hHeld => ?_)
        clear hK K
        try simp only [Act.put, List.setIfInBounds_toArray, List.set_cons_zero, List.set_cons_succ]
        have R1 := Lib.hid (HI4.out.later hbel).1
        refine wpAnyH_ready (rs := [21]) (by kernel_rfl) (by simp) ?_
        refine AllReadyH.cons (o := ?o1_48) ?hi_48 (fun K hK => ?rest_48) AllReadyH.nil
        case hi_48 => ((simp only [List.getElem?_toArray, List.getElem?_cons_succ, List.getElem?_cons_zero]); rfl)
        go_simp
        (go_at_call 12; (with_reducible refine (ref_SameInts _ _ _ _ _ _ _ R1.out R2.out).mono ?_); rintro e wq ⟨rfl, hbq⟩; replace hbel := belStep (show Below W3.heap.size W3 _ from (by repeat (first | assumption | exact Below.refl _ _ | refine belDrew ?_ | refine belStep ?_ (by assumption)))) hbq; clear hbq)
        try go_simp
        refine hK.out _ _ (by exact ⟨cc0 _ (by repeat (first | assumption | exact Below.refl _ _ | refine belDrew ?_ | refine belStep ?_ (by assumption))), cc1 _ (by repeat (first | assumption | exact Below.refl _ _ | refine belDrew ?_ | refine belStep ?_ (by assumption))), cc2 _ (by repeat (first | assumption | exact Below.refl _ _ | refine belDrew ?_ | refine belStep ?_ (by assumption))), cc3 _ (by repeat (first | assumption | exact Below.refl _ _ | refine belDrew ?_ | refine belStep ?_ (by assumption))), cc4 _ (by repeat (first | assumption | exact Below.refl _ _ | refine belDrew ?_ | refine belStep ?_ (by assumption))), cc5 _ (by repeat (first | assumption | exact Below.refl _ _ | refine belDrew ?_ | refine belStep ?_ (by assumption))), cc6 _ (by repeat (first | assumption | exact Below.refl _ _ | refine belDrew ?_ | refine belStep ?_ (by assumption))), cc7 _ (by repeat (first | assumption | exact Below.refl _ _ | refine belDrew ?_ | refine belStep ?_ (by assumption))), cc8 _ (by repeat (first | assumption | exact Below.refl _ _ | refine belDrew ?_ | refine belStep ?_ (by assumption))), cc9 _ (by repeat (first | assumption | exact Below.refl _ _ | refine belDrew ?_ | refine belStep ?_ (by assumption))), cc10 _ (by repeat (first | assumption | exact Below.refl _ _ | refine belDrew ?_ | refine belStep ?_ (by assumption))), vv0 _ (by repeat (first | assumption | exact Below.refl _ _ | refine belDrew ?_ | refine belStep ?_ (by assumption))), vv1 _ (by repeat (first | assumption | exact Below.refl _ _ | refine belDrew ?_ | refine belStep ?_ (by assumption))), vv2 _ (by repeat (first | assumption | exact Below.refl _ _ | refine belDrew ?_ | refine belStep ?_ (by assumption)))⟩) (fun hHeld => ?_)
        clear hK K
        try simp only [Act.put, List.setIfInBounds_toArray, List.set_cons_zero, List.set_cons_succ]
        refine wpAnyH_take (i := 22) (oi := ?oi_49) (v := ?v_49) ?hi_49 (by kernel_rfl) ?hf_49 ?hr_49 ?hQ_49 (Or.inl ⟨?hw_49, ?hy_49⟩) (by assumption) ?rest_49
        case hi_49 => ((simp only [List.getElem?_toArray, List.getElem?_cons_succ, List.getElem?_cons_zero]); rfl)
        case hf_49 => kernel_rfl
        case hr_49 => kernel_rfl
        case hQ_49 => exact fun _ _ _ h => h
        case hw_49 => rfl
        case hy_49 => ((intro w hSw; (try dsimp only at hSw); go_simp); all_goals (with_reducible rfl))
        try simp only [Act.put, List.setIfInBounds_toArray, List.set_cons_zero, List.set_cons_succ]
        refine wpAnyH_take (i := 23) (oi := ?oi_50) (v := ?v_50) ?hi_50 (by kernel_rfl) ?hf_50 ?hr_50 ?hQ_50 (Or.inl ⟨?hw_50, ?hy_50⟩) (by assumption) ?rest_50
        case hi_50 => ((simp only [List.getElem?_toArray, List.getElem?_cons_succ, List.getElem?_cons_zero]); rfl)
        case hf_50 => kernel_rfl
        case hr_50 => kernel_rfl
        case hQ_50 => exact fun _ _ _ h => h
        case hw_50 => rfl
        case hy_50 => ((intro w hSw; (try dsimp only at hSw); go_simp); all_goals (with_reducible rfl))
        try simp only [Act.put, List.setIfInBounds_toArray, List.set_cons_zero, List.set_cons_succ]
        exact relist (by kernel_rfl) (hG.out _ _ hHeld ⟨_, _, _, _, _, _, _, _, _, _, _, _, _, _, _, _, _, _, _, _, _, _, _, _, _, _, _, _, _, _, _, _, _, _, _, _, _, _, _, _, _, _, _, _, _, _, _, _, _, _, _, _, _, _, _, _, _, _, _, _, _, _, _, _, _, _, _, _, rfl, (by repeat (first | assumption | exact Below.refl _ _ | refine belDrew ?_ | refine belStep ?_ (by assumption)))⟩)
      case rest_41 =>
        rintro a u hHeld ⟨x0, x2, x5, x7, x8, x10, x11, x12, x13, x14, x15, x16, x17, x18, x19, x20, x21, x22, x23, x24, x25, x26, x27, x28, x29, x30, x31, x32, x33, x34, x35, x36, x37, x38, x39, x40, x41, x42, x43, x44, x45, x46, x47, x49, x50, x51, x52, x53, x54, x55, x56, x57, x58, x59, x60, x61, x62, x63, x64, x65, x66, x67, x68, x69, x70, x71, x72, x73, rfl, hbel⟩
        refine phase 15 #[true, true, true, true, true, true, true, true, true, true, true, true, true, true, true, true, true, true, true, true, true, true, true, true, true, true, true, true, true, true, true, true, true, true, true, false, false, false, false, false, false, false, false, false, false, false, false, false, false, false] (fun a u => ∃ x0 x2 x5 x7 x8 x10 x11 x12 x13 x14 x15 x16 x17 x18 x19 x20 x21 x22 x23 x24 x25 x26 x27 x28 x29 x30 x31 x32 x33 x34 x35 x36 x37 x38 x39 x40 x41 x42 x43 x44 x45 x46 x47 x48 x49 x50 x51 x52 x53 x54 x55 x56 x57 x58 x60 x61 x62 x63 x64 x65 x66 x67 x68 x69 x70 x71 x72 x73 : Value, a = { tmps := #[x0, .slice sa c.tl sc, x2, .int .i64 r, .pointer (some ⟨w.heap.size, 0, none⟩), x5, .pointer (some ⟨w.heap.size + 1, 0, none⟩), x7, x8, .slice (some ⟨g4, 0, none⟩) c.tl c.tl, x10, x11, x12, x13, x14, x15, x16, x17, x18, x19, x20, x21, x22, x23, x24, x25, x26, x27, x28, x29, x30, x31, x32, x33, x34, x35, x36, x37, x38, x39, x40, x41, x42, x43, x44, x45, x46, x47, x48, x49, x50, x51, x52, x53, x54, x55, x56, x57, x58, .bool true, x60, x61, x62, x63, x64, x65, x66, x67, x68, x69, x70, x71, x72, x73], defers := [] } ∧ Below W3.heap.size W3 u) ?rest_25 (fun hG => ?first_25)
        case first_25 =>
          refine wpAnyH_take (i := 24) (oi := ?oi_26) (v := ?v_26) ?hi_26 (by kernel_rfl) ?hf_26 ?hr_26 ?hQ_26 (Or.inl ⟨?hw_26, ?hy_26⟩) (by assumption) ?rest_26
          case hi_26 => ((simp only [List.getElem?_toArray, List.getElem?_cons_succ, List.getElem?_cons_zero]); rfl)
          case hf_26 => kernel_rfl
          case hr_26 => kernel_rfl
          case hQ_26 => exact fun _ _ _ h => h
          case hw_26 => rfl
          case hy_26 => ((intro w hSw; (try dsimp only at hSw); go_simp); all_goals (with_reducible rfl))
          try simp only [Act.put, List.setIfInBounds_toArray, List.set_cons_zero, List.set_cons_succ]
          refine wpAnyH_take (i := 25) (oi := ?oi_27) (v := ?v_27) ?hi_27 (by kernel_rfl) ?hf_27 ?hr_27 ?hQ_27 (Or.inl ⟨?hw_27, ?hy_27⟩) (by assumption) ?rest_27
          case hi_27 => ((simp only [List.getElem?_toArray, List.getElem?_cons_succ, List.getElem?_cons_zero]); rfl)
          case hf_27 => kernel_rfl
          case hr_27 => kernel_rfl
          case hQ_27 => exact fun _ _ _ h => h
          case hw_27 => rfl
          case hy_27 => ((intro w hSw; (try dsimp only at hSw); go_simp); all_goals (with_reducible rfl))
          try simp only [Act.put, List.setIfInBounds_toArray, List.set_cons_zero, List.set_cons_succ]
          refine wpAnyH_take (i := 26) (oi := ?oi_28) (v := ?v_28) ?hi_28 (by kernel_rfl) ?hf_28 ?hr_28 ?hQ_28 (Or.inl ⟨?hw_28, ?hy_28⟩) (by assumption) ?rest_28
          case hi_28 => ((simp only [List.getElem?_toArray, List.getElem?_cons_succ, List.getElem?_cons_zero]); rfl)
          case hf_28 => kernel_rfl
          case hr_28 => kernel_rfl
          case hQ_28 => exact fun _ _ _ h => h
          case hw_28 => rfl
          case hy_28 => ((intro w hSw; (try dsimp only at hSw); go_simp); all_goals (with_reducible rfl))
          try simp only [Act.put, List.setIfInBounds_toArray, List.set_cons_zero, List.set_cons_succ]
          refine wpAnyH_take (i := 28) (oi := ?oi_29) (v := ?v_29) ?hi_29 (by kernel_rfl) ?hf_29 ?hr_29 ?hQ_29 (Or.inl ⟨?hw_29, ?hy_29⟩) (by assumption) ?rest_29
          case hi_29 => ((simp only [List.getElem?_toArray, List.getElem?_cons_succ, List.getElem?_cons_zero]); rfl)
          case hf_29 => kernel_rfl
          case hr_29 => kernel_rfl
          case hQ_29 => exact fun _ _ _ h => h
          case hw_29 => rfl
          case hy_29 => ((intro w hSw; (try dsimp only at hSw); go_simp); all_goals (with_reducible rfl))
          try simp only [Act.put, List.setIfInBounds_toArray, List.set_cons_zero, List.set_cons_succ]
          refine wpAnyH_take (i := 29) (oi := ?oi_30) (v := ?v_30) ?hi_30 (by kernel_rfl) ?hf_30 ?hr_30 ?hQ_30 (Or.inl ⟨?hw_30, ?hy_30⟩) (by assumption) ?rest_30
          case hi_30 => ((simp only [List.getElem?_toArray, List.getElem?_cons_succ, List.getElem?_cons_zero]); rfl)
          case hf_30 => kernel_rfl
          case hr_30 => kernel_rfl
          case hQ_30 => exact fun _ _ _ h => h
          case hw_30 => rfl
          case hy_30 => ((intro w hSw; (try dsimp only at hSw); go_simp); all_goals (with_reducible rfl))
          try simp only [Act.put, List.setIfInBounds_toArray, List.set_cons_zero, List.set_cons_succ]
          refine wpAnyH_take (i := 30) (oi := ?oi_31) (v := ?v_31) ?hi_31 (by kernel_rfl) ?hf_31 ?hr_31 ?hQ_31 (Or.inl ⟨?hw_31, ?hy_31⟩) (by assumption) ?rest_31
          case hi_31 => ((simp only [List.getElem?_toArray, List.getElem?_cons_succ, List.getElem?_cons_zero]); rfl)
          case hf_31 => kernel_rfl
          case hr_31 => kernel_rfl
          case hQ_31 => exact fun _ _ _ h => h
          case hw_31 => rfl
          case hy_31 => ((intro w hSw; (try dsimp only at hSw); go_simp); all_goals (with_reducible rfl))
          try simp only [Act.put, List.setIfInBounds_toArray, List.set_cons_zero, List.set_cons_succ]
          refine wpAnyH_ready (rs := [27]) (by kernel_rfl) (by simp) ?_
          refine AllReadyH.cons (o := ?o1_40) ?hi_40 (fun K hK => ?rest_40) AllReadyH.nil
          case hi_40 => ((simp only [List.getElem?_toArray, List.getElem?_cons_succ, List.getElem?_cons_zero]); rfl)
          go_simp
          (go_at_call 19; (with_reducible refine (CH.out _ (by repeat (first | assumption | exact Below.refl _ _ | refine belDrew ?_ | refine belStep ?_ (by assumption)))).mono ?_); rintro e wq ⟨gq, rfl, hoq, hgq, hbq⟩; have R1 := Lib.hid (rows_ownG hoq); replace hbel := belStep (show Below W3.heap.size W3 _ from (by repeat (first | assumption | exact Below.refl _ _ | refine belDrew ?_ | refine belStep ?_ (by assumption)))) hbq; clear hoq hgq hbq)
          try go_simp
          refine hK.out _ _ (by exact ⟨cc0 _ (by repeat (first | assumption | exact Below.refl _ _ | refine belDrew ?_ | refine belStep ?_ (by assumption))), cc1 _ (by repeat (first | assumption | exact Below.refl _ _ | refine belDrew ?_ | refine belStep ?_ (by assumption))), cc2 _ (by repeat (first | assumption | exact Below.refl _ _ | refine belDrew ?_ | refine belStep ?_ (by assumption))), cc3 _ (by repeat (first | assumption | exact Below.refl _ _ | refine belDrew ?_ | refine belStep ?_ (by assumption))), cc4 _ (by repeat (first | assumption | exact Below.refl _ _ | refine belDrew ?_ | refine belStep ?_ (by assumption))), cc5 _ (by repeat (first | assumption | exact Below.refl _ _ | refine belDrew ?_ | refine belStep ?_ (by assumption))), cc6 _ (by repeat (first | assumption | exact Below.refl _ _ | refine belDrew ?_ | refine belStep ?_ (by assumption))), cc7 _ (by repeat (first | assumption | exact Below.refl _ _ | refine belDrew ?_ | refine belStep ?_ (by assumption))), cc8 _ (by repeat (first | assumption | exact Below.refl _ _ | refine belDrew ?_ | refine belStep ?_ (by assumption))), cc9 _ (by repeat (first | assumption | exact Below.refl _ _ | refine belDrew ?_ | refine belStep ?_ (by assumption))), cc10 _ (by repeat (first | assumption | exact Below.refl _ _ | refine belDrew ?_ | refine belStep ?_ (by assumption))), vv0 _ (by repeat (first | assumption | exact Below.refl _ _ | refine belDrew ?_ | refine belStep ?_ (by assumption))), vv1 _ (by repeat (first | assumption | exact Below.refl _ _ | refine belDrew ?_ | refine belStep ?_ (by assumption))), vv2 _ (by repeat (first | assumption | exact Below.refl _ _ | refine belDrew ?_ | refine belStep ?_ (by assumption)))⟩) (fun hHeld => ?_)
          clear hK K
          try simp only [Act.put, List.setIfInBounds_toArray, List.set_cons_zero, List.set_cons_succ]
          refine wpAnyH_ready (rs := [31]) (by kernel_rfl) (by simp) ?_
          refine AllReadyH.cons (o := ?o1_32) ?hi_32 (fun K hK => ?rest_32) AllReadyH.nil
          case hi_32 => ((simp only [List.getElem?_toArray, List.getElem?_cons_succ, List.getElem?_cons_zero]); rfl)
          go_simp
          (go_at_call 20; (with_reducible refine (CH2.out _ (by repeat (first | assumption | exact Below.refl _ _ | refine belDrew ?_ | refine belStep ?_ (by assumption)))).mono ?_); rintro e wq ⟨vq, rfl, hoq, hbq⟩; obtain ⟨aq, cq, eq, hrq⟩ := hoq.row; rw [HLH.out] at eq hrq; subst eq; have R2 := Lib.hid hrq; replace R1 := Lib.hid (R1.out.later hbq); replace hbel := belStep (show Below W3.heap.size W3 _ from (by repeat (first | assumption | exact Below.refl _ _ | refine belDrew ?_ | refine belStep ?_ (by assumption)))) hbq; clear hoq hrq hbq)
          try go_simp
          refine hK.out _ _ (by exact ⟨cc0 _ (by repeat (first | assumption | exact Below.refl _ _ | refine belDrew ?_ | refine belStep ?_ (by assumption))), cc1 _ (by repeat (first | assumption | exact Below.refl _ _ | refine belDrew ?_ | refine belStep ?_ (by assumption))), cc2 _ (by repeat (first | assumption | exact Below.refl _ _ | refine belDrew ?_ | refine belStep ?_ (by assumption))), cc3 _ (by repeat (first | assumption | exact Below.refl _ _ | refine belDrew ?_ | refine belStep ?_ (by assumption))), cc4 _ (by repeat (first | assumption | exact Below.refl _ _ | refine belDrew ?_ | refine belStep ?_ (by assumption))), cc5 _ (by repeat (first | assumption | exact Below.refl _ _ | refine belDrew ?_ | refine belStep ?_ (by assumption))), cc6 _ (by repeat (first | assumption | exact Below.refl _ _ | refine belDrew ?_ | refine belStep ?_ (by assumption))), cc7 _ (by repeat (first | assumption | exact Below.refl _ _ | refine belDrew ?_ | refine belStep ?_ (by assumption))), cc8 _ (by repeat (first | assumption | exact Below.refl _ _ | refine belDrew ?_ | refine belStep ?_ (by assumption))), cc9 _ (by repeat (first | assumption | exact Below.refl _ _ | refine belDrew ?_ | refine belStep ?_ (by assumption))), cc10 _ (by repeat (first | assumption | exact Below.refl _ _ | refine belDrew ?_ | refine belStep ?_ (by assumption))), vv0 _ (by repeat (first | assumption | exact Below.refl _ _ | refine belDrew ?_ | refine belStep ?_ (by assumption))), vv1 _ (by repeat (first | assumption | exact Below.refl _ _ | refine belDrew ?_ | refine belStep ?_ (by assumption))), vv2 _ (by repeat (first | assumption | exact Below.refl _ _ | refine belDrew ?_ | refine belStep ?_ (by assumption)))⟩) (fun hHeld => ?_)
          clear hK K
          try simp only [Act.put, List.setIfInBounds_toArray, List.set_cons_zero, List.set_cons_succ]
          refine wpAnyH_ready (rs := [32]) (by kernel_rfl) (by simp) ?_
          refine AllReadyH.cons (o := ?o1_33) ?hi_33 (fun K hK => ?rest_33) AllReadyH.nil
          case hi_33 => ((simp only [List.getElem?_toArray, List.getElem?_cons_succ, List.getElem?_cons_zero]); rfl)
          go_simp
          (go_at_call 15; (with_reducible refine (ref_SameBools _ _ _ _ _ _ _ R1.out R2.out).mono ?_); rintro e wq ⟨rfl, hbq⟩; replace hbel := belStep (show Below W3.heap.size W3 _ from (by repeat (first | assumption | exact Below.refl _ _ | refine belDrew ?_ | refine belStep ?_ (by assumption)))) hbq; clear hbq)
          try go_simp
          refine hK.out _ _ (by exact ⟨cc0 _ (by repeat (first | assumption | exact Below.refl _ _ | refine belDrew ?_ | refine belStep ?_ (by assumption))), cc1 _ (by repeat (first | assumption | exact Below.refl _ _ | refine belDrew ?_ | refine belStep ?_ (by assumption))), cc2 _ (by repeat (first | assumption | exact Below.refl _ _ | refine belDrew ?_ | refine belStep ?_ (by assumption))), cc3 _ (by repeat (first | assumption | exact Below.refl _ _ | refine belDrew ?_ | refine belStep ?_ (by assumption))), cc4 _ (by repeat (first | assumption | exact Below.refl _ _ | refine belDrew ?_ | refine belStep ?_ (by assumption))), cc5 _ (by repeat (first | assumption | exact Below.refl _ _ | refine belDrew ?_ | refine belStep ?_ (by assumption))), cc6 _ (by repeat (first | assumption | exact Below.refl _ _ | refine belDrew ?_ | refine belStep ?_ (by assumption))), cc7 _ (by repeat (first | assumption | exact Below.refl _ _ | refine belDrew ?_ | refine belStep ?_ (by assumption))), cc8 _ (by repeat (first | assumption | exact Below.refl _ _ | refine belDrew ?_ | refine belStep ?_ (by assumption))), cc9 _ (by repeat (first | assumption | exact Below.refl _ _ | refine belDrew ?_ | refine belStep ?_ (by assumption))), cc10 _ (by repeat (first | assumption | exact Below.refl _ _ | refine belDrew ?_ | refine belStep ?_ (by assumption))), vv0 _ (by repeat (first | assumption | exact Below.refl _ _ | refine belDrew ?_ | refine belStep ?_ (by assumption))), vv1 _ (by repeat (first | assumption | exact Below.refl _ _ | refine belDrew ?_ | refine belStep ?_ (by assumption))), vv2 _ (by repeat (first | assumption | exact Below.refl _ _ | refine belDrew ?_ | refine belStep ?_ (by assumption)))⟩) (fun hHeld => ?_)
          clear hK K
          try simp only [Act.put, List.setIfInBounds_toArray, List.set_cons_zero, List.set_cons_succ]
          refine wpAnyH_take (i := 33) (oi := ?oi_34) (v := ?v_34) ?hi_34 (by kernel_rfl) ?hf_34 ?hr_34 ?hQ_34 (Or.inl ⟨?hw_34, ?hy_34⟩) (by assumption) ?rest_34
          case hi_34 => ((simp only [List.getElem?_toArray, List.getElem?_cons_succ, List.getElem?_cons_zero]); rfl)
          case hf_34 => kernel_rfl
          case hr_34 => kernel_rfl
          case hQ_34 => exact fun _ _ _ h => h
          case hw_34 => rfl
          case hy_34 => ((intro w hSw; (try dsimp only at hSw); go_simp); all_goals (with_reducible rfl))
          try simp only [Act.put, List.setIfInBounds_toArray, List.set_cons_zero, List.set_cons_succ]
          refine wpAnyH_take (i := 34) (oi := ?oi_35) (v := ?v_35) ?hi_35 (by kernel_rfl) ?hf_35 ?hr_35 ?hQ_35 (Or.inl ⟨?hw_35, ?hy_35⟩) (by assumption) ?rest_35
          case hi_35 => ((simp only [List.getElem?_toArray, List.getElem?_cons_succ, List.getElem?_cons_zero]); rfl)
          case hf_35 => kernel_rfl
          case hr_35 => kernel_rfl
          case hQ_35 => exact fun _ _ _ h => h
          case hw_35 => rfl
          case hy_35 => ((intro w hSw; (try dsimp only at hSw); go_simp); all_goals (with_reducible rfl))
          try simp only [Act.put, List.setIfInBounds_toArray, List.set_cons_zero, List.set_cons_succ]
          exact relist (by kernel_rfl) (hG.out _ _ hHeld ⟨_, _, _, _, _, _, _, _, _, _, _, _, _, _, _, _, _, _, _, _, _, _, _, _, _, _, _, _, _, _, _, _, _, _, _, _, _, _, _, _, _, _, _, _, _, _, _, _, _, _, _, _, _, _, _, _, _, _, _, _, _, _, _, _, _, _, _, _, rfl, (by repeat (first | assumption | exact Below.refl _ _ | refine belDrew ?_ | refine belStep ?_ (by assumption)))⟩)
        case rest_25 =>
          rintro a u hHeld ⟨x0, x2, x5, x7, x8, x10, x11, x12, x13, x14, x15, x16, x17, x18, x19, x20, x21, x22, x23, x24, x25, x26, x27, x28, x29, x30, x31, x32, x33, x34, x35, x36, x37, x38, x39, x40, x41, x42, x43, x44, x45, x46, x47, x48, x49, x50, x51, x52, x53, x54, x55, x56, x57, x58, x60, x61, x62, x63, x64, x65, x66, x67, x68, x69, x70, x71, x72, x73, rfl, hbel⟩
          refine wpAnyH_take (i := 35) (oi := ?oi_1) (v := ?v_1) ?hi_1 (by kernel_rfl) ?hf_1 ?hr_1 ?hQ_1 (Or.inl ⟨?hw_1, ?hy_1⟩) (by assumption) ?rest_1
          case hi_1 => ((simp only [List.getElem?_toArray, List.getElem?_cons_succ, List.getElem?_cons_zero]); rfl)
          case hf_1 => kernel_rfl
          case hr_1 => kernel_rfl
          case hQ_1 => exact fun _ _ _ h => h
          case hw_1 => rfl
          case hy_1 => ((intro w hSw; (try dsimp only at hSw); go_simp); all_goals (with_reducible rfl))
          try simp only [Act.put, List.setIfInBounds_toArray, List.set_cons_zero, List.set_cons_succ]
          refine wpAnyH_take (i := 36) (oi := ?oi_2) (v := ?v_2) ?hi_2 (by kernel_rfl) ?hf_2 ?hr_2 ?hQ_2 (Or.inl ⟨?hw_2, ?hy_2⟩) (by assumption) ?rest_2
          case hi_2 => ((simp only [List.getElem?_toArray, List.getElem?_cons_succ, List.getElem?_cons_zero]); rfl)
          case hf_2 => kernel_rfl
          case hr_2 => kernel_rfl
          case hQ_2 => exact fun _ _ _ h => h
          case hw_2 => rfl
          case hy_2 => ((intro w hSw; (try dsimp only at hSw); go_simp); all_goals (with_reducible rfl))
          try simp only [Act.put, List.setIfInBounds_toArray, List.set_cons_zero, List.set_cons_succ]
          refine wpAnyH_take (i := 37) (oi := ?oi_3) (v := ?v_3) ?hi_3 (by kernel_rfl) ?hf_3 ?hr_3 ?hQ_3 (Or.inl ⟨?hw_3, ?hy_3⟩) (by assumption) ?rest_3
          case hi_3 => ((simp only [List.getElem?_toArray, List.getElem?_cons_succ, List.getElem?_cons_zero]); rfl)
          case hf_3 => kernel_rfl
          case hr_3 => kernel_rfl
          case hQ_3 => exact fun _ _ _ h => h
          case hw_3 => rfl
          case hy_3 => ((intro w hSw; (try dsimp only at hSw); go_simp); all_goals (with_reducible rfl))
          try simp only [Act.put, List.setIfInBounds_toArray, List.set_cons_zero, List.set_cons_succ]
          refine wpAnyH_take (i := 39) (oi := ?oi_4) (v := ?v_4) ?hi_4 (by kernel_rfl) ?hf_4 ?hr_4 ?hQ_4 (Or.inl ⟨?hw_4, ?hy_4⟩) (by assumption) ?rest_4
          case hi_4 => ((simp only [List.getElem?_toArray, List.getElem?_cons_succ, List.getElem?_cons_zero]); rfl)
          case hf_4 => kernel_rfl
          case hr_4 => kernel_rfl
          case hQ_4 => exact fun _ _ _ h => h
          case hw_4 => rfl
          case hy_4 => ((intro w hSw; (try dsimp only at hSw); go_simp); all_goals (with_reducible rfl))
          try simp only [Act.put, List.setIfInBounds_toArray, List.set_cons_zero, List.set_cons_succ]
          refine wpAnyH_take (i := 40) (oi := ?oi_5) (v := ?v_5) ?hi_5 (by kernel_rfl) ?hf_5 ?hr_5 ?hQ_5 (Or.inl ⟨?hw_5, ?hy_5⟩) (by assumption) ?rest_5
          case hi_5 => ((simp only [List.getElem?_toArray, List.getElem?_cons_succ, List.getElem?_cons_zero]); rfl)
          case hf_5 => kernel_rfl
          case hr_5 => kernel_rfl
          case hQ_5 => exact fun _ _ _ h => h
          case hw_5 => rfl
          case hy_5 => ((intro w hSw; (try dsimp only at hSw); go_simp); all_goals (with_reducible rfl))
          try simp only [Act.put, List.setIfInBounds_toArray, List.set_cons_zero, List.set_cons_succ]
          refine wpAnyH_take (i := 41) (oi := ?oi_6) (v := ?v_6) ?hi_6 (by kernel_rfl) ?hf_6 ?hr_6 ?hQ_6 (Or.inl ⟨?hw_6, ?hy_6⟩) (by assumption) ?rest_6
          case hi_6 => ((simp only [List.getElem?_toArray, List.getElem?_cons_succ, List.getElem?_cons_zero]); rfl)
          case hf_6 => kernel_rfl
          case hr_6 => kernel_rfl
          case hQ_6 => exact fun _ _ _ h => h
          case hw_6 => rfl
          case hy_6 => ((intro w hSw; (try dsimp only at hSw); go_simp); all_goals (with_reducible rfl))
          try simp only [Act.put, List.setIfInBounds_toArray, List.set_cons_zero, List.set_cons_succ]
          refine wpAnyH_take (i := 42) (oi := ?oi_7) (v := ?v_7) ?hi_7 (by kernel_rfl) ?hf_7 ?hr_7 ?hQ_7 (Or.inl ⟨?hw_7, ?hy_7⟩) (by assumption) ?rest_7
          case hi_7 => ((simp only [List.getElem?_toArray, List.getElem?_cons_succ, List.getElem?_cons_zero]); rfl)
          case hf_7 => kernel_rfl
          case hr_7 => kernel_rfl
          case hQ_7 => exact fun _ _ _ h => h
          case hw_7 => rfl
          case hy_7 => ((intro w hSw; (try dsimp only at hSw); go_simp); all_goals (with_reducible rfl))
          try simp only [Act.put, List.setIfInBounds_toArray, List.set_cons_zero, List.set_cons_succ]
          refine wpAnyH_take (i := 43) (oi := ?oi_8) (v := ?v_8) ?hi_8 (by kernel_rfl) ?hf_8 ?hr_8 ?hQ_8 (Or.inl ⟨?hw_8, ?hy_8⟩) (by assumption) ?rest_8
          case hi_8 => ((simp only [List.getElem?_toArray, List.getElem?_cons_succ, List.getElem?_cons_zero]); rfl)
          case hf_8 => kernel_rfl
          case hr_8 => kernel_rfl
          case hQ_8 => exact fun _ _ _ h => h
          case hw_8 => rfl
          case hy_8 => ((intro w hSw; (try dsimp only at hSw); go_simp); all_goals (with_reducible rfl))
          try simp only [Act.put, List.setIfInBounds_toArray, List.set_cons_zero, List.set_cons_succ]
          refine wpAnyH_take (i := 45) (oi := ?oi_9) (v := ?v_9) ?hi_9 (by kernel_rfl) ?hf_9 ?hr_9 ?hQ_9 (Or.inl ⟨?hw_9, ?hy_9⟩) (by assumption) ?rest_9
          case hi_9 => ((simp only [List.getElem?_toArray, List.getElem?_cons_succ, List.getElem?_cons_zero]); rfl)
          case hf_9 => kernel_rfl
          case hr_9 => kernel_rfl
          case hQ_9 => exact fun _ _ _ h => h
          case hw_9 => rfl
          case hy_9 => ((intro w hSw; (try dsimp only at hSw); go_simp); all_goals (with_reducible rfl))
          try simp only [Act.put, List.setIfInBounds_toArray, List.set_cons_zero, List.set_cons_succ]
          refine wpAnyH_ready (rs := [38]) (by kernel_rfl) (by simp) ?_
          refine AllReadyH.cons (o := ?o1_24) ?hi_24 (fun K hK => ?rest_24) AllReadyH.nil
          case hi_24 => ((simp only [List.getElem?_toArray, List.getElem?_cons_succ, List.getElem?_cons_zero]); rfl)
          go_simp
          (go_at_call 19; (with_reducible refine (CG.out _ (by repeat (first | assumption | exact Below.refl _ _ | refine belDrew ?_ | refine belStep ?_ (by assumption)))).mono ?_); rintro e wq ⟨gq, rfl, hoq, hgq, hbq⟩; have R1 := Lib.hid (rows_ownG hoq); replace hbel := belStep (show Below W3.heap.size W3 _ from (by repeat (first | assumption | exact Below.refl _ _ | refine belDrew ?_ | refine belStep ?_ (by assumption)))) hbq; clear hoq hgq hbq)
          try go_simp
          refine hK.out _ _ (by exact ⟨cc0 _ (by repeat (first | assumption | exact Below.refl _ _ | refine belDrew ?_ | refine belStep ?_ (by assumption))), cc1 _ (by repeat (first | assumption | exact Below.refl _ _ | refine belDrew ?_ | refine belStep ?_ (by assumption))), cc2 _ (by repeat (first | assumption | exact Below.refl _ _ | refine belDrew ?_ | refine belStep ?_ (by assumption))), cc3 _ (by repeat (first | assumption | exact Below.refl _ _ | refine belDrew ?_ | refine belStep ?_ (by assumption))), cc4 _ (by repeat (first | assumption | exact Below.refl _ _ | refine belDrew ?_ | refine belStep ?_ (by assumption))), cc5 _ (by repeat (first | assumption | exact Below.refl _ _ | refine belDrew ?_ | refine belStep ?_ (by assumption))), cc6 _ (by repeat (first | assumption | exact Below.refl _ _ | refine belDrew ?_ | refine belStep ?_ (by assumption))), cc7 _ (by repeat (first | assumption | exact Below.refl _ _ | refine belDrew ?_ | refine belStep ?_ (by assumption))), cc8 _ (by repeat (first | assumption | exact Below.refl _ _ | refine belDrew ?_ | refine belStep ?_ (by assumption))), cc9 _ (by repeat (first | assumption | exact Below.refl _ _ | refine belDrew ?_ | refine belStep ?_ (by assumption))), cc10 _ (by repeat (first | assumption | exact Below.refl _ _ | refine belDrew ?_ | refine belStep ?_ (by assumption))), vv0 _ (by repeat (first | assumption | exact Below.refl _ _ | refine belDrew ?_ | refine belStep ?_ (by assumption))), vv1 _ (by repeat (first | assumption | exact Below.refl _ _ | refine belDrew ?_ | refine belStep ?_ (by assumption))), vv2 _ (by repeat (first | assumption | exact Below.refl _ _ | refine belDrew ?_ | refine belStep ?_ (by assumption)))⟩) (fun hHeld => ?_)
          clear hK K
          try simp only [Act.put, List.setIfInBounds_toArray, List.set_cons_zero, List.set_cons_succ]
          refine wpAnyH_ready (rs := [44]) (by kernel_rfl) (by simp) ?_
          refine AllReadyH.cons (o := ?o1_10) ?hi_10 (fun K hK => ?rest_10) AllReadyH.nil
          case hi_10 => ((simp only [List.getElem?_toArray, List.getElem?_cons_succ, List.getElem?_cons_zero]); rfl)
          go_simp
          (go_at_call 18; (with_reducible refine (CS2.out _ (by repeat (first | assumption | exact Below.refl _ _ | refine belDrew ?_ | refine belStep ?_ (by assumption)))).mono ?_); rintro e wq ⟨vq, rfl, hoq, hbq⟩; obtain ⟨aq, cq, eq, hrq⟩ := hoq.row; rw [HLS.out] at eq hrq; subst eq; have RS := Lib.hid hrq; replace R1 := Lib.hid (R1.out.later hbq); replace hbel := belStep (show Below W3.heap.size W3 _ from (by repeat (first | assumption | exact Below.refl _ _ | refine belDrew ?_ | refine belStep ?_ (by assumption)))) hbq; clear hoq hrq hbq)
          try go_simp
          refine hK.out _ _ (by exact ⟨cc0 _ (by repeat (first | assumption | exact Below.refl _ _ | refine belDrew ?_ | refine belStep ?_ (by assumption))), cc1 _ (by repeat (first | assumption | exact Below.refl _ _ | refine belDrew ?_ | refine belStep ?_ (by assumption))), cc2 _ (by repeat (first | assumption | exact Below.refl _ _ | refine belDrew ?_ | refine belStep ?_ (by assumption))), cc3 _ (by repeat (first | assumption | exact Below.refl _ _ | refine belDrew ?_ | refine belStep ?_ (by assumption))), cc4 _ (by repeat (first | assumption | exact Below.refl _ _ | refine belDrew ?_ | refine belStep ?_ (by assumption))), cc5 _ (by repeat (first | assumption | exact Below.refl _ _ | refine belDrew ?_ | refine belStep ?_ (by assumption))), cc6 _ (by repeat (first | assumption | exact Below.refl _ _ | refine belDrew ?_ | refine belStep ?_ (by assumption))), cc7 _ (by repeat (first | assumption | exact Below.refl _ _ | refine belDrew ?_ | refine belStep ?_ (by assumption))), cc8 _ (by repeat (first | assumption | exact Below.refl _ _ | refine belDrew ?_ | refine belStep ?_ (by assumption))), cc9 _ (by repeat (first | assumption | exact Below.refl _ _ | refine belDrew ?_ | refine belStep ?_ (by assumption))), cc10 _ (by repeat (first | assumption | exact Below.refl _ _ | refine belDrew ?_ | refine belStep ?_ (by assumption))), vv0 _ (by repeat (first | assumption | exact Below.refl _ _ | refine belDrew ?_ | refine belStep ?_ (by assumption))), vv1 _ (by repeat (first | assumption | exact Below.refl _ _ | refine belDrew ?_ | refine belStep ?_ (by assumption))), vv2 _ (by repeat (first | assumption | exact Below.refl _ _ | refine belDrew ?_ | refine belStep ?_ (by assumption)))⟩) (fun hHeld => ?_)
          clear hK K
          try simp only [Act.put, List.setIfInBounds_toArray, List.set_cons_zero, List.set_cons_succ]
          refine wpAnyH_ready (rs := [46]) (by kernel_rfl) (by simp) ?_
          refine AllReadyH.cons (o := ?o1_11) ?hi_11 (fun K hK => ?rest_11) AllReadyH.nil
          case hi_11 => ((simp only [List.getElem?_toArray, List.getElem?_cons_succ, List.getElem?_cons_zero]); rfl)
          go_simp
          (go_at_call 20; (with_reducible refine (CG2.out _ _ _ (by repeat (first | assumption | exact Below.refl _ _ | refine belDrew ?_ | refine belStep ?_ (by assumption))) (ints_mk RS.out HWF.out)).mono ?_); rintro e wq ⟨vq, rfl, hoq, hbq⟩; obtain ⟨aq, cq, eq, hrq⟩ := hoq.row; rw [HLG.out] at eq hrq; subst eq; have R2 := Lib.hid hrq; replace R1 := Lib.hid (R1.out.later hbq); replace hbel := belStep (show Below W3.heap.size W3 _ from (by repeat (first | assumption | exact Below.refl _ _ | refine belDrew ?_ | refine belStep ?_ (by assumption)))) hbq; clear hoq hrq hbq)
          try go_simp
          refine hK.out _ _ (by exact ⟨cc0 _ (by repeat (first | assumption | exact Below.refl _ _ | refine belDrew ?_ | refine belStep ?_ (by assumption))), cc1 _ (by repeat (first | assumption | exact Below.refl _ _ | refine belDrew ?_ | refine belStep ?_ (by assumption))), cc2 _ (by repeat (first | assumption | exact Below.refl _ _ | refine belDrew ?_ | refine belStep ?_ (by assumption))), cc3 _ (by repeat (first | assumption | exact Below.refl _ _ | refine belDrew ?_ | refine belStep ?_ (by assumption))), cc4 _ (by repeat (first | assumption | exact Below.refl _ _ | refine belDrew ?_ | refine belStep ?_ (by assumption))), cc5 _ (by repeat (first | assumption | exact Below.refl _ _ | refine belDrew ?_ | refine belStep ?_ (by assumption))), cc6 _ (by repeat (first | assumption | exact Below.refl _ _ | refine belDrew ?_ | refine belStep ?_ (by assumption))), cc7 _ (by repeat (first | assumption | exact Below.refl _ _ | refine belDrew ?_ | refine belStep ?_ (by assumption))), cc8 _ (by repeat (first | assumption | exact Below.refl _ _ | refine belDrew ?_ | refine belStep ?_ (by assumption))), cc9 _ (by repeat (first | assumption | exact Below.refl _ _ | refine belDrew ?_ | refine belStep ?_ (by assumption))), cc10 _ (by repeat (first | assumption | exact Below.refl _ _ | refine belDrew ?_ | refine belStep ?_ (by assumption))), vv0 _ (by repeat (first | assumption | exact Below.refl _ _ | refine belDrew ?_ | refine belStep ?_ (by assumption))), vv1 _ (by repeat (first | assumption | exact Below.refl _ _ | refine belDrew ?_ | refine belStep ?_ (by assumption))), vv2 _ (by repeat (first | assumption | exact Below.refl _ _ | refine belDrew ?_ | refine belStep ?_ (by assumption)))⟩) (fun hHeld => ?_)
          clear hK K
          try simp only [Act.put, List.setIfInBounds_toArray, List.set_cons_zero, List.set_cons_succ]
          refine wpAnyH_ready (rs := [47]) (by kernel_rfl) (by simp) ?_
          refine AllReadyH.cons (o := ?o1_12) ?hi_12 (fun K hK => ?rest_12) AllReadyH.nil
          case hi_12 => ((simp only [List.getElem?_toArray, List.getElem?_cons_succ, List.getElem?_cons_zero]); rfl)
          go_simp
          (go_at_call 15; (with_reducible refine (ref_SameBools _ _ _ _ _ _ _ R1.out R2.out).mono ?_); rintro e wq ⟨rfl, hbq⟩; replace hbel := belStep (show Below W3.heap.size W3 _ from (by repeat (first | assumption | exact Below.refl _ _ | refine belDrew ?_ | refine belStep ?_ (by assumption)))) hbq; clear hbq)
          try go_simp
          refine hK.out _ _ (by exact ⟨cc0 _ (by repeat (first | assumption | exact Below.refl _ _ | refine belDrew ?_ | refine belStep ?_ (by assumption))), cc1 _ (by repeat (first | assumption | exact Below.refl _ _ | refine belDrew ?_ | refine belStep ?_ (by assumption))), cc2 _ (by repeat (first | assumption | exact Below.refl _ _ | refine belDrew ?_ | refine belStep ?_ (by assumption))), cc3 _ (by repeat (first | assumption | exact Below.refl _ _ | refine belDrew ?_ | refine belStep ?_ (by assumption))), cc4 _ (by repeat (first | assumption | exact Below.refl _ _ | refine belDrew ?_ | refine belStep ?_ (by assumption))), cc5 _ (by repeat (first | assumption | exact Below.refl _ _ | refine belDrew ?_ | refine belStep ?_ (by assumption))), cc6 _ (by repeat (first | assumption | exact Below.refl _ _ | refine belDrew ?_ | refine belStep ?_ (by assumption))), cc7 _ (by repeat (first | assumption | exact Below.refl _ _ | refine belDrew ?_ | refine belStep ?_ (by assumption))), cc8 _ (by repeat (first | assumption | exact Below.refl _ _ | refine belDrew ?_ | refine belStep ?_ (by assumption))), cc9 _ (by repeat (first | assumption | exact Below.refl _ _ | refine belDrew ?_ | refine belStep ?_ (by assumption))), cc10 _ (by repeat (first | assumption | exact Below.refl _ _ | refine belDrew ?_ | refine belStep ?_ (by assumption))), vv0 _ (by repeat (first | assumption | exact Below.refl _ _ | refine belDrew ?_ | refine belStep ?_ (by assumption))), vv1 _ (by repeat (first | assumption | exact Below.refl _ _ | refine belDrew ?_ | refine belStep ?_ (by assumption))), vv2 _ (by repeat (first | assumption | exact Below.refl _ _ | refine belDrew ?_ | refine belStep ?_ (by assumption)))⟩) (fun hHeld => ?_)
          clear hK K
          try simp only [Act.put, List.setIfInBounds_toArray, List.set_cons_zero, List.set_cons_succ]
          refine wpAnyH_take (i := 48) (oi := ?oi_13) (v := ?v_13) ?hi_13 (by kernel_rfl) ?hf_13 ?hr_13 ?hQ_13 (Or.inl ⟨?hw_13, ?hy_13⟩) (by assumption) ?rest_13
          case hi_13 => ((simp only [List.getElem?_toArray, List.getElem?_cons_succ, List.getElem?_cons_zero]); rfl)
          case hf_13 => kernel_rfl
          case hr_13 => kernel_rfl
          case hQ_13 => exact fun _ _ _ h => h
          case hw_13 => rfl
          case hy_13 => ((intro w hSw; (try dsimp only at hSw); go_simp); all_goals (with_reducible rfl))
          try simp only [Act.put, List.setIfInBounds_toArray, List.set_cons_zero, List.set_cons_succ]
          refine wpAnyH_ready (rs := [49]) (by kernel_rfl) (by simp) ?_
          refine AllReadyH.cons (o := ?o1_14) ?hi_14 (fun K hK => ?rest_14) AllReadyH.nil
          case hi_14 => ((simp only [List.getElem?_toArray, List.getElem?_cons_succ, List.getElem?_cons_zero]); rfl)
          go_simp
          refine hK.out _ _ (by exact ⟨cc0 _ (by repeat (first | assumption | exact Below.refl _ _ | refine belDrew ?_ | refine belStep ?_ (by assumption))), cc1 _ (by repeat (first | assumption | exact Below.refl _ _ | refine belDrew ?_ | refine belStep ?_ (by assumption))), cc2 _ (by repeat (first | assumption | exact Below.refl _ _ | refine belDrew ?_ | refine belStep ?_ (by assumption))), cc3 _ (by repeat (first | assumption | exact Below.refl _ _ | refine belDrew ?_ | refine belStep ?_ (by assumption))), cc4 _ (by repeat (first | assumption | exact Below.refl _ _ | refine belDrew ?_ | refine belStep ?_ (by assumption))), cc5 _ (by repeat (first | assumption | exact Below.refl _ _ | refine belDrew ?_ | refine belStep ?_ (by assumption))), cc6 _ (by repeat (first | assumption | exact Below.refl _ _ | refine belDrew ?_ | refine belStep ?_ (by assumption))), cc7 _ (by repeat (first | assumption | exact Below.refl _ _ | refine belDrew ?_ | refine belStep ?_ (by assumption))), cc8 _ (by repeat (first | assumption | exact Below.refl _ _ | refine belDrew ?_ | refine belStep ?_ (by assumption))), cc9 _ (by repeat (first | assumption | exact Below.refl _ _ | refine belDrew ?_ | refine belStep ?_ (by assumption))), cc10 _ (by repeat (first | assumption | exact Below.refl _ _ | refine belDrew ?_ | refine belStep ?_ (by assumption))), vv0 _ (by repeat (first | assumption | exact Below.refl _ _ | refine belDrew ?_ | refine belStep ?_ (by assumption))), vv1 _ (by repeat (first | assumption | exact Below.refl _ _ | refine belDrew ?_ | refine belStep ?_ (by assumption))), vv2 _ (by repeat (first | assumption | exact Below.refl _ _ | refine belDrew ?_ | refine belStep ?_ (by assumption)))⟩) (fun hHeld => ?_)
          clear hK K
          try simp only [Act.put, List.setIfInBounds_toArray, List.set_cons_zero, List.set_cons_succ]
          refine wpAnyH_done (by kernel_rfl) ?_ _
          go_wp2
          go_ret
          exact ⟨rfl, belStep HW3.out hbel⟩

set_option maxRecDepth 100000 in
theorem lifted (os : Os) (started : os.Started) (H : Type) (enc : TypeId × Value → H) :
    ReturnsInHanded {} Try.checked os 3 .any (Rows.graceStepsSpec.pre6 enc Try.prog Try.f3 Rows.graceStepsRow.domain false) (Rows.graceStepsSpec.post enc Try.prog Try.f3 false true false false) := by
  refine returnsInHanded_of_change (C := Try.checked) own started (by kernel_rfl) Try.func3
    (ChangeSpec.witness6 (enc := enc) (C := Try.checked) false ⟨#[], #[.agg #[.int .i64 0, .int .i64 0, .int .i64 0, .int .i64 0, .int .i64 0, .int .i64 0, .slice none 0 0, .int .i64 0, .int .i64 0, .int .i64 0, .int .i64 0], .slice none 0 0, .agg #[.int .i64 0, .int .i64 0, .int .i64 0], .int .i64 0], []⟩ 8 (by kernel_rfl) (by kernel_rfl) (by kernel_rfl) (by kernel_rfl)) ?_
  intro W base args ds gs before hval0 hW hcnd _
  have hval : ∀ (j : Nat) t v, Try.f3.params[j]? = some t → args[j]? = some v → Value.okWide Try.prog W .any base t v := hval0
  have hW' := hW
  obtain ⟨p, q, hA0, hV, rfl, hfz, hnd⟩ := hW
  have hA : DataW.TrodAll enc Try.prog W 0 (fun _ => true) true Try.f3.params.toList args.toList ds p := hA0
  rw [Try.params3] at hA hval
  obtain ⟨v0, vs0, d0, ds0, p0, q0, hargs, rfl, rfl, h0, r0⟩ := trodAll_cons hA
  obtain ⟨v1, vs1, d1, ds1, p1, q1, rfl, rfl, rfl, h1, r1⟩ := trodAll_cons r0
  obtain ⟨v2, vs2, d2, ds2, p2, q2, rfl, rfl, rfl, h2, r2⟩ := trodAll_cons r1
  obtain ⟨v3, vs3, d3, ds3, p3, q3, rfl, rfl, rfl, h3, r3⟩ := trodAll_cons r2
  obtain ⟨rfl, rfl, rfl⟩ := trodAll_nil r3
  obtain rfl : args = #[v0, v1, v2, v3] := by cases args; simp_all
  obtain ⟨rfl, rfl⟩ := trodVars_none hV
  have k0 := h0
  have lt0 : ∀ x ∈ p0, x.block < W.heap.size := by obtain ⟨m, hm⟩ := k0; exact DataW.trod_lt m _ _ _ hm
  have o0 : Value.okWide Try.prog W .any base 25 v0 := hval 0 25 v0 rfl rfl
  obtain ⟨c0, rfl, hc0⟩ := open_cfg o0 h0
  have k1 := h1
  have lt1 : ∀ x ∈ p1, x.block < W.heap.size := by obtain ⟨m, hm⟩ := k1; exact DataW.trod_lt m _ _ _ hm
  have o1 : Value.okWide Try.prog W .any base 26 v1 := hval 1 26 v1 rfl rfl
  obtain ⟨a1, len1, cap1, rfl⟩ := okWide_slice Try.underlying26 o1
  obtain ⟨z1, w1⟩ : ∃ zs, Ints .i64 W a1 len1 cap1 zs := ints_of_trod Try.underlying26 Try.underlying3 (by kernel_rfl) h1
  have k2 := h2
  have lt2 : ∀ x ∈ p2, x.block < W.heap.size := by obtain ⟨m, hm⟩ := k2; exact DataW.trod_lt m _ _ _ hm
  have o2 : Value.okWide Try.prog W .any base 22 v2 := hval 2 22 v2 rfl rfl
  obtain ⟨x2, y2, z2, rfl, h12, h22, h32⟩ := open_three o2 h2
  have k3 := h3
  have lt3 : ∀ x ∈ p3, x.block < W.heap.size := by obtain ⟨m, hm⟩ := k3; exact DataW.trod_lt m _ _ _ hm
  have o3 : Value.okWide Try.prog W .any base 3 v3 := hval 3 3 v3 rfl rfl
  obtain ⟨a3, rfl, rfl, rfl, w3⟩ := open_int Try.underlying3 o3 h3
  clear hA0 hval0
  refine (walk c0 a1 len1 cap1 z1 x2 y2 z2 a3 W hc0 w1 h12 h22 h32 (inI_of_wf w3)).mono fun e W' ⟨he, bel⟩ => ?_
  subst he
  exact ⟨_, rfl, _, _, _, [], _, [], hW', trodAll_mk1 (shut_bool Try.underlying4 _), (trodAll_cons_mk (Below.trod laidOut (by kernel_rfl) (of_decide_eq_true (by kernel_rfl)) k0 bel lt0) (trodAll_cons_mk (Below.trod laidOut (by kernel_rfl) (of_decide_eq_true (by kernel_rfl)) k1 bel lt1) (trodAll_cons_mk (Below.trod laidOut (by kernel_rfl) (of_decide_eq_true (by kernel_rfl)) k2 bel lt2) (trodAll_cons_mk (Below.trod laidOut (by kernel_rfl) (of_decide_eq_true (by kernel_rfl)) k3 bel lt3) trodAll_mk0)))), rfl, bel.frame _, fun h => by cases h⟩

theorem over : Rows.graceStepsRow.holds Try.pinned (OpenSpec.ofChange Rows.graceStepsSpec) :=
  OpenClaim.holds_of_wide 3 Try.f3 rfl rfl rfl rfl rfl rfl rfl ⟨rfl, rfl, rfl, rfl, rfl⟩ rfl rfl rfl rfl rfl (by kernel_rfl) Try.func3 (by kernel_rfl)
    (of_decide_eq_true (by kernel_rfl)) (by unfold Func.isWrapper; first | (rw [if_pos (by decide +kernel)]; kernel_rfl) | (rw [if_neg (by decide +kernel)]; exact ⟨rfl, rfl⟩))
    (fun os started H enc _ => lifted os started H enc)

/-- The statement. -/
theorem proved : Rows.GraceStepsSaid := over
#print axioms proved

end Go.Proofs.Ytbancemkajgljaa.graceSteps
