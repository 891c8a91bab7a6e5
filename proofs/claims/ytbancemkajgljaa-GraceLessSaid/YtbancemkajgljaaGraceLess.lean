/- GraceLess holds for every config, timers, round, sample and what is less: where there is less of all, each threshold that was met is met, and each that holds holds. No conditions. -/
import Derived.Test.YtbancemkajgljaaAwake18
namespace Go.Proofs.Ytbancemkajgljaa.graceLess
open Go.ChangeShapes Go.WideShapes Go.ChangeAt Go.RowKit
open Go.ChangeMaps (open_string shut_string)
set_option linter.unusedVariables false
set_option linter.unusedSimpArgs false

theorem open_three16 {H : Type} {enc : TypeId × Value → H} {W : World} {v : Value} {b : Nat} {d : DataW H} {p : List MemPlace} (o : Value.okWide Try.prog W .any b 52 v) (h : DataW.Trod enc Try.prog W 0 (fun _ => true) true 52 v d p) :
    ∃ x y z : Int, v = .agg #[.int .u16 x, .int .u16 y, .int .u16 z] ∧ (0 ≤ x ∧ x ≤ 65535) ∧ (0 ≤ y ∧ y ≤ 65535) ∧ (0 ≤ z ∧ z ≤ 65535) := by
  obtain ⟨cs, rfl⟩ := agg_of_array Try.underlying52 o
  have hr := Rd.of h
  rw [agg_cells] at hr
  obtain ⟨hl, hf⟩ := Rd.array Try.underlying52 hr
  rw [show Try.prog.cellsOf 52 = 3 by kernel_rfl] at hl
  obtain ⟨a, b, c, e⟩ := list3 hl
  rw [e] at hf
  have h0 := hf 0 (by omega)
  have h1 := hf 1 (by omega)
  have h2 := hf 2 (by omega)
  simp [show Try.prog.cellsOf 51 = 1 by kernel_rfl] at h0 h1 h2
  obtain ⟨x, e0, w0⟩ := Rd.int Try.underlying51 h0
  obtain ⟨y, e1, w1⟩ := Rd.int Try.underlying51 h1
  obtain ⟨z, e2, w2⟩ := Rd.int Try.underlying51 h2
  obtain rfl := one_int e0
  obtain rfl := one_int e1
  obtain rfl := one_int e2
  exact ⟨x, y, z, by rw [show cs = cs.toList.toArray by simp, e], in16_of_wf w0, in16_of_wf w1, in16_of_wf w2⟩
theorem metF_less (t : ThrV) (cp a b : Int) (h : b ≤ a) : metF t cp a = true → metF t cp b = true := by
  unfold metF
  split
  · rw [decide_eq_true_eq, decide_eq_true_eq]
    intro q
    have : satNum b ≤ satNum a := by unfold satNum; omega
    omega
  · rw [decide_eq_true_eq, decide_eq_true_eq]
    intro q; omega
theorem met3_less (c : CfgV) (t : ThrV) (a0 a1 a2 b0 b1 b2 : Int) (h0 : b0 ≤ a0) (h1 : b1 ≤ a1) (h2 : b2 ≤ a2) : met3 c t a0 a1 a2 = true → met3 c t b0 b1 b2 = true := by
  unfold met3
  refine metF_less _ _ _ _ ?_
  unfold sel
  split
  · exact h0
  · split
    · exact h1
    · exact h2
theorem hold_less (t : ThrV) (ma mb : Bool) (s r : Int) (hm : ma = true → mb = true) : (holdE t (stepE ma s r) r = true → holdE t (stepE mb s r) r = true) ∧ (holdE t (stepE ma s r) r = true → ma = true) := by
  cases ma
  · have : holdE t (stepE false s r) r = false := by unfold holdE stepE; simp
    rw [this]
    exact ⟨fun h => (by cases h), fun h => (by cases h)⟩
  · rw [hm rfl]
    exact ⟨fun h => h, fun _ => rfl⟩

set_option maxRecDepth 100000 in
set_option maxHeartbeats 8000000 in
theorem walk (c : CfgV) (sa : Option Addr) (sl sc : Nat) (S : List Int) (r a0 a1 a2 l0 l1 l2 : Int) (w : World) (hc : c.ok w) (hS : Ints .i64 w sa sl sc S) (hr0 : InI r) (hv0 : InI a0) (hv1 : InI a1) (hv2 : InI a2) (hl0 : 0 ≤ l0 ∧ l0 ≤ 65535) (hl1 : 0 ≤ l1 ∧ l1 ≤ 65535) (hl2 : 0 ≤ l2 ∧ l2 ≤ 65535) : Calls Try.prog 7 #[.agg #[.int .i64 c.k0, .int .i64 c.k1, .int .i64 c.k2, .int .i64 c.a0, .int .i64 c.a1, .int .i64 c.a2, .slice c.ta c.tl c.tc, .int .i64 c.per, .int .i64 c.ret, .int .i64 c.age, .int .i64 c.dead], .slice sa sl sc, .int .i64 r, .agg #[.int .i64 a0, .int .i64 a1, .int .i64 a2], .agg #[.int .u16 l0, .int .u16 l1, .int .u16 l2]] w fun e w' => e = .returned (.bool true) ∧ Below w.heap.size w w' := by
  have hw : Below w.heap.size w w := Below.refl _ _
  have hbel := hw
  have CF := Lib.hid (fun u (h : Below w.heap.size w u) => ref_Fit c sa sl sc S r u (hc.later h) (hS.later h))
  have HC := Lib.hid hc
  have HS := Lib.hid hS
  clear hc hS hr0
  go_enter Try.func7, Try.ntmps7
  go_upto_region 1 with fail
  have cc0 : (((w.alloc (.cells #[.int .i64 c.k0, .int .i64 c.k1, .int .i64 c.k2, .int .i64 c.a0, .int .i64 c.a1, .int .i64 c.a2, .slice c.ta c.tl c.tc, .int .i64 c.per, .int .i64 c.ret, .int .i64 c.age, .int .i64 c.dead] 25)).alloc (.cells #[.int .i64 a0, .int .i64 a1, .int .i64 a2] 22)).alloc (.cells #[.int .u16 l0, .int .u16 l1, .int .u16 l2] 52)).cell? ⟨w.heap.size, 0, none⟩ = some (.int .i64 c.k0) := by first | (simp; done) | (rw [World.cell?_alloc_at _ _ _ _ (by simp)]; rfl) | (rw [World.cell?_alloc_past _ _ _ (by simp <;> omega), World.cell?_alloc_at _ _ _ _ (by simp)]; rfl) | (rw [World.cell?_alloc_past _ _ _ (by simp <;> omega), World.cell?_alloc_past _ _ _ (by simp <;> omega), World.cell?_alloc_at _ _ _ _ (by simp)]; rfl)
  have cc1 : (((w.alloc (.cells #[.int .i64 c.k0, .int .i64 c.k1, .int .i64 c.k2, .int .i64 c.a0, .int .i64 c.a1, .int .i64 c.a2, .slice c.ta c.tl c.tc, .int .i64 c.per, .int .i64 c.ret, .int .i64 c.age, .int .i64 c.dead] 25)).alloc (.cells #[.int .i64 a0, .int .i64 a1, .int .i64 a2] 22)).alloc (.cells #[.int .u16 l0, .int .u16 l1, .int .u16 l2] 52)).cell? ⟨w.heap.size, 1, none⟩ = some (.int .i64 c.k1) := by first | (simp; done) | (rw [World.cell?_alloc_at _ _ _ _ (by simp)]; rfl) | (rw [World.cell?_alloc_past _ _ _ (by simp <;> omega), World.cell?_alloc_at _ _ _ _ (by simp)]; rfl) | (rw [World.cell?_alloc_past _ _ _ (by simp <;> omega), World.cell?_alloc_past _ _ _ (by simp <;> omega), World.cell?_alloc_at _ _ _ _ (by simp)]; rfl)
  have cc2 : (((w.alloc (.cells #[.int .i64 c.k0, .int .i64 c.k1, .int .i64 c.k2, .int .i64 c.a0, .int .i64 c.a1, .int .i64 c.a2, .slice c.ta c.tl c.tc, .int .i64 c.per, .int .i64 c.ret, .int .i64 c.age, .int .i64 c.dead] 25)).alloc (.cells #[.int .i64 a0, .int .i64 a1, .int .i64 a2] 22)).alloc (.cells #[.int .u16 l0, .int .u16 l1, .int .u16 l2] 52)).cell? ⟨w.heap.size, 2, none⟩ = some (.int .i64 c.k2) := by first | (simp; done) | (rw [World.cell?_alloc_at _ _ _ _ (by simp)]; rfl) | (rw [World.cell?_alloc_past _ _ _ (by simp <;> omega), World.cell?_alloc_at _ _ _ _ (by simp)]; rfl) | (rw [World.cell?_alloc_past _ _ _ (by simp <;> omega), World.cell?_alloc_past _ _ _ (by simp <;> omega), World.cell?_alloc_at _ _ _ _ (by simp)]; rfl)
  have cc3 : (((w.alloc (.cells #[.int .i64 c.k0, .int .i64 c.k1, .int .i64 c.k2, .int .i64 c.a0, .int .i64 c.a1, .int .i64 c.a2, .slice c.ta c.tl c.tc, .int .i64 c.per, .int .i64 c.ret, .int .i64 c.age, .int .i64 c.dead] 25)).alloc (.cells #[.int .i64 a0, .int .i64 a1, .int .i64 a2] 22)).alloc (.cells #[.int .u16 l0, .int .u16 l1, .int .u16 l2] 52)).cell? ⟨w.heap.size, 3, none⟩ = some (.int .i64 c.a0) := by first | (simp; done) | (rw [World.cell?_alloc_at _ _ _ _ (by simp)]; rfl) | (rw [World.cell?_alloc_past _ _ _ (by simp <;> omega), World.cell?_alloc_at _ _ _ _ (by simp)]; rfl) | (rw [World.cell?_alloc_past _ _ _ (by simp <;> omega), World.cell?_alloc_past _ _ _ (by simp <;> omega), World.cell?_alloc_at _ _ _ _ (by simp)]; rfl)
  have cc4 : (((w.alloc (.cells #[.int .i64 c.k0, .int .i64 c.k1, .int .i64 c.k2, .int .i64 c.a0, .int .i64 c.a1, .int .i64 c.a2, .slice c.ta c.tl c.tc, .int .i64 c.per, .int .i64 c.ret, .int .i64 c.age, .int .i64 c.dead] 25)).alloc (.cells #[.int .i64 a0, .int .i64 a1, .int .i64 a2] 22)).alloc (.cells #[.int .u16 l0, .int .u16 l1, .int .u16 l2] 52)).cell? ⟨w.heap.size, 4, none⟩ = some (.int .i64 c.a1) := by first | (simp; done) | (rw [World.cell?_alloc_at _ _ _ _ (by simp)]; rfl) | (rw [World.cell?_alloc_past _ _ _ (by simp <;> omega), World.cell?_alloc_at _ _ _ _ (by simp)]; rfl) | (rw [World.cell?_alloc_past _ _ _ (by simp <;> omega), World.cell?_alloc_past _ _ _ (by simp <;> omega), World.cell?_alloc_at _ _ _ _ (by simp)]; rfl)
  have cc5 : (((w.alloc (.cells #[.int .i64 c.k0, .int .i64 c.k1, .int .i64 c.k2, .int .i64 c.a0, .int .i64 c.a1, .int .i64 c.a2, .slice c.ta c.tl c.tc, .int .i64 c.per, .int .i64 c.ret, .int .i64 c.age, .int .i64 c.dead] 25)).alloc (.cells #[.int .i64 a0, .int .i64 a1, .int .i64 a2] 22)).alloc (.cells #[.int .u16 l0, .int .u16 l1, .int .u16 l2] 52)).cell? ⟨w.heap.size, 5, none⟩ = some (.int .i64 c.a2) := by first | (simp; done) | (rw [World.cell?_alloc_at _ _ _ _ (by simp)]; rfl) | (rw [World.cell?_alloc_past _ _ _ (by simp <;> omega), World.cell?_alloc_at _ _ _ _ (by simp)]; rfl) | (rw [World.cell?_alloc_past _ _ _ (by simp <;> omega), World.cell?_alloc_past _ _ _ (by simp <;> omega), World.cell?_alloc_at _ _ _ _ (by simp)]; rfl)
  have cc6 : (((w.alloc (.cells #[.int .i64 c.k0, .int .i64 c.k1, .int .i64 c.k2, .int .i64 c.a0, .int .i64 c.a1, .int .i64 c.a2, .slice c.ta c.tl c.tc, .int .i64 c.per, .int .i64 c.ret, .int .i64 c.age, .int .i64 c.dead] 25)).alloc (.cells #[.int .i64 a0, .int .i64 a1, .int .i64 a2] 22)).alloc (.cells #[.int .u16 l0, .int .u16 l1, .int .u16 l2] 52)).cell? ⟨w.heap.size, 6, none⟩ = some (.slice c.ta c.tl c.tc) := by first | (simp; done) | (rw [World.cell?_alloc_at _ _ _ _ (by simp)]; rfl) | (rw [World.cell?_alloc_past _ _ _ (by simp <;> omega), World.cell?_alloc_at _ _ _ _ (by simp)]; rfl) | (rw [World.cell?_alloc_past _ _ _ (by simp <;> omega), World.cell?_alloc_past _ _ _ (by simp <;> omega), World.cell?_alloc_at _ _ _ _ (by simp)]; rfl)
  have cc7 : (((w.alloc (.cells #[.int .i64 c.k0, .int .i64 c.k1, .int .i64 c.k2, .int .i64 c.a0, .int .i64 c.a1, .int .i64 c.a2, .slice c.ta c.tl c.tc, .int .i64 c.per, .int .i64 c.ret, .int .i64 c.age, .int .i64 c.dead] 25)).alloc (.cells #[.int .i64 a0, .int .i64 a1, .int .i64 a2] 22)).alloc (.cells #[.int .u16 l0, .int .u16 l1, .int .u16 l2] 52)).cell? ⟨w.heap.size, 7, none⟩ = some (.int .i64 c.per) := by first | (simp; done) | (rw [World.cell?_alloc_at _ _ _ _ (by simp)]; rfl) | (rw [World.cell?_alloc_past _ _ _ (by simp <;> omega), World.cell?_alloc_at _ _ _ _ (by simp)]; rfl) | (rw [World.cell?_alloc_past _ _ _ (by simp <;> omega), World.cell?_alloc_past _ _ _ (by simp <;> omega), World.cell?_alloc_at _ _ _ _ (by simp)]; rfl)
  have cc8 : (((w.alloc (.cells #[.int .i64 c.k0, .int .i64 c.k1, .int .i64 c.k2, .int .i64 c.a0, .int .i64 c.a1, .int .i64 c.a2, .slice c.ta c.tl c.tc, .int .i64 c.per, .int .i64 c.ret, .int .i64 c.age, .int .i64 c.dead] 25)).alloc (.cells #[.int .i64 a0, .int .i64 a1, .int .i64 a2] 22)).alloc (.cells #[.int .u16 l0, .int .u16 l1, .int .u16 l2] 52)).cell? ⟨w.heap.size, 8, none⟩ = some (.int .i64 c.ret) := by first | (simp; done) | (rw [World.cell?_alloc_at _ _ _ _ (by simp)]; rfl) | (rw [World.cell?_alloc_past _ _ _ (by simp <;> omega), World.cell?_alloc_at _ _ _ _ (by simp)]; rfl) | (rw [World.cell?_alloc_past _ _ _ (by simp <;> omega), World.cell?_alloc_past _ _ _ (by simp <;> omega), World.cell?_alloc_at _ _ _ _ (by simp)]; rfl)
  have cc9 : (((w.alloc (.cells #[.int .i64 c.k0, .int .i64 c.k1, .int .i64 c.k2, .int .i64 c.a0, .int .i64 c.a1, .int .i64 c.a2, .slice c.ta c.tl c.tc, .int .i64 c.per, .int .i64 c.ret, .int .i64 c.age, .int .i64 c.dead] 25)).alloc (.cells #[.int .i64 a0, .int .i64 a1, .int .i64 a2] 22)).alloc (.cells #[.int .u16 l0, .int .u16 l1, .int .u16 l2] 52)).cell? ⟨w.heap.size, 9, none⟩ = some (.int .i64 c.age) := by first | (simp; done) | (rw [World.cell?_alloc_at _ _ _ _ (by simp)]; rfl) | (rw [World.cell?_alloc_past _ _ _ (by simp <;> omega), World.cell?_alloc_at _ _ _ _ (by simp)]; rfl) | (rw [World.cell?_alloc_past _ _ _ (by simp <;> omega), World.cell?_alloc_past _ _ _ (by simp <;> omega), World.cell?_alloc_at _ _ _ _ (by simp)]; rfl)
  have cc10 : (((w.alloc (.cells #[.int .i64 c.k0, .int .i64 c.k1, .int .i64 c.k2, .int .i64 c.a0, .int .i64 c.a1, .int .i64 c.a2, .slice c.ta c.tl c.tc, .int .i64 c.per, .int .i64 c.ret, .int .i64 c.age, .int .i64 c.dead] 25)).alloc (.cells #[.int .i64 a0, .int .i64 a1, .int .i64 a2] 22)).alloc (.cells #[.int .u16 l0, .int .u16 l1, .int .u16 l2] 52)).cell? ⟨w.heap.size, 10, none⟩ = some (.int .i64 c.dead) := by first | (simp; done) | (rw [World.cell?_alloc_at _ _ _ _ (by simp)]; rfl) | (rw [World.cell?_alloc_past _ _ _ (by simp <;> omega), World.cell?_alloc_at _ _ _ _ (by simp)]; rfl) | (rw [World.cell?_alloc_past _ _ _ (by simp <;> omega), World.cell?_alloc_past _ _ _ (by simp <;> omega), World.cell?_alloc_at _ _ _ _ (by simp)]; rfl)
  have aa0 : (((w.alloc (.cells #[.int .i64 c.k0, .int .i64 c.k1, .int .i64 c.k2, .int .i64 c.a0, .int .i64 c.a1, .int .i64 c.a2, .slice c.ta c.tl c.tc, .int .i64 c.per, .int .i64 c.ret, .int .i64 c.age, .int .i64 c.dead] 25)).alloc (.cells #[.int .i64 a0, .int .i64 a1, .int .i64 a2] 22)).alloc (.cells #[.int .u16 l0, .int .u16 l1, .int .u16 l2] 52)).cell? ⟨w.heap.size + 1, 0, none⟩ = some (.int .i64 a0) := by first | (simp; done) | (rw [World.cell?_alloc_at _ _ _ _ (by simp)]; rfl) | (rw [World.cell?_alloc_past _ _ _ (by simp <;> omega), World.cell?_alloc_at _ _ _ _ (by simp)]; rfl) | (rw [World.cell?_alloc_past _ _ _ (by simp <;> omega), World.cell?_alloc_past _ _ _ (by simp <;> omega), World.cell?_alloc_at _ _ _ _ (by simp)]; rfl)
  have aa1 : (((w.alloc (.cells #[.int .i64 c.k0, .int .i64 c.k1, .int .i64 c.k2, .int .i64 c.a0, .int .i64 c.a1, .int .i64 c.a2, .slice c.ta c.tl c.tc, .int .i64 c.per, .int .i64 c.ret, .int .i64 c.age, .int .i64 c.dead] 25)).alloc (.cells #[.int .i64 a0, .int .i64 a1, .int .i64 a2] 22)).alloc (.cells #[.int .u16 l0, .int .u16 l1, .int .u16 l2] 52)).cell? ⟨w.heap.size + 1, 1, none⟩ = some (.int .i64 a1) := by first | (simp; done) | (rw [World.cell?_alloc_at _ _ _ _ (by simp)]; rfl) | (rw [World.cell?_alloc_past _ _ _ (by simp <;> omega), World.cell?_alloc_at _ _ _ _ (by simp)]; rfl) | (rw [World.cell?_alloc_past _ _ _ (by simp <;> omega), World.cell?_alloc_past _ _ _ (by simp <;> omega), World.cell?_alloc_at _ _ _ _ (by simp)]; rfl)
  have aa2 : (((w.alloc (.cells #[.int .i64 c.k0, .int .i64 c.k1, .int .i64 c.k2, .int .i64 c.a0, .int .i64 c.a1, .int .i64 c.a2, .slice c.ta c.tl c.tc, .int .i64 c.per, .int .i64 c.ret, .int .i64 c.age, .int .i64 c.dead] 25)).alloc (.cells #[.int .i64 a0, .int .i64 a1, .int .i64 a2] 22)).alloc (.cells #[.int .u16 l0, .int .u16 l1, .int .u16 l2] 52)).cell? ⟨w.heap.size + 1, 2, none⟩ = some (.int .i64 a2) := by first | (simp; done) | (rw [World.cell?_alloc_at _ _ _ _ (by simp)]; rfl) | (rw [World.cell?_alloc_past _ _ _ (by simp <;> omega), World.cell?_alloc_at _ _ _ _ (by simp)]; rfl) | (rw [World.cell?_alloc_past _ _ _ (by simp <;> omega), World.cell?_alloc_past _ _ _ (by simp <;> omega), World.cell?_alloc_at _ _ _ _ (by simp)]; rfl)
  have ll0 : (((w.alloc (.cells #[.int .i64 c.k0, .int .i64 c.k1, .int .i64 c.k2, .int .i64 c.a0, .int .i64 c.a1, .int .i64 c.a2, .slice c.ta c.tl c.tc, .int .i64 c.per, .int .i64 c.ret, .int .i64 c.age, .int .i64 c.dead] 25)).alloc (.cells #[.int .i64 a0, .int .i64 a1, .int .i64 a2] 22)).alloc (.cells #[.int .u16 l0, .int .u16 l1, .int .u16 l2] 52)).cell? ⟨w.heap.size + 2, 0, none⟩ = some (.int .u16 l0) := by first | (simp; done) | (rw [World.cell?_alloc_at _ _ _ _ (by simp)]; rfl) | (rw [World.cell?_alloc_past _ _ _ (by simp <;> omega), World.cell?_alloc_at _ _ _ _ (by simp)]; rfl) | (rw [World.cell?_alloc_past _ _ _ (by simp <;> omega), World.cell?_alloc_past _ _ _ (by simp <;> omega), World.cell?_alloc_at _ _ _ _ (by simp)]; rfl)
  have ll1 : (((w.alloc (.cells #[.int .i64 c.k0, .int .i64 c.k1, .int .i64 c.k2, .int .i64 c.a0, .int .i64 c.a1, .int .i64 c.a2, .slice c.ta c.tl c.tc, .int .i64 c.per, .int .i64 c.ret, .int .i64 c.age, .int .i64 c.dead] 25)).alloc (.cells #[.int .i64 a0, .int .i64 a1, .int .i64 a2] 22)).alloc (.cells #[.int .u16 l0, .int .u16 l1, .int .u16 l2] 52)).cell? ⟨w.heap.size + 2, 1, none⟩ = some (.int .u16 l1) := by first | (simp; done) | (rw [World.cell?_alloc_at _ _ _ _ (by simp)]; rfl) | (rw [World.cell?_alloc_past _ _ _ (by simp <;> omega), World.cell?_alloc_at _ _ _ _ (by simp)]; rfl) | (rw [World.cell?_alloc_past _ _ _ (by simp <;> omega), World.cell?_alloc_past _ _ _ (by simp <;> omega), World.cell?_alloc_at _ _ _ _ (by simp)]; rfl)
  have ll2 : (((w.alloc (.cells #[.int .i64 c.k0, .int .i64 c.k1, .int .i64 c.k2, .int .i64 c.a0, .int .i64 c.a1, .int .i64 c.a2, .slice c.ta c.tl c.tc, .int .i64 c.per, .int .i64 c.ret, .int .i64 c.age, .int .i64 c.dead] 25)).alloc (.cells #[.int .i64 a0, .int .i64 a1, .int .i64 a2] 22)).alloc (.cells #[.int .u16 l0, .int .u16 l1, .int .u16 l2] 52)).cell? ⟨w.heap.size + 2, 2, none⟩ = some (.int .u16 l2) := by first | (simp; done) | (rw [World.cell?_alloc_at _ _ _ _ (by simp)]; rfl) | (rw [World.cell?_alloc_past _ _ _ (by simp <;> omega), World.cell?_alloc_at _ _ _ _ (by simp)]; rfl) | (rw [World.cell?_alloc_past _ _ _ (by simp <;> omega), World.cell?_alloc_past _ _ _ (by simp <;> omega), World.cell?_alloc_at _ _ _ _ (by simp)]; rfl)
  have hb2 := (by repeat (first | exact hbel | refine belAlloc ?_ _ | refine belDrew ?_ | refine belSet ?_ _ _ (by simp)) : Below w.heap.size w (((w.alloc (.cells #[.int .i64 c.k0, .int .i64 c.k1, .int .i64 c.k2, .int .i64 c.a0, .int .i64 c.a1, .int .i64 c.a2, .slice c.ta c.tl c.tc, .int .i64 c.per, .int .i64 c.ret, .int .i64 c.age, .int .i64 c.dead] 25)).alloc (.cells #[.int .i64 a0, .int .i64 a1, .int .i64 a2] 22)).alloc (.cells #[.int .u16 l0, .int .u16 l1, .int .u16 l2] 52)))
  replace hw := belStep hw hb2
  clear hb2 hbel
  generalize ((w.alloc (.cells #[.int .i64 c.k0, .int .i64 c.k1, .int .i64 c.k2, .int .i64 c.a0, .int .i64 c.a1, .int .i64 c.a2, .slice c.ta c.tl c.tc, .int .i64 c.per, .int .i64 c.ret, .int .i64 c.age, .int .i64 c.dead] 25)).alloc (.cells #[.int .i64 a0, .int .i64 a1, .int .i64 a2] 22)).alloc (.cells #[.int .u16 l0, .int .u16 l1, .int .u16 l2] 52) = W1 at *
  replace cc0 := keep cc0
  replace cc1 := keep cc1
  replace cc2 := keep cc2
  replace cc3 := keep cc3
  replace cc4 := keep cc4
  replace cc5 := keep cc5
  replace cc6 := keep cc6
  replace cc7 := keep cc7
  replace cc8 := keep cc8
  replace cc9 := keep cc9
  replace cc10 := keep cc10
  replace aa0 := keep aa0
  replace aa1 := keep aa1
  replace aa2 := keep aa2
  replace ll0 := keep ll0
  replace ll1 := keep ll1
  replace ll2 := keep ll2
  have hbel : Below W1.heap.size W1 W1 := Below.refl _ _
  skip
  have HW := Lib.hid hw
  go_upto_region 3 with (first | (go_at_call 9; (with_reducible refine (awake18 _).mono ?_); rintro e w1 ⟨rfl, hb1⟩; replace hbel := belStep hbel hb1; clear hb1) | (go_at_call 10; (with_reducible refine (CF.out _ (belStep HW.out hbel)).mono ?_); rintro e w2 ⟨⟨b, rfl, hT⟩, hb2⟩; replace hbel := belStep hbel hb2; have HTT := Lib.hid hT; clear hb2 hT; rcases Bool.eq_false_or_eq_true b with rfl | rfl))
  rotate_left 1
  · go_wp2_with (first | (go_at_call 9; (with_reducible refine (awake18 _).mono ?_); rintro e w1 ⟨rfl, hb1⟩; replace hbel := belStep hbel hb1; clear hb1))
    go_ret
    exact ⟨rfl, belStep HW.out hbel⟩
  obtain ⟨hrc, hsl, hr00, hr01, hS0⟩ := HTT.out (by simp)
  subst hsl
  have HG := Lib.hid (show ∀ u, Below w.heap.size w u → Good c u from fun u hu => ⟨HC.out.later hu, hrc.few, hrc.right⟩)
  have hfew := hrc.few
  have HSR := Lib.hid (fun u (hu : Below w.heap.size w u) => HS.out.later hu)
  have HSL := Lib.hid HS.out.bounds.1
  have HLEN := Lib.hid HC.out.len
  have HSb := Lib.hid hS0
  have HRB := Lib.hid (And.intro hr00 hr01)
  clear HC HTT CF hrc hS0 hr00 hr01 HS
  replace cc0 := keepOnP cc0 hbel
  replace cc1 := keepOnP cc1 hbel
  replace cc2 := keepOnP cc2 hbel
  replace cc3 := keepOnP cc3 hbel
  replace cc4 := keepOnP cc4 hbel
  replace cc5 := keepOnP cc5 hbel
  replace cc6 := keepOnP cc6 hbel
  replace cc7 := keepOnP cc7 hbel
  replace cc8 := keepOnP cc8 hbel
  replace cc9 := keepOnP cc9 hbel
  replace cc10 := keepOnP cc10 hbel
  replace aa0 := keepOnP aa0 hbel
  replace aa1 := keepOnP aa1 hbel
  replace aa2 := keepOnP aa2 hbel
  replace ll0 := keepOnP ll0 hbel
  replace ll1 := keepOnP ll1 hbel
  replace ll2 := keepOnP ll2 hbel
  replace hw := belStep hw hbel
  clear hbel
  generalize w2 = W2 at *
  have hbel : Below W2.heap.size W2 W2 := Below.refl _ _
  have HW2 := Lib.hid hw
  clear HW hw
  go_wp2
  have HB1 := Lib.hid (belAlloc (Below.refl W2.heap.size W2) (.cells #[.int .i64 0, .int .i64 0, .int .i64 0] 22))
  have HK1 := Lib.hid (Blk.new W2 [.int .i64 0, .int .i64 0, .int .i64 0] 22)
  clear hbel
  go_loopw [12] (fun i wr => ((i = .int .i64 0 ∧ Blk wr W2.heap.size [.int .i64 0, .int .i64 0, .int .i64 0] 22) ∨ (i = .int .i64 1 ∧ Blk wr W2.heap.size [.int .i64 (a0 - l0), .int .i64 0, .int .i64 0] 22 ∧ -1000000 ≤ a0) ∨ (i = .int .i64 2 ∧ Blk wr W2.heap.size [.int .i64 (a0 - l0), .int .i64 (a1 - l1), .int .i64 0] 22 ∧ -1000000 ≤ a0 ∧ -1000000 ≤ a1) ∨ (i = .int .i64 3 ∧ Blk wr W2.heap.size [.int .i64 (a0 - l0), .int .i64 (a1 - l1), .int .i64 (a2 - l2)] 22 ∧ -1000000 ≤ a0 ∧ -1000000 ≤ a1 ∧ -1000000 ≤ a2)) ∧ Below W2.heap.size W2 wr) (fun i _ => 3 - (intOf i).toNat)
  case atStart => exact ⟨.inl ⟨rfl, HK1.out⟩, HB1.out⟩
  case round =>
    obtain ⟨hi, hbel⟩ := hrel
    have HB := Lib.hid hbel
    rcases hi with ⟨rfl, hb⟩ | ⟨rfl, hb, q0⟩ | ⟨rfl, hb, q0, q1⟩ | ⟨rfl, hb, q0, q1, q2⟩
    · by_cases g : a0 < -1000000
      · go_wp2
        go_ret
        exact ⟨rfl, belStep HW2.out hbel⟩
      · have hwl : wrap64 l0 = l0 := by unfold wrap64; omega
        have hwa : IntKind.i64.wrap (a0 - l0) = a0 - l0 := by unfold InI at hv0; simp only [IntKind.wrap_i64]; omega
        have hwb : wrap64 (a0 - l0) = a0 - l0 := by unfold InI at hv0; unfold wrap64; omega
        have gg : -1000000 ≤ a0 := by omega
        have m0 := hb.cell (j := 0) rfl
        have mf := hb.frozen 0
        have hlt := hb.lt
        have HK := Lib.hid hb
        have aK := keep (aa0 _ hbel)
        have lK := keep (ll0 _ hbel)
        clear hb hl0 hv0
        go_upto_region 9 with fail
        replace hbel := Below.refl wr.heap.size wr
        replace m0 := keep m0
        have mf2 : ∀ u, Below wr.heap.size wr u → u.frozen? ⟨W2.heap.size, 0, none⟩ = false := fun u hu => (Below.frozens hu _ _ hlt).trans mf
        clear mf aa0 ll0
        have kk := fun d os => belStep hbel (below_regrown _ d os)
        refine wp_region_below_tail 10 (by kernel_rfl) (by kernel_rfl) ?_
        simp only [List.take_succ_cons, List.take_zero, List.drop_succ_cons, List.drop_zero]
        repeat ((with_reducible refine wpQuiet_step (fun K hK => ?_)); go_simp; (try (rw [if_neg]; rotate_left; · decide)); first | ((with_reducible refine hK _ ?_); clear hK K) | (apply Exists.intro; refine ⟨fun _ => ?_, hK _ ?_⟩; (fail); clear hK K))
        refine wpQuiet_nil (fun w1 hw1 => ?_)
        replace hbel := belStep hbel (bel_of_class hw1)
        clear hw1 kk
        go_wp2
        go_roundw
        case rel => exact ⟨.inr (.inl ⟨rfl, (HK.out.later hbel).set 0 _, by omega⟩), (belStep HB.out hbel).setCell (Nat.le_refl _) _⟩
        case measure => simp [intOf]
    · by_cases g : a1 < -1000000
      · go_wp2
        go_ret
        exact ⟨rfl, belStep HW2.out hbel⟩
      · have hwl : wrap64 l1 = l1 := by unfold wrap64; omega
        have hwa : IntKind.i64.wrap (a1 - l1) = a1 - l1 := by unfold InI at hv1; simp only [IntKind.wrap_i64]; omega
        have hwb : wrap64 (a1 - l1) = a1 - l1 := by unfold InI at hv1; unfold wrap64; omega
        have gg : -1000000 ≤ a1 := by omega
        have m0 := hb.cell (j := 1) rfl
        have mf := hb.frozen 1
        have hlt := hb.lt
        have HK := Lib.hid hb
        have aK := keep (aa1 _ hbel)
        have lK := keep (ll1 _ hbel)
        clear hb hl1 hv1
        go_upto_region 9 with fail
        replace hbel := Below.refl wr.heap.size wr
        replace m0 := keep m0
        have mf2 : ∀ u, Below wr.heap.size wr u → u.frozen? ⟨W2.heap.size, 1, none⟩ = false := fun u hu => (Below.frozens hu _ _ hlt).trans mf
        clear mf aa1 ll1
        have kk := fun d os => belStep hbel (below_regrown _ d os)
        refine wp_region_below_tail 10 (by kernel_rfl) (by kernel_rfl) ?_
        simp only [List.take_succ_cons, List.take_zero, List.drop_succ_cons, List.drop_zero]
        repeat ((with_reducible refine wpQuiet_step (fun K hK => ?_)); go_simp; (try (rw [if_neg]; rotate_left; · decide)); first | ((with_reducible refine hK _ ?_); clear hK K) | (apply Exists.intro; refine ⟨fun _ => ?_, hK _ ?_⟩; (fail); clear hK K))
        refine wpQuiet_nil (fun w1 hw1 => ?_)
        replace hbel := belStep hbel (bel_of_class hw1)
        clear hw1 kk
        go_wp2
        go_roundw
        case rel => exact ⟨.inr (.inr (.inl ⟨rfl, (HK.out.later hbel).set 1 _, q0, by omega⟩)), (belStep HB.out hbel).setCell (Nat.le_refl _) _⟩
        case measure => simp [intOf]
    · by_cases g : a2 < -1000000
      · go_wp2
        go_ret
        exact ⟨rfl, belStep HW2.out hbel⟩
      · have hwl : wrap64 l2 = l2 := by unfold wrap64; omega
        have hwa : IntKind.i64.wrap (a2 - l2) = a2 - l2 := by unfold InI at hv2; simp only [IntKind.wrap_i64]; omega
        have hwb : wrap64 (a2 - l2) = a2 - l2 := by unfold InI at hv2; unfold wrap64; omega
        have gg : -1000000 ≤ a2 := by omega
        have m0 := hb.cell (j := 2) rfl
        have mf := hb.frozen 2
        have hlt := hb.lt
        have HK := Lib.hid hb
        have aK := keep (aa2 _ hbel)
        have lK := keep (ll2 _ hbel)
        clear hb hl2 hv2
        go_upto_region 9 with fail
        replace hbel := Below.refl wr.heap.size wr
        replace m0 := keep m0
        have mf2 : ∀ u, Below wr.heap.size wr u → u.frozen? ⟨W2.heap.size, 2, none⟩ = false := fun u hu => (Below.frozens hu _ _ hlt).trans mf
        clear mf aa2 ll2
        have kk := fun d os => belStep hbel (below_regrown _ d os)
        refine wp_region_below_tail 10 (by kernel_rfl) (by kernel_rfl) ?_
        simp only [List.take_succ_cons, List.take_zero, List.drop_succ_cons, List.drop_zero]
        repeat ((with_reducible refine wpQuiet_step (fun K hK => ?_)); go_simp; (try (rw [if_neg]; rotate_left; · decide)); first | ((with_reducible refine hK _ ?_); clear hK K) | (apply Exists.intro; refine ⟨fun _ => ?_, hK _ ?_⟩; (fail); clear hK K))
        refine wpQuiet_nil (fun w1 hw1 => ?_)
        replace hbel := belStep hbel (bel_of_class hw1)
        clear hw1 kk
        go_wp2
        go_roundw
        case rel => exact ⟨.inr (.inr (.inr ⟨rfl, (HK.out.later hbel).set 2 _, q0, q1, by omega⟩)), (belStep HB.out hbel).setCell (Nat.le_refl _) _⟩
        case measure => simp [intOf]
    · have HBB := Lib.hid (show InI (a0 - l0) ∧ InI (a1 - l1) ∧ InI (a2 - l2) by unfold InI at *; omega)
      have HVV := Lib.hid (show InI a0 ∧ InI a1 ∧ InI a2 from ⟨hv0, hv1, hv2⟩)
      have HLE := Lib.hid (show a0 - l0 ≤ a0 ∧ a1 - l1 ≤ a1 ∧ a2 - l2 ≤ a2 by omega)
      have bb0 : ∀ u, Below wr.heap.size wr u → u.cell? ⟨W2.heap.size, 0, none⟩ = some (.int .i64 (a0 - l0)) := keep (hb.cell (j := 0) rfl)
      have bb1 : ∀ u, Below wr.heap.size wr u → u.cell? ⟨W2.heap.size, 1, none⟩ = some (.int .i64 (a1 - l1)) := keep (hb.cell (j := 1) rfl)
      have bb2 : ∀ u, Below wr.heap.size wr u → u.cell? ⟨W2.heap.size, 2, none⟩ = some (.int .i64 (a2 - l2)) := keep (hb.cell (j := 2) rfl)
      have hw := HW2.out
      clear hb q0 q1 q2 hl0 hl1 hl2 hv0 hv1 hv2 HK1 HB1
      generalize a0 - l0 = b0 at *
      generalize a1 - l1 = b1 at *
      generalize a2 - l2 = b2 at *
      generalize W2.heap.size = MB at bb0 bb1 bb2 ⊢
      clear ll0 ll1 ll2
      replace hw := belStep hw hbel
      replace cc0 := keepOnP cc0 hbel
      replace cc1 := keepOnP cc1 hbel
      replace cc2 := keepOnP cc2 hbel
      replace cc3 := keepOnP cc3 hbel
      replace cc4 := keepOnP cc4 hbel
      replace cc5 := keepOnP cc5 hbel
      replace cc6 := keepOnP cc6 hbel
      replace cc7 := keepOnP cc7 hbel
      replace cc8 := keepOnP cc8 hbel
      replace cc9 := keepOnP cc9 hbel
      replace cc10 := keepOnP cc10 hbel
      replace aa0 := keepOnP aa0 hbel
      replace aa1 := keepOnP aa1 hbel
      replace aa2 := keepOnP aa2 hbel
      have HW3 := Lib.hid hw
      clear hw hbel HB HW2
      generalize wr = W3 at *
      have hbel : Below W3.heap.size W3 W3 := Below.refl _ _
      have SA := Lib.hid (fun u (hu : Below W3.heap.size W3 u) => gr_Step c sa sc S a0 a1 a2 r u (HG.out u (belStep HW3.out hu)) HVV.out (HSR.out u (belStep HW3.out hu)))
      have SB := Lib.hid (fun u (hu : Below W3.heap.size W3 u) => gr_Step c sa sc S b0 b1 b2 r u (HG.out u (belStep HW3.out hu)) HBB.out (HSR.out u (belStep HW3.out hu)))
      have MA := Lib.hid (fun u (hu : Below W3.heap.size W3 u) => gr_Met c a0 a1 a2 u (HG.out u (belStep HW3.out hu)) HVV.out)
      have MB' := Lib.hid (fun u (hu : Below W3.heap.size W3 u) => gr_Met c b0 b1 b2 u (HG.out u (belStep HW3.out hu)) HBB.out)
      have hst : ∀ x0 x1 x2 k, k < c.tl → -1 ≤ el (stepL c S x0 x1 x2 r) k ∧ el (stepL c S x0 x1 x2 r) k ≤ r := fun x0 x1 x2 k hk => by
        obtain ⟨t, hti⟩ : ∃ t, c.L[k]? = some t := ⟨_, List.getElem?_eq_getElem (by rw [HLEN.out]; exact hk)⟩
        have h1 := stepL_get (v0 := x0) (v1 := x1) (v2 := x2) (r := r) (S := S) hti (by rw [HSL.out]; exact hk)
        have h2 : el (stepL c S x0 x1 x2 r) k = stepE (met3 c t x0 x1 x2) (el S k) r := by unfold el; rw [List.getD_eq_getElem?_getD, h1]; rfl
        rw [h2]
        have h3 := HSb.out k hk
        have h4 := HRB.out
        unfold stepE
        split
        · split <;> omega
        · omega
      have HST := Lib.hid hst
      have HTA := Lib.hid (fun x0 x1 x2 g u (hu : Below W3.heap.size W3 u) (hI : Ints .i64 u (some ⟨g, 0, none⟩) c.tl c.tl (stepL c S x0 x1 x2 r)) => gr_Hold c (some ⟨g, 0, none⟩) c.tl (stepL c S x0 x1 x2 r) r u (HG.out u (belStep HW3.out hu)) hI (by have := HRB.out; omega) (fun k hk => by have := HST.out x0 x1 x2 k hk; have := HRB.out; omega))
      have HA := Lib.hid (fun g u (hu : Below W3.heap.size W3 u) hI => HTA.out a0 a1 a2 g u hu hI)
      have HBh := Lib.hid (fun g u (hu : Below W3.heap.size W3 u) hI => HTA.out b0 b1 b2 g u hu hI)
      have HLS := Lib.hid (show ∀ x0 x1 x2, (stepL c S x0 x1 x2 r).length = c.tl from fun x0 x1 x2 => by rw [stepL_len (by rw [HSL.out, HLEN.out]), HLEN.out])
      have hwf : ∀ x0 x1 x2, ∀ x ∈ stepL c S x0 x1 x2 r, (Lit.int .i64 x).wf = true := fun x0 x1 x2 x hx => by
        obtain ⟨k, hk, e⟩ := List.getElem_of_mem hx
        have h1 := HST.out x0 x1 x2 k (by rw [← HLS.out x0 x1 x2]; exact hk)
        have h2 : el (stepL c S x0 x1 x2 r) k = x := by unfold el; rw [List.getD_eq_getElem?_getD, List.getElem?_eq_getElem hk, e]; rfl
        rw [h2] at h1
        have := HRB.out
        exact wfI64 (by omega) (by omega)
      have WFA := Lib.hid (hwf a0 a1 a2)
      have WFB := Lib.hid (hwf b0 b1 b2)
      clear hst hwf HTA
      have hw : Below W3.heap.size W3 W3 := Below.refl _ _
      go_upto_region 10 with fail
      refine wp_region_held_drew (S := (fun w' => w'.cell? ⟨w.heap.size, 0, none⟩ = some (.int .i64 c.k0) ∧ w'.cell? ⟨w.heap.size, 1, none⟩ = some (.int .i64 c.k1) ∧ w'.cell? ⟨w.heap.size, 2, none⟩ = some (.int .i64 c.k2) ∧ w'.cell? ⟨w.heap.size, 3, none⟩ = some (.int .i64 c.a0) ∧ w'.cell? ⟨w.heap.size, 4, none⟩ = some (.int .i64 c.a1) ∧ w'.cell? ⟨w.heap.size, 5, none⟩ = some (.int .i64 c.a2) ∧ w'.cell? ⟨w.heap.size, 6, none⟩ = some (.slice c.ta c.tl c.tc) ∧ w'.cell? ⟨w.heap.size, 7, none⟩ = some (.int .i64 c.per) ∧ w'.cell? ⟨w.heap.size, 8, none⟩ = some (.int .i64 c.ret) ∧ w'.cell? ⟨w.heap.size, 9, none⟩ = some (.int .i64 c.age) ∧ w'.cell? ⟨w.heap.size, 10, none⟩ = some (.int .i64 c.dead) ∧ w'.cell? ⟨w.heap.size + 1, 0, none⟩ = some (.int .i64 a0) ∧ w'.cell? ⟨w.heap.size + 1, 1, none⟩ = some (.int .i64 a1) ∧ w'.cell? ⟨w.heap.size + 1, 2, none⟩ = some (.int .i64 a2))) (by kernel_rfl) (by exact ⟨cc0 _ (by repeat (first | assumption | exact Below.refl _ _ | refine belDrew ?_ | refine belStep ?_ (by assumption))), cc1 _ (by repeat (first | assumption | exact Below.refl _ _ | refine belDrew ?_ | refine belStep ?_ (by assumption))), cc2 _ (by repeat (first | assumption | exact Below.refl _ _ | refine belDrew ?_ | refine belStep ?_ (by assumption))), cc3 _ (by repeat (first | assumption | exact Below.refl _ _ | refine belDrew ?_ | refine belStep ?_ (by assumption))), cc4 _ (by repeat (first | assumption | exact Below.refl _ _ | refine belDrew ?_ | refine belStep ?_ (by assumption))), cc5 _ (by repeat (first | assumption | exact Below.refl _ _ | refine belDrew ?_ | refine belStep ?_ (by assumption))), cc6 _ (by repeat (first | assumption | exact Below.refl _ _ | refine belDrew ?_ | refine belStep ?_ (by assumption))), cc7 _ (by repeat (first | assumption | exact Below.refl _ _ | refine belDrew ?_ | refine belStep ?_ (by assumption))), cc8 _ (by repeat (first | assumption | exact Below.refl _ _ | refine belDrew ?_ | refine belStep ?_ (by assumption))), cc9 _ (by repeat (first | assumption | exact Below.refl _ _ | refine belDrew ?_ | refine belStep ?_ (by assumption))), cc10 _ (by repeat (first | assumption | exact Below.refl _ _ | refine belDrew ?_ | refine belStep ?_ (by assumption))), aa0 _ (by repeat (first | assumption | exact Below.refl _ _ | refine belDrew ?_ | refine belStep ?_ (by assumption))), aa1 _ (by repeat (first | assumption | exact Below.refl _ _ | refine belDrew ?_ | refine belStep ?_ (by assumption))), aa2 _ (by repeat (first | assumption | exact Below.refl _ _ | refine belDrew ?_ | refine belStep ?_ (by assumption)))⟩) (fun hHeld => ?_)
      refine wpAnyH_take (i := 0) (oi := ?oi_1) (v := ?v_1) ?hi_1 (by kernel_rfl) ?hf_1 ?hr_1 ?hQ_1 (Or.inl ⟨?hw_1, ?hy_1⟩) (by assumption) ?rest_1
      case hi_1 => ((simp only [List.getElem?_toArray, List.getElem?_cons_succ, List.getElem?_cons_zero]); rfl)
      case hf_1 => kernel_rfl
      case hr_1 => kernel_rfl
      case hQ_1 => exact fun _ _ _ h => h
      case hw_1 => rfl
      case hy_1 => ((intro w hSw; (try dsimp only at hSw); go_simp); all_goals (with_reducible rfl))
      try simp only [Act.put, List.setIfInBounds_toArray, List.set_cons_zero, List.set_cons_succ]
      refine wpAnyH_take (i := 1) (oi := ?oi_2) (v := ?v_2) ?hi_2 (by kernel_rfl) ?hf_2 ?hr_2 ?hQ_2 (Or.inl ⟨?hw_2, ?hy_2⟩) (by assumption) ?rest_2
      case hi_2 => ((simp only [List.getElem?_toArray, List.getElem?_cons_succ, List.getElem?_cons_zero]); rfl)
      case hf_2 => kernel_rfl
      case hr_2 => kernel_rfl
      case hQ_2 => exact fun _ _ _ h => h
      case hw_2 => rfl
      case hy_2 => ((intro w hSw; (try dsimp only at hSw); go_simp); all_goals (with_reducible rfl))
      try simp only [Act.put, List.setIfInBounds_toArray, List.set_cons_zero, List.set_cons_succ]
      refine wpAnyH_take (i := 2) (oi := ?oi_3) (v := ?v_3) ?hi_3 (by kernel_rfl) ?hf_3 ?hr_3 ?hQ_3 (Or.inl ⟨?hw_3, ?hy_3⟩) (by assumption) ?rest_3
      case hi_3 => ((simp only [List.getElem?_toArray, List.getElem?_cons_succ, List.getElem?_cons_zero]); rfl)
      case hf_3 => kernel_rfl
      case hr_3 => kernel_rfl
      case hQ_3 => exact fun _ _ _ h => h
      case hw_3 => rfl
      case hy_3 => ((intro w hSw; (try dsimp only at hSw); go_simp); all_goals (with_reducible rfl))
      try simp only [Act.put, List.setIfInBounds_toArray, List.set_cons_zero, List.set_cons_succ]
      refine wpAnyH_take (i := 3) (oi := ?oi_4) (v := ?v_4) ?hi_4 (by kernel_rfl) ?hf_4 ?hr_4 ?hQ_4 (Or.inl ⟨?hw_4, ?hy_4⟩) (by assumption) ?rest_4
      case hi_4 => ((simp only [List.getElem?_toArray, List.getElem?_cons_succ, List.getElem?_cons_zero]); rfl)
      case hf_4 => kernel_rfl
      case hr_4 => kernel_rfl
      case hQ_4 => exact fun _ _ _ h => h
      case hw_4 => rfl
      case hy_4 => ((intro w hSw; (try dsimp only at hSw); go_simp); all_goals (with_reducible rfl))
      try simp only [Act.put, List.setIfInBounds_toArray, List.set_cons_zero, List.set_cons_succ]
      refine wpAnyH_take (i := 4) (oi := ?oi_5) (v := ?v_5) ?hi_5 (by kernel_rfl) ?hf_5 ?hr_5 ?hQ_5 (Or.inl ⟨?hw_5, ?hy_5⟩) (by assumption) ?rest_5
      case hi_5 => ((simp only [List.getElem?_toArray, List.getElem?_cons_succ, List.getElem?_cons_zero]); rfl)
      case hf_5 => kernel_rfl
      case hr_5 => kernel_rfl
      case hQ_5 => exact fun _ _ _ h => h
      case hw_5 => rfl
      case hy_5 => ((intro w hSw; (try dsimp only at hSw); go_simp); all_goals (with_reducible rfl))
      try simp only [Act.put, List.setIfInBounds_toArray, List.set_cons_zero, List.set_cons_succ]
      refine wpAnyH_take (i := 6) (oi := ?oi_6) (v := ?v_6) ?hi_6 (by kernel_rfl) ?hf_6 ?hr_6 ?hQ_6 (Or.inl ⟨?hw_6, ?hy_6⟩) (by assumption) ?rest_6
      case hi_6 => ((simp only [List.getElem?_toArray, List.getElem?_cons_succ, List.getElem?_cons_zero]); rfl)
      case hf_6 => kernel_rfl
      case hr_6 => kernel_rfl
      case hQ_6 => exact fun _ _ _ h => h
      case hw_6 => rfl
      case hy_6 => ((intro w hSw; (try dsimp only at hSw); go_simp); all_goals (with_reducible rfl))
      try simp only [Act.put, List.setIfInBounds_toArray, List.set_cons_zero, List.set_cons_succ]
      refine wpAnyH_ready (rs := [5]) (by kernel_rfl) (by simp) ?_
      refine AllReadyH.cons (o := ?o1_7) ?hi_7 (fun K hK => ?rest_7) AllReadyH.nil
      case hi_7 => ((simp only [List.getElem?_toArray, List.getElem?_cons_succ, List.getElem?_cons_zero]); rfl)
      go_simp
      (first | (go_at_call 11; (with_reducible refine (SA.out _ ((by repeat (first | assumption | exact Below.refl _ _ | refine belDrew ?_ | refine belStep ?_ (by assumption))))).mono ?_); rintro e w5 ⟨g5, rfl, ho5, hg5, hb5⟩; have HS5 := Lib.hid (ints_ownG ho5 WFA.out); have hbel5 := belStep (show Below W3.heap.size W3 _ from (by repeat (first | assumption | exact Below.refl _ _ | refine belDrew ?_ | refine belStep ?_ (by assumption)))) hb5; clear ho5 hg5 hb5) | (go_at_call 19; (with_reducible refine (HA.out _ _ (hbel5) HS5.out).mono ?_); rintro e w6 ⟨gx, rfl, ho6, hg6, hb6⟩; have Hgx := Lib.hid ho6; replace hbel5 := belStep hbel5 hb6; clear ho6 hg6 hb6))
      try go_simp
      refine hK.out _ _ (by exact ⟨cc0 _ (by repeat (first | assumption | exact Below.refl _ _ | refine belDrew ?_ | refine belStep ?_ (by assumption))), cc1 _ (by repeat (first | assumption | exact Below.refl _ _ | refine belDrew ?_ | refine belStep ?_ (by assumption))), cc2 _ (by repeat (first | assumption | exact Below.refl _ _ | refine belDrew ?_ | refine belStep ?_ (by assumption))), cc3 _ (by repeat (first | assumption | exact Below.refl _ _ | refine belDrew ?_ | refine belStep ?_ (by assumption))), cc4 _ (by repeat (first | assumption | exact Below.refl _ _ | refine belDrew ?_ | refine belStep ?_ (by assumption))), cc5 _ (by repeat (first | assumption | exact Below.refl _ _ | refine belDrew ?_ | refine belStep ?_ (by assumption))), cc6 _ (by repeat (first | assumption | exact Below.refl _ _ | refine belDrew ?_ | refine belStep ?_ (by assumption))), cc7 _ (by repeat (first | assumption | exact Below.refl _ _ | refine belDrew ?_ | refine belStep ?_ (by assumption))), cc8 _ (by repeat (first | assumption | exact Below.refl _ _ | refine belDrew ?_ | refine belStep ?_ (by assumption))), cc9 _ (by repeat (first | assumption | exact Below.refl _ _ | refine belDrew ?_ | refine belStep ?_ (by assumption))), cc10 _ (by repeat (first | assumption | exact Below.refl _ _ | refine belDrew ?_ | refine belStep ?_ (by assumption))), aa0 _ (by repeat (first | assumption | exact Below.refl _ _ | refine belDrew ?_ | refine belStep ?_ (by assumption))), aa1 _ (by repeat (first | assumption | exact Below.refl _ _ | refine belDrew ?_ | refine belStep ?_ (by assumption))), aa2 _ (by repeat (first | assumption | exact Below.refl _ _ | refine belDrew ?_ | refine belStep ?_ (by assumption)))⟩) (fun hHeld => ?_)
      clear hK K
      try simp only [Act.put, List.setIfInBounds_toArray, List.set_cons_zero, List.set_cons_succ]
      refine wpAnyH_ready (rs := [7]) (by kernel_rfl) (by simp) ?_
      refine AllReadyH.cons (o := ?o1_8) ?hi_8 (fun K hK => ?rest_8) AllReadyH.nil
      case hi_8 => ((simp only [List.getElem?_toArray, List.getElem?_cons_succ, List.getElem?_cons_zero]); rfl)
      go_simp
      (first | (go_at_call 11; (with_reducible refine (SA.out _ ((by repeat (first | assumption | exact Below.refl _ _ | refine belDrew ?_ | refine belStep ?_ (by assumption))))).mono ?_); rintro e w5 ⟨g5, rfl, ho5, hg5, hb5⟩; have HS5 := Lib.hid (ints_ownG ho5 WFA.out); have hbel5 := belStep (show Below W3.heap.size W3 _ from (by repeat (first | assumption | exact Below.refl _ _ | refine belDrew ?_ | refine belStep ?_ (by assumption)))) hb5; clear ho5 hg5 hb5) | (go_at_call 19; (with_reducible refine (HA.out _ _ (hbel5) HS5.out).mono ?_); rintro e w6 ⟨gx, rfl, ho6, hg6, hb6⟩; have Hgx := Lib.hid ho6; replace hbel5 := belStep hbel5 hb6; clear ho6 hg6 hb6))
      try go_simp
      refine hK.out _ _ (by exact ⟨cc0 _ (by repeat (first | assumption | exact Below.refl _ _ | refine belDrew ?_ | refine belStep ?_ (by assumption))), cc1 _ (by repeat (first | assumption | exact Below.refl _ _ | refine belDrew ?_ | refine belStep ?_ (by assumption))), cc2 _ (by repeat (first | assumption | exact Below.refl _ _ | refine belDrew ?_ | refine belStep ?_ (by assumption))), cc3 _ (by repeat (first | assumption | exact Below.refl _ _ | refine belDrew ?_ | refine belStep ?_ (by assumption))), cc4 _ (by repeat (first | assumption | exact Below.refl _ _ | refine belDrew ?_ | refine belStep ?_ (by assumption))), cc5 _ (by repeat (first | assumption | exact Below.refl _ _ | refine belDrew ?_ | refine belStep ?_ (by assumption))), cc6 _ (by repeat (first | assumption | exact Below.refl _ _ | refine belDrew ?_ | refine belStep ?_ (by assumption))), cc7 _ (by repeat (first | assumption | exact Below.refl _ _ | refine belDrew ?_ | refine belStep ?_ (by assumption))), cc8 _ (by repeat (first | assumption | exact Below.refl _ _ | refine belDrew ?_ | refine belStep ?_ (by assumption))), cc9 _ (by repeat (first | assumption | exact Below.refl _ _ | refine belDrew ?_ | refine belStep ?_ (by assumption))), cc10 _ (by repeat (first | assumption | exact Below.refl _ _ | refine belDrew ?_ | refine belStep ?_ (by assumption))), aa0 _ (by repeat (first | assumption | exact Below.refl _ _ | refine belDrew ?_ | refine belStep ?_ (by assumption))), aa1 _ (by repeat (first | assumption | exact Below.refl _ _ | refine belDrew ?_ | refine belStep ?_ (by assumption))), aa2 _ (by repeat (first | assumption | exact Below.refl _ _ | refine belDrew ?_ | refine belStep ?_ (by assumption)))⟩) (fun hHeld => ?_)
      clear hK K
      try simp only [Act.put, List.setIfInBounds_toArray, List.set_cons_zero, List.set_cons_succ]
      refine wpAnyH_ready (rs := [8]) (by kernel_rfl) (by simp) ?_
      refine AllReadyH.cons (o := ?o1_9) ?hi_9 (fun K hK => ?rest_9) AllReadyH.nil
      case hi_9 => ((simp only [List.getElem?_toArray, List.getElem?_cons_succ, List.getElem?_cons_zero]); rfl)
      go_simp
      refine hK.out _ _ (by exact ⟨cc0 _ (by repeat (first | assumption | exact Below.refl _ _ | refine belDrew ?_ | refine belStep ?_ (by assumption))), cc1 _ (by repeat (first | assumption | exact Below.refl _ _ | refine belDrew ?_ | refine belStep ?_ (by assumption))), cc2 _ (by repeat (first | assumption | exact Below.refl _ _ | refine belDrew ?_ | refine belStep ?_ (by assumption))), cc3 _ (by repeat (first | assumption | exact Below.refl _ _ | refine belDrew ?_ | refine belStep ?_ (by assumption))), cc4 _ (by repeat (first | assumption | exact Below.refl _ _ | refine belDrew ?_ | refine belStep ?_ (by assumption))), cc5 _ (by repeat (first | assumption | exact Below.refl _ _ | refine belDrew ?_ | refine belStep ?_ (by assumption))), cc6 _ (by repeat (first | assumption | exact Below.refl _ _ | refine belDrew ?_ | refine belStep ?_ (by assumption))), cc7 _ (by repeat (first | assumption | exact Below.refl _ _ | refine belDrew ?_ | refine belStep ?_ (by assumption))), cc8 _ (by repeat (first | assumption | exact Below.refl _ _ | refine belDrew ?_ | refine belStep ?_ (by assumption))), cc9 _ (by repeat (first | assumption | exact Below.refl _ _ | refine belDrew ?_ | refine belStep ?_ (by assumption))), cc10 _ (by repeat (first | assumption | exact Below.refl _ _ | refine belDrew ?_ | refine belStep ?_ (by assumption))), aa0 _ (by repeat (first | assumption | exact Below.refl _ _ | refine belDrew ?_ | refine belStep ?_ (by assumption))), aa1 _ (by repeat (first | assumption | exact Below.refl _ _ | refine belDrew ?_ | refine belStep ?_ (by assumption))), aa2 _ (by repeat (first | assumption | exact Below.refl _ _ | refine belDrew ?_ | refine belStep ?_ (by assumption)))⟩) (fun hHeld => ?_)
      clear hK K
      try simp only [Act.put, List.setIfInBounds_toArray, List.set_cons_zero, List.set_cons_succ]
      refine wpAnyH_done (by kernel_rfl) ?_ _
      go_upto_region 11 with fail
      replace hbel := hbel5
      clear HS5 hbel5 hHeld
      replace cc0 := keepOnP cc0 hbel
      replace cc1 := keepOnP cc1 hbel
      replace cc2 := keepOnP cc2 hbel
      replace cc3 := keepOnP cc3 hbel
      replace cc4 := keepOnP cc4 hbel
      replace cc5 := keepOnP cc5 hbel
      replace cc6 := keepOnP cc6 hbel
      replace cc7 := keepOnP cc7 hbel
      replace cc8 := keepOnP cc8 hbel
      replace cc9 := keepOnP cc9 hbel
      replace cc10 := keepOnP cc10 hbel
      replace aa0 := keepOnP aa0 hbel
      replace aa1 := keepOnP aa1 hbel
      replace aa2 := keepOnP aa2 hbel
      replace bb0 := keepOnP bb0 hbel
      replace bb1 := keepOnP bb1 hbel
      replace bb2 := keepOnP bb2 hbel
      replace hw := belStep hw hbel
      clear hbel
      generalize w6 = W5 at *
      have hbel : Below W5.heap.size W5 W5 := Below.refl _ _
      have HW5 := Lib.hid hw
      clear hw
      have hw : Below W5.heap.size W5 W5 := Below.refl _ _
      refine wp_region_held_drew (S := (fun w' => w'.cell? ⟨w.heap.size, 0, none⟩ = some (.int .i64 c.k0) ∧ w'.cell? ⟨w.heap.size, 1, none⟩ = some (.int .i64 c.k1) ∧ w'.cell? ⟨w.heap.size, 2, none⟩ = some (.int .i64 c.k2) ∧ w'.cell? ⟨w.heap.size, 3, none⟩ = some (.int .i64 c.a0) ∧ w'.cell? ⟨w.heap.size, 4, none⟩ = some (.int .i64 c.a1) ∧ w'.cell? ⟨w.heap.size, 5, none⟩ = some (.int .i64 c.a2) ∧ w'.cell? ⟨w.heap.size, 6, none⟩ = some (.slice c.ta c.tl c.tc) ∧ w'.cell? ⟨w.heap.size, 7, none⟩ = some (.int .i64 c.per) ∧ w'.cell? ⟨w.heap.size, 8, none⟩ = some (.int .i64 c.ret) ∧ w'.cell? ⟨w.heap.size, 9, none⟩ = some (.int .i64 c.age) ∧ w'.cell? ⟨w.heap.size, 10, none⟩ = some (.int .i64 c.dead) ∧ w'.cell? ⟨MB, 0, none⟩ = some (.int .i64 b0) ∧ w'.cell? ⟨MB, 1, none⟩ = some (.int .i64 b1) ∧ w'.cell? ⟨MB, 2, none⟩ = some (.int .i64 b2))) (by kernel_rfl) (by exact ⟨cc0 _ (by repeat (first | assumption | exact Below.refl _ _ | refine belDrew ?_ | refine belStep ?_ (by assumption))), cc1 _ (by repeat (first | assumption | exact Below.refl _ _ | refine belDrew ?_ | refine belStep ?_ (by assumption))), cc2 _ (by repeat (first | assumption | exact Below.refl _ _ | refine belDrew ?_ | refine belStep ?_ (by assumption))), cc3 _ (by repeat (first | assumption | exact Below.refl _ _ | refine belDrew ?_ | refine belStep ?_ (by assumption))), cc4 _ (by repeat (first | assumption | exact Below.refl _ _ | refine belDrew ?_ | refine belStep ?_ (by assumption))), cc5 _ (by repeat (first | assumption | exact Below.refl _ _ | refine belDrew ?_ | refine belStep ?_ (by assumption))), cc6 _ (by repeat (first | assumption | exact Below.refl _ _ | refine belDrew ?_ | refine belStep ?_ (by assumption))), cc7 _ (by repeat (first | assumption | exact Below.refl _ _ | refine belDrew ?_ | refine belStep ?_ (by assumption))), cc8 _ (by repeat (first | assumption | exact Below.refl _ _ | refine belDrew ?_ | refine belStep ?_ (by assumption))), cc9 _ (by repeat (first | assumption | exact Below.refl _ _ | refine belDrew ?_ | refine belStep ?_ (by assumption))), cc10 _ (by repeat (first | assumption | exact Below.refl _ _ | refine belDrew ?_ | refine belStep ?_ (by assumption))), bb0 _ (by repeat (first | assumption | exact Below.refl _ _ | refine belDrew ?_ | refine belStep ?_ (by assumption))), bb1 _ (by repeat (first | assumption | exact Below.refl _ _ | refine belDrew ?_ | refine belStep ?_ (by assumption))), bb2 _ (by repeat (first | assumption | exact Below.refl _ _ | refine belDrew ?_ | refine belStep ?_ (by assumption)))⟩) (fun hHeld => ?_)
      refine wpAnyH_take (i := 0) (oi := ?oi_10) (v := ?v_10) ?hi_10 (by kernel_rfl) ?hf_10 ?hr_10 ?hQ_10 (Or.inl ⟨?hw_10, ?hy_10⟩) (by assumption) ?rest_10
      case hi_10 => ((simp only [List.getElem?_toArray, List.getElem?_cons_succ, List.getElem?_cons_zero]); rfl)
      case hf_10 => kernel_rfl
      case hr_10 => kernel_rfl
      case hQ_10 => exact fun _ _ _ h => h
      case hw_10 => rfl
      case hy_10 => ((intro w hSw; (try dsimp only at hSw); go_simp); all_goals (with_reducible rfl))
      try simp only [Act.put, List.setIfInBounds_toArray, List.set_cons_zero, List.set_cons_succ]
      refine wpAnyH_take (i := 1) (oi := ?oi_11) (v := ?v_11) ?hi_11 (by kernel_rfl) ?hf_11 ?hr_11 ?hQ_11 (Or.inl ⟨?hw_11, ?hy_11⟩) (by assumption) ?rest_11
      case hi_11 => ((simp only [List.getElem?_toArray, List.getElem?_cons_succ, List.getElem?_cons_zero]); rfl)
      case hf_11 => kernel_rfl
      case hr_11 => kernel_rfl
      case hQ_11 => exact fun _ _ _ h => h
      case hw_11 => rfl
      case hy_11 => ((intro w hSw; (try dsimp only at hSw); go_simp); all_goals (with_reducible rfl))
      try simp only [Act.put, List.setIfInBounds_toArray, List.set_cons_zero, List.set_cons_succ]
      refine wpAnyH_take (i := 2) (oi := ?oi_12) (v := ?v_12) ?hi_12 (by kernel_rfl) ?hf_12 ?hr_12 ?hQ_12 (Or.inl ⟨?hw_12, ?hy_12⟩) (by assumption) ?rest_12
      case hi_12 => ((simp only [List.getElem?_toArray, List.getElem?_cons_succ, List.getElem?_cons_zero]); rfl)
      case hf_12 => kernel_rfl
      case hr_12 => kernel_rfl
      case hQ_12 => exact fun _ _ _ h => h
      case hw_12 => rfl
      case hy_12 => ((intro w hSw; (try dsimp only at hSw); go_simp); all_goals (with_reducible rfl))
      try simp only [Act.put, List.setIfInBounds_toArray, List.set_cons_zero, List.set_cons_succ]
      refine wpAnyH_take (i := 3) (oi := ?oi_13) (v := ?v_13) ?hi_13 (by kernel_rfl) ?hf_13 ?hr_13 ?hQ_13 (Or.inl ⟨?hw_13, ?hy_13⟩) (by assumption) ?rest_13
      case hi_13 => ((simp only [List.getElem?_toArray, List.getElem?_cons_succ, List.getElem?_cons_zero]); rfl)
      case hf_13 => kernel_rfl
      case hr_13 => kernel_rfl
      case hQ_13 => exact fun _ _ _ h => h
      case hw_13 => rfl
      case hy_13 => ((intro w hSw; (try dsimp only at hSw); go_simp); all_goals (with_reducible rfl))
      try simp only [Act.put, List.setIfInBounds_toArray, List.set_cons_zero, List.set_cons_succ]
      refine wpAnyH_take (i := 4) (oi := ?oi_14) (v := ?v_14) ?hi_14 (by kernel_rfl) ?hf_14 ?hr_14 ?hQ_14 (Or.inl ⟨?hw_14, ?hy_14⟩) (by assumption) ?rest_14
      case hi_14 => ((simp only [List.getElem?_toArray, List.getElem?_cons_succ, List.getElem?_cons_zero]); rfl)
      case hf_14 => kernel_rfl
      case hr_14 => kernel_rfl
      case hQ_14 => exact fun _ _ _ h => h
      case hw_14 => rfl
      case hy_14 => ((intro w hSw; (try dsimp only at hSw); go_simp); all_goals (with_reducible rfl))
      try simp only [Act.put, List.setIfInBounds_toArray, List.set_cons_zero, List.set_cons_succ]
      refine wpAnyH_take (i := 6) (oi := ?oi_15) (v := ?v_15) ?hi_15 (by kernel_rfl) ?hf_15 ?hr_15 ?hQ_15 (Or.inl ⟨?hw_15, ?hy_15⟩) (by assumption) ?rest_15
      case hi_15 => ((simp only [List.getElem?_toArray, List.getElem?_cons_succ, List.getElem?_cons_zero]); rfl)
      case hf_15 => kernel_rfl
      case hr_15 => kernel_rfl
      case hQ_15 => exact fun _ _ _ h => h
      case hw_15 => rfl
      case hy_15 => ((intro w hSw; (try dsimp only at hSw); go_simp); all_goals (with_reducible rfl))
      try simp only [Act.put, List.setIfInBounds_toArray, List.set_cons_zero, List.set_cons_succ]
      refine wpAnyH_ready (rs := [5]) (by kernel_rfl) (by simp) ?_
      refine AllReadyH.cons (o := ?o1_16) ?hi_16 (fun K hK => ?rest_16) AllReadyH.nil
      case hi_16 => ((simp only [List.getElem?_toArray, List.getElem?_cons_succ, List.getElem?_cons_zero]); rfl)
      go_simp
      (first | (go_at_call 11; (with_reducible refine (SB.out _ (belStep HW5.out (by repeat (first | assumption | exact Below.refl _ _ | refine belDrew ?_ | refine belStep ?_ (by assumption))))).mono ?_); rintro e w5 ⟨g5, rfl, ho5, hg5, hb5⟩; have HS5 := Lib.hid (ints_ownG ho5 WFB.out); have hbel5 := belStep (show Below W5.heap.size W5 _ from (by repeat (first | assumption | exact Below.refl _ _ | refine belDrew ?_ | refine belStep ?_ (by assumption)))) hb5; clear ho5 hg5 hb5) | (go_at_call 19; (with_reducible refine (HBh.out _ _ (belStep HW5.out hbel5) HS5.out).mono ?_); rintro e w6 ⟨gy, rfl, ho6, hg6, hb6⟩; have Hgy := Lib.hid ho6; replace hbel5 := belStep hbel5 hb6; clear ho6 hg6 hb6))
      try go_simp
      refine hK.out _ _ (by exact ⟨cc0 _ (by repeat (first | assumption | exact Below.refl _ _ | refine belDrew ?_ | refine belStep ?_ (by assumption))), cc1 _ (by repeat (first | assumption | exact Below.refl _ _ | refine belDrew ?_ | refine belStep ?_ (by assumption))), cc2 _ (by repeat (first | assumption | exact Below.refl _ _ | refine belDrew ?_ | refine belStep ?_ (by assumption))), cc3 _ (by repeat (first | assumption | exact Below.refl _ _ | refine belDrew ?_ | refine belStep ?_ (by assumption))), cc4 _ (by repeat (first | assumption | exact Below.refl _ _ | refine belDrew ?_ | refine belStep ?_ (by assumption))), cc5 _ (by repeat (first | assumption | exact Below.refl _ _ | refine belDrew ?_ | refine belStep ?_ (by assumption))), cc6 _ (by repeat (first | assumption | exact Below.refl _ _ | refine belDrew ?_ | refine belStep ?_ (by assumption))), cc7 _ (by repeat (first | assumption | exact Below.refl _ _ | refine belDrew ?_ | refine belStep ?_ (by assumption))), cc8 _ (by repeat (first | assumption | exact Below.refl _ _ | refine belDrew ?_ | refine belStep ?_ (by assumption))), cc9 _ (by repeat (first | assumption | exact Below.refl _ _ | refine belDrew ?_ | refine belStep ?_ (by assumption))), cc10 _ (by repeat (first | assumption | exact Below.refl _ _ | refine belDrew ?_ | refine belStep ?_ (by assumption))), bb0 _ (by repeat (first | assumption | exact Below.refl _ _ | refine belDrew ?_ | refine belStep ?_ (by assumption))), bb1 _ (by repeat (first | assumption | exact Below.refl _ _ | refine belDrew ?_ | refine belStep ?_ (by assumption))), bb2 _ (by repeat (first | assumption | exact Below.refl _ _ | refine belDrew ?_ | refine belStep ?_ (by assumption)))⟩) (fun hHeld => ?_)
      clear hK K
      try simp only [Act.put, List.setIfInBounds_toArray, List.set_cons_zero, List.set_cons_succ]
      refine wpAnyH_ready (rs := [7]) (by kernel_rfl) (by simp) ?_
      refine AllReadyH.cons (o := ?o1_17) ?hi_17 (fun K hK => ?rest_17) AllReadyH.nil
      case hi_17 => ((simp only [List.getElem?_toArray, List.getElem?_cons_succ, List.getElem?_cons_zero]); rfl)
      go_simp
      (first | (go_at_call 11; (with_reducible refine (SB.out _ (belStep HW5.out (by repeat (first | assumption | exact Below.refl _ _ | refine belDrew ?_ | refine belStep ?_ (by assumption))))).mono ?_); rintro e w5 ⟨g5, rfl, ho5, hg5, hb5⟩; have HS5 := Lib.hid (ints_ownG ho5 WFB.out); have hbel5 := belStep (show Below W5.heap.size W5 _ from (by repeat (first | assumption | exact Below.refl _ _ | refine belDrew ?_ | refine belStep ?_ (by assumption)))) hb5; clear ho5 hg5 hb5) | (go_at_call 19; (with_reducible refine (HBh.out _ _ (belStep HW5.out hbel5) HS5.out).mono ?_); rintro e w6 ⟨gy, rfl, ho6, hg6, hb6⟩; have Hgy := Lib.hid ho6; replace hbel5 := belStep hbel5 hb6; clear ho6 hg6 hb6))
      try go_simp
      refine hK.out _ _ (by exact ⟨cc0 _ (by repeat (first | assumption | exact Below.refl _ _ | refine belDrew ?_ | refine belStep ?_ (by assumption))), cc1 _ (by repeat (first | assumption | exact Below.refl _ _ | refine belDrew ?_ | refine belStep ?_ (by assumption))), cc2 _ (by repeat (first | assumption | exact Below.refl _ _ | refine belDrew ?_ | refine belStep ?_ (by assumption))), cc3 _ (by repeat (first | assumption | exact Below.refl _ _ | refine belDrew ?_ | refine belStep ?_ (by assumption))), cc4 _ (by repeat (first | assumption | exact Below.refl _ _ | refine belDrew ?_ | refine belStep ?_ (by assumption))), cc5 _ (by repeat (first | assumption | exact Below.refl _ _ | refine belDrew ?_ | refine belStep ?_ (by assumption))), cc6 _ (by repeat (first | assumption | exact Below.refl _ _ | refine belDrew ?_ | refine belStep ?_ (by assumption))), cc7 _ (by repeat (first | assumption | exact Below.refl _ _ | refine belDrew ?_ | refine belStep ?_ (by assumption))), cc8 _ (by repeat (first | assumption | exact Below.refl _ _ | refine belDrew ?_ | refine belStep ?_ (by assumption))), cc9 _ (by repeat (first | assumption | exact Below.refl _ _ | refine belDrew ?_ | refine belStep ?_ (by assumption))), cc10 _ (by repeat (first | assumption | exact Below.refl _ _ | refine belDrew ?_ | refine belStep ?_ (by assumption))), bb0 _ (by repeat (first | assumption | exact Below.refl _ _ | refine belDrew ?_ | refine belStep ?_ (by assumption))), bb1 _ (by repeat (first | assumption | exact Below.refl _ _ | refine belDrew ?_ | refine belStep ?_ (by assumption))), bb2 _ (by repeat (first | assumption | exact Below.refl _ _ | refine belDrew ?_ | refine belStep ?_ (by assumption)))⟩) (fun hHeld => ?_)
      clear hK K
      try simp only [Act.put, List.setIfInBounds_toArray, List.set_cons_zero, List.set_cons_succ]
      refine wpAnyH_ready (rs := [8]) (by kernel_rfl) (by simp) ?_
      refine AllReadyH.cons (o := ?o1_18) ?hi_18 (fun K hK => ?rest_18) AllReadyH.nil
      case hi_18 => ((simp only [List.getElem?_toArray, List.getElem?_cons_succ, List.getElem?_cons_zero]); rfl)
      go_simp
      refine hK.out _ _ (by exact ⟨cc0 _ (by repeat (first | assumption | exact Below.refl _ _ | refine belDrew ?_ | refine belStep ?_ (by assumption))), cc1 _ (by repeat (first | assumption | exact Below.refl _ _ | refine belDrew ?_ | refine belStep ?_ (by assumption))), cc2 _ (by repeat (first | assumption | exact Below.refl _ _ | refine belDrew ?_ | refine belStep ?_ (by assumption))), cc3 _ (by repeat (first | assumption | exact Below.refl _ _ | refine belDrew ?_ | refine belStep ?_ (by assumption))), cc4 _ (by repeat (first | assumption | exact Below.refl _ _ | refine belDrew ?_ | refine belStep ?_ (by assumption))), cc5 _ (by repeat (first | assumption | exact Below.refl _ _ | refine belDrew ?_ | refine belStep ?_ (by assumption))), cc6 _ (by repeat (first | assumption | exact Below.refl _ _ | refine belDrew ?_ | refine belStep ?_ (by assumption))), cc7 _ (by repeat (first | assumption | exact Below.refl _ _ | refine belDrew ?_ | refine belStep ?_ (by assumption))), cc8 _ (by repeat (first | assumption | exact Below.refl _ _ | refine belDrew ?_ | refine belStep ?_ (by assumption))), cc9 _ (by repeat (first | assumption | exact Below.refl _ _ | refine belDrew ?_ | refine belStep ?_ (by assumption))), cc10 _ (by repeat (first | assumption | exact Below.refl _ _ | refine belDrew ?_ | refine belStep ?_ (by assumption))), bb0 _ (by repeat (first | assumption | exact Below.refl _ _ | refine belDrew ?_ | refine belStep ?_ (by assumption))), bb1 _ (by repeat (first | assumption | exact Below.refl _ _ | refine belDrew ?_ | refine belStep ?_ (by assumption))), bb2 _ (by repeat (first | assumption | exact Below.refl _ _ | refine belDrew ?_ | refine belStep ?_ (by assumption)))⟩) (fun hHeld => ?_)
      clear hK K
      try simp only [Act.put, List.setIfInBounds_toArray, List.set_cons_zero, List.set_cons_succ]
      refine wpAnyH_done (by kernel_rfl) ?_ _
      replace hbel := hbel5
      replace Hgx := Lib.hid (Hgx.out.later hbel)
      clear HS5 hbel5 hHeld
      replace cc0 := keepOnP cc0 hbel
      replace cc1 := keepOnP cc1 hbel
      replace cc2 := keepOnP cc2 hbel
      replace cc3 := keepOnP cc3 hbel
      replace cc4 := keepOnP cc4 hbel
      replace cc5 := keepOnP cc5 hbel
      replace cc6 := keepOnP cc6 hbel
      replace cc7 := keepOnP cc7 hbel
      replace cc8 := keepOnP cc8 hbel
      replace cc9 := keepOnP cc9 hbel
      replace cc10 := keepOnP cc10 hbel
      replace aa0 := keepOnP aa0 hbel
      replace aa1 := keepOnP aa1 hbel
      replace aa2 := keepOnP aa2 hbel
      replace bb0 := keepOnP bb0 hbel
      replace bb1 := keepOnP bb1 hbel
      replace bb2 := keepOnP bb2 hbel
      replace hw := belStep hw hbel
      clear hbel
      generalize w6 = W6 at *
      have hbel : Below W6.heap.size W6 W6 := Below.refl _ _
      have HW6 := Lib.hid (belStep HW5.out hw)
      clear hw HW5
      go_upto_region 14 with (first
        | (go_at_call 16; (with_reducible refine (MA.out _ (belStep HW6.out hbel)).mono ?_); rintro e w7 ⟨gm, rfl, ho7, hg7, hb7⟩; have Hgm := Lib.hid ho7; replace Hgx := Lib.hid (Hgx.out.later hb7); replace Hgy := Lib.hid (Hgy.out.later hb7); replace hbel := belStep hbel hb7; clear ho7 hg7 hb7)
        | (go_at_call 16; (with_reducible refine (MB'.out _ (belStep HW6.out hbel)).mono ?_); rintro e w8 ⟨gn, rfl, ho8, hg8, hb8⟩; have Hgn := Lib.hid ho8; replace Hgx := Lib.hid (Hgx.out.later hb8); replace Hgy := Lib.hid (Hgy.out.later hb8); replace Hgm := Lib.hid (Hgm.out.later hb8); replace hbel := belStep hbel hb8; clear ho8 hg8 hb8))
      have HBF := Lib.hid hbel
      have HL1 := Lib.hid (show ∀ x0 x1 x2, (holdL c (stepL c S x0 x1 x2 r) r).length = c.tl from fun x0 x1 x2 => by rw [holdL_len (by rw [HLS.out, HLEN.out]), HLEN.out])
      have HL2 := Lib.hid (show ∀ x0 x1 x2, (c.L.map (fun t => met3 c t x0 x1 x2)).length = c.tl from fun x0 x1 x2 => by rw [List.length_map, HLEN.out])
      go_wp2
      clear hbel
      go_loopw [17] (fun i wr => ∃ k : Nat, k ≤ c.tl ∧ i = .int .i64 k ∧ w8 = wr) (fun i _ => c.tl - (intOf i).toNat)
      case atStart => exact ⟨0, by omega, rfl, rfl⟩
      case round =>
        obtain ⟨k, hk, rfl, rfl⟩ := hrel
        by_cases hlt : k < c.tl
        · have hki : (k : Int) < (c.tl : Int) := by omega
          obtain ⟨t, hti⟩ : ∃ t, c.L[k]? = some t := ⟨_, List.getElem?_eq_getElem (by rw [HLEN.out]; exact hlt)⟩
          have es : ∀ x0 x1 x2, el (stepL c S x0 x1 x2 r) k = stepE (met3 c t x0 x1 x2) (el S k) r := fun x0 x1 x2 => by
            have h1 := stepL_get (v0 := x0) (v1 := x1) (v2 := x2) (r := r) (S := S) hti (by rw [HSL.out]; exact hlt)
            unfold el; rw [List.getD_eq_getElem?_getD, h1]; rfl
          have z1 := Hgx.out.cellAt (HL1.out _ _ _).symm (holdL_get (r := r) hti (by rw [HLS.out]; exact hlt))
          have z2 := Hgy.out.cellAt (HL1.out _ _ _).symm (holdL_get (r := r) hti (by rw [HLS.out]; exact hlt))
          have z3 := Hgm.out.cellAt (HL2.out _ _ _).symm (i := k) (x := met3 c t a0 a1 a2) (by rw [List.getElem?_map, hti]; rfl)
          have z4 := Hgn.out.cellAt (HL2.out _ _ _).symm (i := k) (x := met3 c t b0 b1 b2) (by rw [List.getElem?_map, hti]; rfl)
          rw [es] at z1 z2
          have hm := met3_less c t a0 a1 a2 b0 b1 b2 HLE.out.1 HLE.out.2.1 HLE.out.2.2
          obtain ⟨hxy, hxm⟩ := hold_less t _ _ (el S k) r hm
          clear es hti
          generalize holdE t (stepE (met3 c t a0 a1 a2) (el S k) r) r = X at *
          generalize holdE t (stepE (met3 c t b0 b1 b2) (el S k) r) r = Y at *
          generalize met3 c t a0 a1 a2 = M at *
          generalize met3 c t b0 b1 b2 = N at *
          rcases Bool.eq_false_or_eq_true X with rfl | rfl
          · obtain rfl := hxy rfl
            obtain rfl := hxm rfl
            obtain rfl := hm rfl
            clear hm hxy hxm
            go_wp2
            go_roundw
            case rel => exact ⟨k + 1, by omega, by push_cast; rfl, by first | rfl | trivial⟩
            case measure => simp [intOf] <;> omega
          · rcases Bool.eq_false_or_eq_true M with rfl | rfl
            · obtain rfl := hm rfl
              clear hm hxy hxm
              go_wp2
              go_roundw
              case rel => exact ⟨k + 1, by omega, by push_cast; rfl, by first | rfl | trivial⟩
              case measure => simp [intOf] <;> omega
            · clear hm hxy hxm
              go_wp2
              go_roundw
              case rel => exact ⟨k + 1, by omega, by push_cast; rfl, by first | rfl | trivial⟩
              case measure => simp [intOf] <;> omega
        · have hki : ¬ (k : Int) < (c.tl : Int) := by omega
          go_wp2
          go_ret
          exact ⟨rfl, belStep HW3.out (belStep HW6.out HBF.out)⟩

set_option maxRecDepth 100000 in
theorem lifted (os : Os) (started : os.Started) (H : Type) (enc : TypeId × Value → H) :
    ReturnsInHanded {} Try.checked os 7 .any (Rows.graceLessSpec.pre6 enc Try.prog Try.f7 Rows.graceLessRow.domain false) (Rows.graceLessSpec.post enc Try.prog Try.f7 false true false false) := by
  refine returnsInHanded_of_change (C := Try.checked) own started (by kernel_rfl) Try.func7
    (ChangeSpec.witness6 (enc := enc) (C := Try.checked) false ⟨#[], #[.agg #[.int .i64 0, .int .i64 0, .int .i64 0, .int .i64 0, .int .i64 0, .int .i64 0, .slice none 0 0, .int .i64 0, .int .i64 0, .int .i64 0, .int .i64 0], .slice none 0 0, .int .i64 0, .agg #[.int .i64 0, .int .i64 0, .int .i64 0], .agg #[.int .u16 0, .int .u16 0, .int .u16 0]], []⟩ 8 (by kernel_rfl) (by kernel_rfl) (by kernel_rfl) (by kernel_rfl)) ?_
  intro W base args ds gs before hval0 hW hcnd _
  have hval : ∀ (j : Nat) t v, Try.f7.params[j]? = some t → args[j]? = some v → Value.okWide Try.prog W .any base t v := hval0
  have hW' := hW
  obtain ⟨p, q, hA0, hV, rfl, hfz, hnd⟩ := hW
  have hA : DataW.TrodAll enc Try.prog W 0 (fun _ => true) true Try.f7.params.toList args.toList ds p := hA0
  rw [Try.params7] at hA hval
  obtain ⟨v0, vs0, d0, ds0, p0, q0, hargs, rfl, rfl, h0, r0⟩ := trodAll_cons hA
  obtain ⟨v1, vs1, d1, ds1, p1, q1, rfl, rfl, rfl, h1, r1⟩ := trodAll_cons r0
  obtain ⟨v2, vs2, d2, ds2, p2, q2, rfl, rfl, rfl, h2, r2⟩ := trodAll_cons r1
  obtain ⟨v3, vs3, d3, ds3, p3, q3, rfl, rfl, rfl, h3, r3⟩ := trodAll_cons r2
  obtain ⟨v4, vs4, d4, ds4, p4, q4, rfl, rfl, rfl, h4, r4⟩ := trodAll_cons r3
  obtain ⟨rfl, rfl, rfl⟩ := trodAll_nil r4
  obtain rfl : args = #[v0, v1, v2, v3, v4] := by cases args; simp_all
  obtain ⟨rfl, rfl⟩ := trodVars_none hV
  have k0 := h0
  have lt0 : ∀ x ∈ p0, x.block < W.heap.size := by obtain ⟨m, hm⟩ := k0; exact DataW.trod_lt m _ _ _ hm
  have o0 : Value.okWide Try.prog W .any base 25 v0 := hval 0 25 v0 rfl rfl
  obtain ⟨c0, rfl, hc0⟩ := open_cfg o0 h0
  have k1 := h1
  have lt1 : ∀ x ∈ p1, x.block < W.heap.size := by obtain ⟨m, hm⟩ := k1; exact DataW.trod_lt m _ _ _ hm
  have o1 : Value.okWide Try.prog W .any base 26 v1 := hval 1 26 v1 rfl rfl
  obtain ⟨a1, len1, cap1, rfl⟩ := okWide_slice Try.underlying26 o1
  obtain ⟨z1, w1⟩ : ∃ zs, Ints .i64 W a1 len1 cap1 zs := ints_of_trod Try.underlying26 Try.underlying3 (by kernel_rfl) h1
  have k2 := h2
  have lt2 : ∀ x ∈ p2, x.block < W.heap.size := by obtain ⟨m, hm⟩ := k2; exact DataW.trod_lt m _ _ _ hm
  have o2 : Value.okWide Try.prog W .any base 3 v2 := hval 2 3 v2 rfl rfl
  obtain ⟨a2, rfl, rfl, rfl, w2⟩ := open_int Try.underlying3 o2 h2
  have k3 := h3
  have lt3 : ∀ x ∈ p3, x.block < W.heap.size := by obtain ⟨m, hm⟩ := k3; exact DataW.trod_lt m _ _ _ hm
  have o3 : Value.okWide Try.prog W .any base 22 v3 := hval 3 22 v3 rfl rfl
  obtain ⟨x3, y3, z3, rfl, h13, h23, h33⟩ := open_three o3 h3
  have k4 := h4
  have lt4 : ∀ x ∈ p4, x.block < W.heap.size := by obtain ⟨m, hm⟩ := k4; exact DataW.trod_lt m _ _ _ hm
  have o4 : Value.okWide Try.prog W .any base 52 v4 := hval 4 52 v4 rfl rfl
  obtain ⟨p4, q4, s4, rfl, k14, k24, k34⟩ := open_three16 o4 h4
  clear hA0 hval0
  refine (walk c0 a1 len1 cap1 z1 a2 x3 y3 z3 p4 q4 s4 W hc0 w1 (inI_of_wf w2) h13 h23 h33 k14 k24 k34).mono fun e W' ⟨he, bel⟩ => ?_
  subst he
  exact ⟨_, rfl, _, _, _, [], _, [], hW', trodAll_mk1 (shut_bool Try.underlying4 _), (trodAll_cons_mk (Below.trod laidOut (by kernel_rfl) (of_decide_eq_true (by kernel_rfl)) k0 bel lt0) (trodAll_cons_mk (Below.trod laidOut (by kernel_rfl) (of_decide_eq_true (by kernel_rfl)) k1 bel lt1) (trodAll_cons_mk (Below.trod laidOut (by kernel_rfl) (of_decide_eq_true (by kernel_rfl)) k2 bel lt2) (trodAll_cons_mk (Below.trod laidOut (by kernel_rfl) (of_decide_eq_true (by kernel_rfl)) k3 bel lt3) (trodAll_cons_mk (Below.trod laidOut (by kernel_rfl) (of_decide_eq_true (by kernel_rfl)) k4 bel lt4) trodAll_mk0))))), rfl, bel.frame _, fun h => by cases h⟩

theorem over : Rows.graceLessRow.holds Try.pinned (OpenSpec.ofChange Rows.graceLessSpec) :=
  OpenClaim.holds_of_wide 7 Try.f7 rfl rfl rfl rfl rfl rfl rfl ⟨rfl, rfl, rfl, rfl, rfl⟩ rfl rfl rfl rfl rfl (by kernel_rfl) Try.func7 (by kernel_rfl)
    (of_decide_eq_true (by kernel_rfl)) (by unfold Func.isWrapper; first | (rw [if_pos (by decide +kernel)]; kernel_rfl) | (rw [if_neg (by decide +kernel)]; exact ⟨rfl, rfl⟩))
    (fun os started H enc _ => lifted os started H enc)

/-- The statement. -/
theorem proved : Rows.GraceLessSaid := over
#print axioms proved

end Go.Proofs.Ytbancemkajgljaa.graceLess
