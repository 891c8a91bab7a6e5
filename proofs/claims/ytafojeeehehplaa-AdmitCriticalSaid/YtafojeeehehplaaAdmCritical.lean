/- AdmitCritical holds for all its arguments. No conditions. -/
import Derived.Test.YtafojeeehehplaaAdmCritM
namespace Go.Proofs.Ytafojeeehehplaa.admitCritical
open Go.ChangeShapes Go.WideShapes Go.ChangeAt Go.RowKit
open Go.ChangeMaps (open_string shut_string)
set_option linter.unusedVariables false
set_option linter.unusedSimpArgs false
set_option maxRecDepth 100000 in
set_option maxHeartbeats 16000000 in
theorem walk (c : CfgV) (a : Option Addr) (len cap : Nat) (T : List EntV) (O : On) (p : PodV) (w : World) (hc : c.ok w) (hl : T.length = len) (hok : ∀ x ∈ T, x.ok) (hR : Row w a len cap 12 (T.flatMap EntV.cells)) (hp : p.ok) :
    Calls Try.prog 5 #[.agg #[.int .i64 c.k0, .int .i64 c.k1, .int .i64 c.k2, .int .i64 c.a0, .int .i64 c.a1, .int .i64 c.a2, .slice c.ta c.tl c.tc, .int .i64 c.per, .int .i64 c.ret, .int .i64 c.age, .int .i64 c.dead], .slice a len cap, .agg #[.bool O.a, .bool O.b, .bool O.c], p.v] w fun e w' => e = .returned (.bool true) ∧ Below w.heap.size w w' := by
  unfold PodV.v
  have hw : Below w.heap.size w w := Below.refl _ _
  have hbel := hw
  have hbd_t : len ≤ cap ∧ cap ≤ 9223372036854775807 := by obtain ⟨_, h1, h2, _⟩ := hR; unfold maxLen at h2; exact ⟨h1, h2⟩
  obtain ⟨hbd1_t, hbd2_t⟩ := hbd_t
  have HR := Lib.hid hR
  have HOK := Lib.hid hok
  have HPO := Lib.hid hp
  have HCO := Lib.hid hc
  subst hl
  have CRT := Lib.hid (fun v (hv : Below w.heap.size w v) => ref7_Right c v (hc.later hv))
  have CFT := Lib.hid (fun v (hv : Below w.heap.size w v) => rref_Fit a T.length cap T v rfl hok (HR.out.later hv))
  clear hR hok hp hc
  go_enter Try.func5, Try.ntmps5
  go_upto_region 2 with fail
  have cc0 : (((w.alloc (.cells #[.int .i64 c.k0, .int .i64 c.k1, .int .i64 c.k2, .int .i64 c.a0, .int .i64 c.a1, .int .i64 c.a2, .slice c.ta c.tl c.tc, .int .i64 c.per, .int .i64 c.ret, .int .i64 c.age, .int .i64 c.dead] 25)).alloc (.cells #[.bool O.a, .bool O.b, .bool O.c] 27)).alloc (.cells #[.string p.id, .int .i64 p.prio, .bool true, .int .i64 p.r0, .int .i64 p.r1, .int .i64 p.r2, .int .i64 p.l0, .int .i64 p.l1, .int .i64 p.l2, .string p.img, .int .i64 p.size] 29)).cell? ⟨w.heap.size, 0, none⟩ = some (.int .i64 c.k0) := by first | (simp; done) | (rw [World.cell?_alloc_at _ _ _ _ (by simp)]; rfl) | (rw [World.cell?_alloc_past _ _ _ (by simp <;> omega), World.cell?_alloc_at _ _ _ _ (by simp)]; rfl) | (rw [World.cell?_alloc_past _ _ _ (by simp <;> omega), World.cell?_alloc_past _ _ _ (by simp <;> omega), World.cell?_alloc_at _ _ _ _ (by simp)]; rfl)
  have cc1 : (((w.alloc (.cells #[.int .i64 c.k0, .int .i64 c.k1, .int .i64 c.k2, .int .i64 c.a0, .int .i64 c.a1, .int .i64 c.a2, .slice c.ta c.tl c.tc, .int .i64 c.per, .int .i64 c.ret, .int .i64 c.age, .int .i64 c.dead] 25)).alloc (.cells #[.bool O.a, .bool O.b, .bool O.c] 27)).alloc (.cells #[.string p.id, .int .i64 p.prio, .bool true, .int .i64 p.r0, .int .i64 p.r1, .int .i64 p.r2, .int .i64 p.l0, .int .i64 p.l1, .int .i64 p.l2, .string p.img, .int .i64 p.size] 29)).cell? ⟨w.heap.size, 1, none⟩ = some (.int .i64 c.k1) := by first | (simp; done) | (rw [World.cell?_alloc_at _ _ _ _ (by simp)]; rfl) | (rw [World.cell?_alloc_past _ _ _ (by simp <;> omega), World.cell?_alloc_at _ _ _ _ (by simp)]; rfl) | (rw [World.cell?_alloc_past _ _ _ (by simp <;> omega), World.cell?_alloc_past _ _ _ (by simp <;> omega), World.cell?_alloc_at _ _ _ _ (by simp)]; rfl)
  have cc2 : (((w.alloc (.cells #[.int .i64 c.k0, .int .i64 c.k1, .int .i64 c.k2, .int .i64 c.a0, .int .i64 c.a1, .int .i64 c.a2, .slice c.ta c.tl c.tc, .int .i64 c.per, .int .i64 c.ret, .int .i64 c.age, .int .i64 c.dead] 25)).alloc (.cells #[.bool O.a, .bool O.b, .bool O.c] 27)).alloc (.cells #[.string p.id, .int .i64 p.prio, .bool true, .int .i64 p.r0, .int .i64 p.r1, .int .i64 p.r2, .int .i64 p.l0, .int .i64 p.l1, .int .i64 p.l2, .string p.img, .int .i64 p.size] 29)).cell? ⟨w.heap.size, 2, none⟩ = some (.int .i64 c.k2) := by first | (simp; done) | (rw [World.cell?_alloc_at _ _ _ _ (by simp)]; rfl) | (rw [World.cell?_alloc_past _ _ _ (by simp <;> omega), World.cell?_alloc_at _ _ _ _ (by simp)]; rfl) | (rw [World.cell?_alloc_past _ _ _ (by simp <;> omega), World.cell?_alloc_past _ _ _ (by simp <;> omega), World.cell?_alloc_at _ _ _ _ (by simp)]; rfl)
  have cc3 : (((w.alloc (.cells #[.int .i64 c.k0, .int .i64 c.k1, .int .i64 c.k2, .int .i64 c.a0, .int .i64 c.a1, .int .i64 c.a2, .slice c.ta c.tl c.tc, .int .i64 c.per, .int .i64 c.ret, .int .i64 c.age, .int .i64 c.dead] 25)).alloc (.cells #[.bool O.a, .bool O.b, .bool O.c] 27)).alloc (.cells #[.string p.id, .int .i64 p.prio, .bool true, .int .i64 p.r0, .int .i64 p.r1, .int .i64 p.r2, .int .i64 p.l0, .int .i64 p.l1, .int .i64 p.l2, .string p.img, .int .i64 p.size] 29)).cell? ⟨w.heap.size, 3, none⟩ = some (.int .i64 c.a0) := by first | (simp; done) | (rw [World.cell?_alloc_at _ _ _ _ (by simp)]; rfl) | (rw [World.cell?_alloc_past _ _ _ (by simp <;> omega), World.cell?_alloc_at _ _ _ _ (by simp)]; rfl) | (rw [World.cell?_alloc_past _ _ _ (by simp <;> omega), World.cell?_alloc_past _ _ _ (by simp <;> omega), World.cell?_alloc_at _ _ _ _ (by simp)]; rfl)
  have cc4 : (((w.alloc (.cells #[.int .i64 c.k0, .int .i64 c.k1, .int .i64 c.k2, .int .i64 c.a0, .int .i64 c.a1, .int .i64 c.a2, .slice c.ta c.tl c.tc, .int .i64 c.per, .int .i64 c.ret, .int .i64 c.age, .int .i64 c.dead] 25)).alloc (.cells #[.bool O.a, .bool O.b, .bool O.c] 27)).alloc (.cells #[.string p.id, .int .i64 p.prio, .bool true, .int .i64 p.r0, .int .i64 p.r1, .int .i64 p.r2, .int .i64 p.l0, .int .i64 p.l1, .int .i64 p.l2, .string p.img, .int .i64 p.size] 29)).cell? ⟨w.heap.size, 4, none⟩ = some (.int .i64 c.a1) := by first | (simp; done) | (rw [World.cell?_alloc_at _ _ _ _ (by simp)]; rfl) | (rw [World.cell?_alloc_past _ _ _ (by simp <;> omega), World.cell?_alloc_at _ _ _ _ (by simp)]; rfl) | (rw [World.cell?_alloc_past _ _ _ (by simp <;> omega), World.cell?_alloc_past _ _ _ (by simp <;> omega), World.cell?_alloc_at _ _ _ _ (by simp)]; rfl)
  have cc5 : (((w.alloc (.cells #[.int .i64 c.k0, .int .i64 c.k1, .int .i64 c.k2, .int .i64 c.a0, .int .i64 c.a1, .int .i64 c.a2, .slice c.ta c.tl c.tc, .int .i64 c.per, .int .i64 c.ret, .int .i64 c.age, .int .i64 c.dead] 25)).alloc (.cells #[.bool O.a, .bool O.b, .bool O.c] 27)).alloc (.cells #[.string p.id, .int .i64 p.prio, .bool true, .int .i64 p.r0, .int .i64 p.r1, .int .i64 p.r2, .int .i64 p.l0, .int .i64 p.l1, .int .i64 p.l2, .string p.img, .int .i64 p.size] 29)).cell? ⟨w.heap.size, 5, none⟩ = some (.int .i64 c.a2) := by first | (simp; done) | (rw [World.cell?_alloc_at _ _ _ _ (by simp)]; rfl) | (rw [World.cell?_alloc_past _ _ _ (by simp <;> omega), World.cell?_alloc_at _ _ _ _ (by simp)]; rfl) | (rw [World.cell?_alloc_past _ _ _ (by simp <;> omega), World.cell?_alloc_past _ _ _ (by simp <;> omega), World.cell?_alloc_at _ _ _ _ (by simp)]; rfl)
  have cc6 : (((w.alloc (.cells #[.int .i64 c.k0, .int .i64 c.k1, .int .i64 c.k2, .int .i64 c.a0, .int .i64 c.a1, .int .i64 c.a2, .slice c.ta c.tl c.tc, .int .i64 c.per, .int .i64 c.ret, .int .i64 c.age, .int .i64 c.dead] 25)).alloc (.cells #[.bool O.a, .bool O.b, .bool O.c] 27)).alloc (.cells #[.string p.id, .int .i64 p.prio, .bool true, .int .i64 p.r0, .int .i64 p.r1, .int .i64 p.r2, .int .i64 p.l0, .int .i64 p.l1, .int .i64 p.l2, .string p.img, .int .i64 p.size] 29)).cell? ⟨w.heap.size, 6, none⟩ = some (.slice c.ta c.tl c.tc) := by first | (simp; done) | (rw [World.cell?_alloc_at _ _ _ _ (by simp)]; rfl) | (rw [World.cell?_alloc_past _ _ _ (by simp <;> omega), World.cell?_alloc_at _ _ _ _ (by simp)]; rfl) | (rw [World.cell?_alloc_past _ _ _ (by simp <;> omega), World.cell?_alloc_past _ _ _ (by simp <;> omega), World.cell?_alloc_at _ _ _ _ (by simp)]; rfl)
  have cc7 : (((w.alloc (.cells #[.int .i64 c.k0, .int .i64 c.k1, .int .i64 c.k2, .int .i64 c.a0, .int .i64 c.a1, .int .i64 c.a2, .slice c.ta c.tl c.tc, .int .i64 c.per, .int .i64 c.ret, .int .i64 c.age, .int .i64 c.dead] 25)).alloc (.cells #[.bool O.a, .bool O.b, .bool O.c] 27)).alloc (.cells #[.string p.id, .int .i64 p.prio, .bool true, .int .i64 p.r0, .int .i64 p.r1, .int .i64 p.r2, .int .i64 p.l0, .int .i64 p.l1, .int .i64 p.l2, .string p.img, .int .i64 p.size] 29)).cell? ⟨w.heap.size, 7, none⟩ = some (.int .i64 c.per) := by first | (simp; done) | (rw [World.cell?_alloc_at _ _ _ _ (by simp)]; rfl) | (rw [World.cell?_alloc_past _ _ _ (by simp <;> omega), World.cell?_alloc_at _ _ _ _ (by simp)]; rfl) | (rw [World.cell?_alloc_past _ _ _ (by simp <;> omega), World.cell?_alloc_past _ _ _ (by simp <;> omega), World.cell?_alloc_at _ _ _ _ (by simp)]; rfl)
  have cc8 : (((w.alloc (.cells #[.int .i64 c.k0, .int .i64 c.k1, .int .i64 c.k2, .int .i64 c.a0, .int .i64 c.a1, .int .i64 c.a2, .slice c.ta c.tl c.tc, .int .i64 c.per, .int .i64 c.ret, .int .i64 c.age, .int .i64 c.dead] 25)).alloc (.cells #[.bool O.a, .bool O.b, .bool O.c] 27)).alloc (.cells #[.string p.id, .int .i64 p.prio, .bool true, .int .i64 p.r0, .int .i64 p.r1, .int .i64 p.r2, .int .i64 p.l0, .int .i64 p.l1, .int .i64 p.l2, .string p.img, .int .i64 p.size] 29)).cell? ⟨w.heap.size, 8, none⟩ = some (.int .i64 c.ret) := by first | (simp; done) | (rw [World.cell?_alloc_at _ _ _ _ (by simp)]; rfl) | (rw [World.cell?_alloc_past _ _ _ (by simp <;> omega), World.cell?_alloc_at _ _ _ _ (by simp)]; rfl) | (rw [World.cell?_alloc_past _ _ _ (by simp <;> omega), World.cell?_alloc_past _ _ _ (by simp <;> omega), World.cell?_alloc_at _ _ _ _ (by simp)]; rfl)
  have cc9 : (((w.alloc (.cells #[.int .i64 c.k0, .int .i64 c.k1, .int .i64 c.k2, .int .i64 c.a0, .int .i64 c.a1, .int .i64 c.a2, .slice c.ta c.tl c.tc, .int .i64 c.per, .int .i64 c.ret, .int .i64 c.age, .int .i64 c.dead] 25)).alloc (.cells #[.bool O.a, .bool O.b, .bool O.c] 27)).alloc (.cells #[.string p.id, .int .i64 p.prio, .bool true, .int .i64 p.r0, .int .i64 p.r1, .int .i64 p.r2, .int .i64 p.l0, .int .i64 p.l1, .int .i64 p.l2, .string p.img, .int .i64 p.size] 29)).cell? ⟨w.heap.size, 9, none⟩ = some (.int .i64 c.age) := by first | (simp; done) | (rw [World.cell?_alloc_at _ _ _ _ (by simp)]; rfl) | (rw [World.cell?_alloc_past _ _ _ (by simp <;> omega), World.cell?_alloc_at _ _ _ _ (by simp)]; rfl) | (rw [World.cell?_alloc_past _ _ _ (by simp <;> omega), World.cell?_alloc_past _ _ _ (by simp <;> omega), World.cell?_alloc_at _ _ _ _ (by simp)]; rfl)
  have cc10 : (((w.alloc (.cells #[.int .i64 c.k0, .int .i64 c.k1, .int .i64 c.k2, .int .i64 c.a0, .int .i64 c.a1, .int .i64 c.a2, .slice c.ta c.tl c.tc, .int .i64 c.per, .int .i64 c.ret, .int .i64 c.age, .int .i64 c.dead] 25)).alloc (.cells #[.bool O.a, .bool O.b, .bool O.c] 27)).alloc (.cells #[.string p.id, .int .i64 p.prio, .bool true, .int .i64 p.r0, .int .i64 p.r1, .int .i64 p.r2, .int .i64 p.l0, .int .i64 p.l1, .int .i64 p.l2, .string p.img, .int .i64 p.size] 29)).cell? ⟨w.heap.size, 10, none⟩ = some (.int .i64 c.dead) := by first | (simp; done) | (rw [World.cell?_alloc_at _ _ _ _ (by simp)]; rfl) | (rw [World.cell?_alloc_past _ _ _ (by simp <;> omega), World.cell?_alloc_at _ _ _ _ (by simp)]; rfl) | (rw [World.cell?_alloc_past _ _ _ (by simp <;> omega), World.cell?_alloc_past _ _ _ (by simp <;> omega), World.cell?_alloc_at _ _ _ _ (by simp)]; rfl)
  have oo0 : (((w.alloc (.cells #[.int .i64 c.k0, .int .i64 c.k1, .int .i64 c.k2, .int .i64 c.a0, .int .i64 c.a1, .int .i64 c.a2, .slice c.ta c.tl c.tc, .int .i64 c.per, .int .i64 c.ret, .int .i64 c.age, .int .i64 c.dead] 25)).alloc (.cells #[.bool O.a, .bool O.b, .bool O.c] 27)).alloc (.cells #[.string p.id, .int .i64 p.prio, .bool true, .int .i64 p.r0, .int .i64 p.r1, .int .i64 p.r2, .int .i64 p.l0, .int .i64 p.l1, .int .i64 p.l2, .string p.img, .int .i64 p.size] 29)).cell? ⟨w.heap.size + 1, 0, none⟩ = some (.bool O.a) := by first | (simp; done) | (rw [World.cell?_alloc_at _ _ _ _ (by simp)]; rfl) | (rw [World.cell?_alloc_past _ _ _ (by simp <;> omega), World.cell?_alloc_at _ _ _ _ (by simp)]; rfl) | (rw [World.cell?_alloc_past _ _ _ (by simp <;> omega), World.cell?_alloc_past _ _ _ (by simp <;> omega), World.cell?_alloc_at _ _ _ _ (by simp)]; rfl)
  have oo1 : (((w.alloc (.cells #[.int .i64 c.k0, .int .i64 c.k1, .int .i64 c.k2, .int .i64 c.a0, .int .i64 c.a1, .int .i64 c.a2, .slice c.ta c.tl c.tc, .int .i64 c.per, .int .i64 c.ret, .int .i64 c.age, .int .i64 c.dead] 25)).alloc (.cells #[.bool O.a, .bool O.b, .bool O.c] 27)).alloc (.cells #[.string p.id, .int .i64 p.prio, .bool true, .int .i64 p.r0, .int .i64 p.r1, .int .i64 p.r2, .int .i64 p.l0, .int .i64 p.l1, .int .i64 p.l2, .string p.img, .int .i64 p.size] 29)).cell? ⟨w.heap.size + 1, 1, none⟩ = some (.bool O.b) := by first | (simp; done) | (rw [World.cell?_alloc_at _ _ _ _ (by simp)]; rfl) | (rw [World.cell?_alloc_past _ _ _ (by simp <;> omega), World.cell?_alloc_at _ _ _ _ (by simp)]; rfl) | (rw [World.cell?_alloc_past _ _ _ (by simp <;> omega), World.cell?_alloc_past _ _ _ (by simp <;> omega), World.cell?_alloc_at _ _ _ _ (by simp)]; rfl)
  have oo2 : (((w.alloc (.cells #[.int .i64 c.k0, .int .i64 c.k1, .int .i64 c.k2, .int .i64 c.a0, .int .i64 c.a1, .int .i64 c.a2, .slice c.ta c.tl c.tc, .int .i64 c.per, .int .i64 c.ret, .int .i64 c.age, .int .i64 c.dead] 25)).alloc (.cells #[.bool O.a, .bool O.b, .bool O.c] 27)).alloc (.cells #[.string p.id, .int .i64 p.prio, .bool true, .int .i64 p.r0, .int .i64 p.r1, .int .i64 p.r2, .int .i64 p.l0, .int .i64 p.l1, .int .i64 p.l2, .string p.img, .int .i64 p.size] 29)).cell? ⟨w.heap.size + 1, 2, none⟩ = some (.bool O.c) := by first | (simp; done) | (rw [World.cell?_alloc_at _ _ _ _ (by simp)]; rfl) | (rw [World.cell?_alloc_past _ _ _ (by simp <;> omega), World.cell?_alloc_at _ _ _ _ (by simp)]; rfl) | (rw [World.cell?_alloc_past _ _ _ (by simp <;> omega), World.cell?_alloc_past _ _ _ (by simp <;> omega), World.cell?_alloc_at _ _ _ _ (by simp)]; rfl)
  have pp0 : (((w.alloc (.cells #[.int .i64 c.k0, .int .i64 c.k1, .int .i64 c.k2, .int .i64 c.a0, .int .i64 c.a1, .int .i64 c.a2, .slice c.ta c.tl c.tc, .int .i64 c.per, .int .i64 c.ret, .int .i64 c.age, .int .i64 c.dead] 25)).alloc (.cells #[.bool O.a, .bool O.b, .bool O.c] 27)).alloc (.cells #[.string p.id, .int .i64 p.prio, .bool true, .int .i64 p.r0, .int .i64 p.r1, .int .i64 p.r2, .int .i64 p.l0, .int .i64 p.l1, .int .i64 p.l2, .string p.img, .int .i64 p.size] 29)).cell? ⟨w.heap.size + 2, 0, none⟩ = some (.string p.id) := by first | (simp; done) | (rw [World.cell?_alloc_at _ _ _ _ (by simp)]; rfl) | (rw [World.cell?_alloc_past _ _ _ (by simp <;> omega), World.cell?_alloc_at _ _ _ _ (by simp)]; rfl) | (rw [World.cell?_alloc_past _ _ _ (by simp <;> omega), World.cell?_alloc_past _ _ _ (by simp <;> omega), World.cell?_alloc_at _ _ _ _ (by simp)]; rfl)
  have pp1 : (((w.alloc (.cells #[.int .i64 c.k0, .int .i64 c.k1, .int .i64 c.k2, .int .i64 c.a0, .int .i64 c.a1, .int .i64 c.a2, .slice c.ta c.tl c.tc, .int .i64 c.per, .int .i64 c.ret, .int .i64 c.age, .int .i64 c.dead] 25)).alloc (.cells #[.bool O.a, .bool O.b, .bool O.c] 27)).alloc (.cells #[.string p.id, .int .i64 p.prio, .bool true, .int .i64 p.r0, .int .i64 p.r1, .int .i64 p.r2, .int .i64 p.l0, .int .i64 p.l1, .int .i64 p.l2, .string p.img, .int .i64 p.size] 29)).cell? ⟨w.heap.size + 2, 1, none⟩ = some (.int .i64 p.prio) := by first | (simp; done) | (rw [World.cell?_alloc_at _ _ _ _ (by simp)]; rfl) | (rw [World.cell?_alloc_past _ _ _ (by simp <;> omega), World.cell?_alloc_at _ _ _ _ (by simp)]; rfl) | (rw [World.cell?_alloc_past _ _ _ (by simp <;> omega), World.cell?_alloc_past _ _ _ (by simp <;> omega), World.cell?_alloc_at _ _ _ _ (by simp)]; rfl)
  have pp2 : (((w.alloc (.cells #[.int .i64 c.k0, .int .i64 c.k1, .int .i64 c.k2, .int .i64 c.a0, .int .i64 c.a1, .int .i64 c.a2, .slice c.ta c.tl c.tc, .int .i64 c.per, .int .i64 c.ret, .int .i64 c.age, .int .i64 c.dead] 25)).alloc (.cells #[.bool O.a, .bool O.b, .bool O.c] 27)).alloc (.cells #[.string p.id, .int .i64 p.prio, .bool true, .int .i64 p.r0, .int .i64 p.r1, .int .i64 p.r2, .int .i64 p.l0, .int .i64 p.l1, .int .i64 p.l2, .string p.img, .int .i64 p.size] 29)).cell? ⟨w.heap.size + 2, 2, none⟩ = some (.bool true) := by first | (simp; done) | (rw [World.cell?_alloc_at _ _ _ _ (by simp)]; rfl) | (rw [World.cell?_alloc_past _ _ _ (by simp <;> omega), World.cell?_alloc_at _ _ _ _ (by simp)]; rfl) | (rw [World.cell?_alloc_past _ _ _ (by simp <;> omega), World.cell?_alloc_past _ _ _ (by simp <;> omega), World.cell?_alloc_at _ _ _ _ (by simp)]; rfl)
  have pp3 : (((w.alloc (.cells #[.int .i64 c.k0, .int .i64 c.k1, .int .i64 c.k2, .int .i64 c.a0, .int .i64 c.a1, .int .i64 c.a2, .slice c.ta c.tl c.tc, .int .i64 c.per, .int .i64 c.ret, .int .i64 c.age, .int .i64 c.dead] 25)).alloc (.cells #[.bool O.a, .bool O.b, .bool O.c] 27)).alloc (.cells #[.string p.id, .int .i64 p.prio, .bool true, .int .i64 p.r0, .int .i64 p.r1, .int .i64 p.r2, .int .i64 p.l0, .int .i64 p.l1, .int .i64 p.l2, .string p.img, .int .i64 p.size] 29)).cell? ⟨w.heap.size + 2, 3, none⟩ = some (.int .i64 p.r0) := by first | (simp; done) | (rw [World.cell?_alloc_at _ _ _ _ (by simp)]; rfl) | (rw [World.cell?_alloc_past _ _ _ (by simp <;> omega), World.cell?_alloc_at _ _ _ _ (by simp)]; rfl) | (rw [World.cell?_alloc_past _ _ _ (by simp <;> omega), World.cell?_alloc_past _ _ _ (by simp <;> omega), World.cell?_alloc_at _ _ _ _ (by simp)]; rfl)
  have pp4 : (((w.alloc (.cells #[.int .i64 c.k0, .int .i64 c.k1, .int .i64 c.k2, .int .i64 c.a0, .int .i64 c.a1, .int .i64 c.a2, .slice c.ta c.tl c.tc, .int .i64 c.per, .int .i64 c.ret, .int .i64 c.age, .int .i64 c.dead] 25)).alloc (.cells #[.bool O.a, .bool O.b, .bool O.c] 27)).alloc (.cells #[.string p.id, .int .i64 p.prio, .bool true, .int .i64 p.r0, .int .i64 p.r1, .int .i64 p.r2, .int .i64 p.l0, .int .i64 p.l1, .int .i64 p.l2, .string p.img, .int .i64 p.size] 29)).cell? ⟨w.heap.size + 2, 4, none⟩ = some (.int .i64 p.r1) := by first | (simp; done) | (rw [World.cell?_alloc_at _ _ _ _ (by simp)]; rfl) | (rw [World.cell?_alloc_past _ _ _ (by simp <;> omega), World.cell?_alloc_at _ _ _ _ (by simp)]; rfl) | (rw [World.cell?_alloc_past _ _ _ (by simp <;> omega), World.cell?_alloc_past _ _ _ (by simp <;> omega), World.cell?_alloc_at _ _ _ _ (by simp)]; rfl)
  have pp5 : (((w.alloc (.cells #[.int .i64 c.k0, .int .i64 c.k1, .int .i64 c.k2, .int .i64 c.a0, .int .i64 c.a1, .int .i64 c.a2, .slice c.ta c.tl c.tc, .int .i64 c.per, .int .i64 c.ret, .int .i64 c.age, .int .i64 c.dead] 25)).alloc (.cells #[.bool O.a, .bool O.b, .bool O.c] 27)).alloc (.cells #[.string p.id, .int .i64 p.prio, .bool true, .int .i64 p.r0, .int .i64 p.r1, .int .i64 p.r2, .int .i64 p.l0, .int .i64 p.l1, .int .i64 p.l2, .string p.img, .int .i64 p.size] 29)).cell? ⟨w.heap.size + 2, 5, none⟩ = some (.int .i64 p.r2) := by first | (simp; done) | (rw [World.cell?_alloc_at _ _ _ _ (by simp)]; rfl) | (rw [World.cell?_alloc_past _ _ _ (by simp <;> omega), World.cell?_alloc_at _ _ _ _ (by simp)]; rfl) | (rw [World.cell?_alloc_past _ _ _ (by simp <;> omega), World.cell?_alloc_past _ _ _ (by simp <;> omega), World.cell?_alloc_at _ _ _ _ (by simp)]; rfl)
  have pp6 : (((w.alloc (.cells #[.int .i64 c.k0, .int .i64 c.k1, .int .i64 c.k2, .int .i64 c.a0, .int .i64 c.a1, .int .i64 c.a2, .slice c.ta c.tl c.tc, .int .i64 c.per, .int .i64 c.ret, .int .i64 c.age, .int .i64 c.dead] 25)).alloc (.cells #[.bool O.a, .bool O.b, .bool O.c] 27)).alloc (.cells #[.string p.id, .int .i64 p.prio, .bool true, .int .i64 p.r0, .int .i64 p.r1, .int .i64 p.r2, .int .i64 p.l0, .int .i64 p.l1, .int .i64 p.l2, .string p.img, .int .i64 p.size] 29)).cell? ⟨w.heap.size + 2, 6, none⟩ = some (.int .i64 p.l0) := by first | (simp; done) | (rw [World.cell?_alloc_at _ _ _ _ (by simp)]; rfl) | (rw [World.cell?_alloc_past _ _ _ (by simp <;> omega), World.cell?_alloc_at _ _ _ _ (by simp)]; rfl) | (rw [World.cell?_alloc_past _ _ _ (by simp <;> omega), World.cell?_alloc_past _ _ _ (by simp <;> omega), World.cell?_alloc_at _ _ _ _ (by simp)]; rfl)
  have pp7 : (((w.alloc (.cells #[.int .i64 c.k0, .int .i64 c.k1, .int .i64 c.k2, .int .i64 c.a0, .int .i64 c.a1, .int .i64 c.a2, .slice c.ta c.tl c.tc, .int .i64 c.per, .int .i64 c.ret, .int .i64 c.age, .int .i64 c.dead] 25)).alloc (.cells #[.bool O.a, .bool O.b, .bool O.c] 27)).alloc (.cells #[.string p.id, .int .i64 p.prio, .bool true, .int .i64 p.r0, .int .i64 p.r1, .int .i64 p.r2, .int .i64 p.l0, .int .i64 p.l1, .int .i64 p.l2, .string p.img, .int .i64 p.size] 29)).cell? ⟨w.heap.size + 2, 7, none⟩ = some (.int .i64 p.l1) := by first | (simp; done) | (rw [World.cell?_alloc_at _ _ _ _ (by simp)]; rfl) | (rw [World.cell?_alloc_past _ _ _ (by simp <;> omega), World.cell?_alloc_at _ _ _ _ (by simp)]; rfl) | (rw [World.cell?_alloc_past _ _ _ (by simp <;> omega), World.cell?_alloc_past _ _ _ (by simp <;> omega), World.cell?_alloc_at _ _ _ _ (by simp)]; rfl)
  have pp8 : (((w.alloc (.cells #[.int .i64 c.k0, .int .i64 c.k1, .int .i64 c.k2, .int .i64 c.a0, .int .i64 c.a1, .int .i64 c.a2, .slice c.ta c.tl c.tc, .int .i64 c.per, .int .i64 c.ret, .int .i64 c.age, .int .i64 c.dead] 25)).alloc (.cells #[.bool O.a, .bool O.b, .bool O.c] 27)).alloc (.cells #[.string p.id, .int .i64 p.prio, .bool true, .int .i64 p.r0, .int .i64 p.r1, .int .i64 p.r2, .int .i64 p.l0, .int .i64 p.l1, .int .i64 p.l2, .string p.img, .int .i64 p.size] 29)).cell? ⟨w.heap.size + 2, 8, none⟩ = some (.int .i64 p.l2) := by first | (simp; done) | (rw [World.cell?_alloc_at _ _ _ _ (by simp)]; rfl) | (rw [World.cell?_alloc_past _ _ _ (by simp <;> omega), World.cell?_alloc_at _ _ _ _ (by simp)]; rfl) | (rw [World.cell?_alloc_past _ _ _ (by simp <;> omega), World.cell?_alloc_past _ _ _ (by simp <;> omega), World.cell?_alloc_at _ _ _ _ (by simp)]; rfl)
  have pp9 : (((w.alloc (.cells #[.int .i64 c.k0, .int .i64 c.k1, .int .i64 c.k2, .int .i64 c.a0, .int .i64 c.a1, .int .i64 c.a2, .slice c.ta c.tl c.tc, .int .i64 c.per, .int .i64 c.ret, .int .i64 c.age, .int .i64 c.dead] 25)).alloc (.cells #[.bool O.a, .bool O.b, .bool O.c] 27)).alloc (.cells #[.string p.id, .int .i64 p.prio, .bool true, .int .i64 p.r0, .int .i64 p.r1, .int .i64 p.r2, .int .i64 p.l0, .int .i64 p.l1, .int .i64 p.l2, .string p.img, .int .i64 p.size] 29)).cell? ⟨w.heap.size + 2, 9, none⟩ = some (.string p.img) := by first | (simp; done) | (rw [World.cell?_alloc_at _ _ _ _ (by simp)]; rfl) | (rw [World.cell?_alloc_past _ _ _ (by simp <;> omega), World.cell?_alloc_at _ _ _ _ (by simp)]; rfl) | (rw [World.cell?_alloc_past _ _ _ (by simp <;> omega), World.cell?_alloc_past _ _ _ (by simp <;> omega), World.cell?_alloc_at _ _ _ _ (by simp)]; rfl)
  have pp10 : (((w.alloc (.cells #[.int .i64 c.k0, .int .i64 c.k1, .int .i64 c.k2, .int .i64 c.a0, .int .i64 c.a1, .int .i64 c.a2, .slice c.ta c.tl c.tc, .int .i64 c.per, .int .i64 c.ret, .int .i64 c.age, .int .i64 c.dead] 25)).alloc (.cells #[.bool O.a, .bool O.b, .bool O.c] 27)).alloc (.cells #[.string p.id, .int .i64 p.prio, .bool true, .int .i64 p.r0, .int .i64 p.r1, .int .i64 p.r2, .int .i64 p.l0, .int .i64 p.l1, .int .i64 p.l2, .string p.img, .int .i64 p.size] 29)).cell? ⟨w.heap.size + 2, 10, none⟩ = some (.int .i64 p.size) := by first | (simp; done) | (rw [World.cell?_alloc_at _ _ _ _ (by simp)]; rfl) | (rw [World.cell?_alloc_past _ _ _ (by simp <;> omega), World.cell?_alloc_at _ _ _ _ (by simp)]; rfl) | (rw [World.cell?_alloc_past _ _ _ (by simp <;> omega), World.cell?_alloc_past _ _ _ (by simp <;> omega), World.cell?_alloc_at _ _ _ _ (by simp)]; rfl)
  have hb2 := (by repeat (first | exact hbel | refine belAlloc ?_ _ | refine belDrew ?_ | refine belSet ?_ _ _ (by simp)) : Below w.heap.size w (((w.alloc (.cells #[.int .i64 c.k0, .int .i64 c.k1, .int .i64 c.k2, .int .i64 c.a0, .int .i64 c.a1, .int .i64 c.a2, .slice c.ta c.tl c.tc, .int .i64 c.per, .int .i64 c.ret, .int .i64 c.age, .int .i64 c.dead] 25)).alloc (.cells #[.bool O.a, .bool O.b, .bool O.c] 27)).alloc (.cells #[.string p.id, .int .i64 p.prio, .bool true, .int .i64 p.r0, .int .i64 p.r1, .int .i64 p.r2, .int .i64 p.l0, .int .i64 p.l1, .int .i64 p.l2, .string p.img, .int .i64 p.size] 29)))
  replace hw := belStep hw hb2
  clear hb2 hbel
  generalize ((w.alloc (.cells #[.int .i64 c.k0, .int .i64 c.k1, .int .i64 c.k2, .int .i64 c.a0, .int .i64 c.a1, .int .i64 c.a2, .slice c.ta c.tl c.tc, .int .i64 c.per, .int .i64 c.ret, .int .i64 c.age, .int .i64 c.dead] 25)).alloc (.cells #[.bool O.a, .bool O.b, .bool O.c] 27)).alloc (.cells #[.string p.id, .int .i64 p.prio, .bool true, .int .i64 p.r0, .int .i64 p.r1, .int .i64 p.r2, .int .i64 p.l0, .int .i64 p.l1, .int .i64 p.l2, .string p.img, .int .i64 p.size] 29) = W1 at *
  replace cc0 := keep cc0
  replace cc1 := keep cc1
  replace cc2 := keep cc2
  replace cc3 := keep cc3
  replace cc4 := keep cc4
  replace cc5 := keep cc5
  replace cc6 := keep cc6
  replace cc7 := keep cc7
  replace cc8 := keep cc8
  replace cc9 := keep cc9
  replace cc10 := keep cc10
  replace oo0 := keep oo0
  replace oo1 := keep oo1
  replace oo2 := keep oo2
  replace pp0 := keep pp0
  replace pp1 := keep pp1
  replace pp2 := keep pp2
  replace pp3 := keep pp3
  replace pp4 := keep pp4
  replace pp5 := keep pp5
  replace pp6 := keep pp6
  replace pp7 := keep pp7
  replace pp8 := keep pp8
  replace pp9 := keep pp9
  replace pp10 := keep pp10
  have hbel : Below W1.heap.size W1 W1 := Below.refl _ _
  skip
  obtain ⟨q, e0, e1, hqc, e3, e4, e5, e6, e7, e8, e9, e10⟩ : ∃ q : PodV, p.id = q.id ∧ p.prio = q.prio ∧ q.crit = true ∧ p.r0 = q.r0 ∧ p.r1 = q.r1 ∧ p.r2 = q.r2 ∧ p.l0 = q.l0 ∧ p.l1 = q.l1 ∧ p.l2 = q.l2 ∧ p.img = q.img ∧ p.size = q.size := ⟨⟨p.id, p.prio, true, p.r0, p.r1, p.r2, p.l0, p.l1, p.l2, p.img, p.size⟩, rfl, rfl, rfl, rfl, rfl, rfl, rfl, rfl, rfl, rfl, rfl⟩
  simp only [e0] at pp0
  simp only [e1] at pp1
  simp only [e3] at pp3
  simp only [e4] at pp4
  simp only [e5] at pp5
  simp only [e6] at pp6
  simp only [e7] at pp7
  simp only [e8] at pp8
  simp only [e9] at pp9
  simp only [e10] at pp10
  simp only [← hqc] at pp2
  have HQO := Lib.hid (show q.ok from by have h := HPO.out; unfold PodV.ok at *; rw [← e0, ← e1, ← e3, ← e4, ← e5, ← e6, ← e7, ← e8, ← e9, ← e10]; exact h)
  have HQC := Lib.hid hqc
  obtain ⟨sm, hsm⟩ : ∃ b, smallB q = b := ⟨_, rfl⟩
  have CSM := Lib.hid (fun v => hsm ▸ pref_Small q v HQO.out)
  clear hsm e0 e1 hqc e3 e4 e5 e6 e7 e8 e9 e10
  go_upto_region 4 with (first | (go_at_call 10; (with_reducible refine (awake23 _).mono ?_); rintro e w1 ⟨rfl, hb1⟩; replace hbel := belStep hbel hb1; clear hb1) | (go_at_call 11; (with_reducible refine (CRT.out _ (belStep hw hbel)).mono ?_); rintro e w2 ⟨⟨b, rfl, hq⟩, hb2⟩; replace hbel := belStep hbel hb2; clear hb2; have HC := Lib.hid hq; clear hq; rcases b with _ | _) | (go_at_call 12; (with_reducible refine (CFT.out _ (belStep hw hbel)).mono ?_); rintro e w3 ⟨⟨b, rfl, hq⟩, hb3⟩; replace hbel := belStep hbel hb3; clear hb3; have HT := Lib.hid hq; clear hq; rcases b with _ | _) | (go_at_call 13; (with_reducible refine (CSM.out _).mono ?_); rintro e w4 ⟨rfl, hb4⟩; replace hbel := belStep hbel hb4; clear hb4; rcases sm with _ | _))
  · go_ret
    exact ⟨rfl, belStep hw hbel⟩
  · go_ret
    exact ⟨rfl, belStep hw hbel⟩
  · go_ret
    exact ⟨rfl, belStep hw hbel⟩
  replace HC := Lib.hid (HC.out (by trivial))
  replace HT := Lib.hid (HT.out (by trivial))
  clear CRT CFT CSM
  have hlen : T.length ≤ 64 := HT.out.len
  have hpl : (podsOf T).length ≤ 64 := by rw [podsOf_len]; omega
  have HRO := Lib.hid (show 0 ≤ (⟨c.a0, c.a1, c.a2⟩ : Room).a ∧ 0 ≤ (⟨c.a0, c.a1, c.a2⟩ : Room).b ∧ 0 ≤ (⟨c.a0, c.a1, c.a2⟩ : Room).c from ⟨HC.out.caps.1.2, HC.out.caps.2.1.2, HC.out.caps.2.2.2⟩)
  obtain ⟨⟨⟨k1, g1, G1⟩, er1⟩, hD1⟩ : ∃ D, decideF ⟨c.a0, c.a1, c.a2⟩ T O q = D := ⟨_, rfl⟩
  have CD1 := Lib.hid (show ∀ u : World, Below w.heap.size w u → Calls Try.prog 14 #[.agg #[.int .i64 c.k0, .int .i64 c.k1, .int .i64 c.k2, .int .i64 c.a0, .int .i64 c.a1, .int .i64 c.a2, .slice c.ta c.tl c.tc, .int .i64 c.per, .int .i64 c.ret, .int .i64 c.age, .int .i64 c.dead], .slice a T.length cap, .agg #[.bool O.a, .bool O.b, .bool O.c], .agg #[.string q.id, .int .i64 q.prio, .bool q.crit, .int .i64 q.r0, .int .i64 q.r1, .int .i64 q.r2, .int .i64 q.l0, .int .i64 q.l1, .int .i64 q.l2, .string q.img, .int .i64 q.size]] u fun e w' => (∃ b n, e = .returned (.tuple #[.agg #[.int .i64 k1, .int .i64 g1, .slice b G1.length n], .int .i64 er1]) ∧ OwnS w' u.heap.size (.slice b G1.length n) G1) ∧ Below u.heap.size u w' from fun u hu => by have h := adm_Decide c O q a T.length cap T u rfl (HR.out.later hu) (by omega) HOK.out HT.out.dist (HQO.out); rw [hD1] at h; exact h)
  go_upto_region 5 with (go_at_call 14; (with_reducible refine (CD1.out _ (belStep hw hbel)).mono ?_); rintro e u1 ⟨⟨b1, m1, rfl, ho1⟩, hb1⟩; replace hbel := belStep hbel hb1)
  have HX1 := Lib.hid (row_of_owns ho1)
  clear ho1 hb1
  replace cc0 := keepOnP cc0 hbel
  replace cc1 := keepOnP cc1 hbel
  replace cc2 := keepOnP cc2 hbel
  replace cc3 := keepOnP cc3 hbel
  replace cc4 := keepOnP cc4 hbel
  replace cc5 := keepOnP cc5 hbel
  replace cc6 := keepOnP cc6 hbel
  replace cc7 := keepOnP cc7 hbel
  replace cc8 := keepOnP cc8 hbel
  replace cc9 := keepOnP cc9 hbel
  replace cc10 := keepOnP cc10 hbel
  replace oo0 := keepOnP oo0 hbel
  replace oo1 := keepOnP oo1 hbel
  replace oo2 := keepOnP oo2 hbel
  replace pp0 := keepOnP pp0 hbel
  replace pp1 := keepOnP pp1 hbel
  replace pp2 := keepOnP pp2 hbel
  replace pp3 := keepOnP pp3 hbel
  replace pp4 := keepOnP pp4 hbel
  replace pp5 := keepOnP pp5 hbel
  replace pp6 := keepOnP pp6 hbel
  replace pp7 := keepOnP pp7 hbel
  replace pp8 := keepOnP pp8 hbel
  replace pp9 := keepOnP pp9 hbel
  replace pp10 := keepOnP pp10 hbel
  replace hw := belStep hw hbel
  clear hbel
  generalize u1 = V1 at *
  have hbel : Below V1.heap.size V1 V1 := Below.refl _ _
  have HXN := Lib.hid (HX1.out.later (belAlloc (Below.refl _ _) (.cells #[.int .i64 k1, .int .i64 g1, .slice b1 G1.length m1] 36)))
  clear HX1
  have v10 : (V1.alloc (.cells #[.int .i64 k1, .int .i64 g1, .slice b1 G1.length m1] 36)).cell? ⟨V1.heap.size, 0, none⟩ = some (.int .i64 k1) := by first | (simp; done) | (rw [World.cell?_alloc_at _ _ _ _ (by simp)]; rfl) | (rw [World.cell?_alloc_past _ _ _ (by simp <;> omega), World.cell?_alloc_at _ _ _ _ (by simp)]; rfl) | (rw [World.cell?_alloc_past _ _ _ (by simp <;> omega), World.cell?_alloc_past _ _ _ (by simp <;> omega), World.cell?_alloc_at _ _ _ _ (by simp)]; rfl)
  have v11 : (V1.alloc (.cells #[.int .i64 k1, .int .i64 g1, .slice b1 G1.length m1] 36)).cell? ⟨V1.heap.size, 1, none⟩ = some (.int .i64 g1) := by first | (simp; done) | (rw [World.cell?_alloc_at _ _ _ _ (by simp)]; rfl) | (rw [World.cell?_alloc_past _ _ _ (by simp <;> omega), World.cell?_alloc_at _ _ _ _ (by simp)]; rfl) | (rw [World.cell?_alloc_past _ _ _ (by simp <;> omega), World.cell?_alloc_past _ _ _ (by simp <;> omega), World.cell?_alloc_at _ _ _ _ (by simp)]; rfl)
  have v12 : (V1.alloc (.cells #[.int .i64 k1, .int .i64 g1, .slice b1 G1.length m1] 36)).cell? ⟨V1.heap.size, 2, none⟩ = some (.slice b1 G1.length m1) := by first | (simp; done) | (rw [World.cell?_alloc_at _ _ _ _ (by simp)]; rfl) | (rw [World.cell?_alloc_past _ _ _ (by simp <;> omega), World.cell?_alloc_at _ _ _ _ (by simp)]; rfl) | (rw [World.cell?_alloc_past _ _ _ (by simp <;> omega), World.cell?_alloc_past _ _ _ (by simp <;> omega), World.cell?_alloc_at _ _ _ _ (by simp)]; rfl)
  have hb2 := (by repeat (first | exact hbel | refine belAlloc ?_ _ | refine belDrew ?_ | refine belSet ?_ _ _ (by simp)) : Below V1.heap.size V1 (V1.alloc (.cells #[.int .i64 k1, .int .i64 g1, .slice b1 G1.length m1] 36)))
  replace cc0 := keepOnP cc0 hb2
  replace cc1 := keepOnP cc1 hb2
  replace cc2 := keepOnP cc2 hb2
  replace cc3 := keepOnP cc3 hb2
  replace cc4 := keepOnP cc4 hb2
  replace cc5 := keepOnP cc5 hb2
  replace cc6 := keepOnP cc6 hb2
  replace cc7 := keepOnP cc7 hb2
  replace cc8 := keepOnP cc8 hb2
  replace cc9 := keepOnP cc9 hb2
  replace cc10 := keepOnP cc10 hb2
  replace oo0 := keepOnP oo0 hb2
  replace oo1 := keepOnP oo1 hb2
  replace oo2 := keepOnP oo2 hb2
  replace pp0 := keepOnP pp0 hb2
  replace pp1 := keepOnP pp1 hb2
  replace pp2 := keepOnP pp2 hb2
  replace pp3 := keepOnP pp3 hb2
  replace pp4 := keepOnP pp4 hb2
  replace pp5 := keepOnP pp5 hb2
  replace pp6 := keepOnP pp6 hb2
  replace pp7 := keepOnP pp7 hb2
  replace pp8 := keepOnP pp8 hb2
  replace pp9 := keepOnP pp9 hb2
  replace pp10 := keepOnP pp10 hb2
  replace hw := belStep hw hb2
  clear hb2 hbel
  generalize V1.alloc (.cells #[.int .i64 k1, .int .i64 g1, .slice b1 G1.length m1] 36) = W2 at *
  replace v10 := keep v10
  replace v11 := keep v11
  replace v12 := keep v12
  have hbel : Below W2.heap.size W2 W2 := Below.refl _ _
  skip
  have HX1 := Lib.hid HXN.out
  clear HXN
  clear CD1
  rcases dec_cases hD1 with ⟨her, hr, rfl, rfl, rfl⟩ | ⟨rfl, hr, s, hb, rfl, rfl, rfl⟩ | ⟨rfl, hr, hb, rfl, ⟨rfl, rfl, hc⟩ | ⟨rfl, rfl, hc⟩ | ⟨rfl, hl, hc⟩⟩
  · have hq : (er1 != 0) = true := by simp [her]
    clear hD1 her hr
    go_wp2
    go_ret
    exact ⟨rfl, belStep hw hbel⟩
  · rw [bar_crit HQC.out] at hb
    cases hb
  · simp only [List.length_nil]
    have HFI := Lib.hid (ref0_fit (R := ⟨c.a0, c.a1, c.a2⟩) HRO.out HT.out hr)
    have HCAN := Lib.hid (choose_none hc)
    have HC2 := Lib.hid hc
    clear hD1 hr hb hc
    have CPD := Lib.hid (fun u (hu : Below W2.heap.size W2 u) => aref_Pods a T.length cap T u rfl (HR.out.later (belStep hw hu)) (by omega))
    go_upto_region 8 with (go_at_call 21; (with_reducible refine (CPD.out _ hbel).mono ?_); rintro e u2 ⟨v2, rfl, ho2, hb2⟩; replace hbel := belStep hbel hb2; obtain ⟨ap, cp, ep, hrp⟩ := rowR_of_own ho2; subst ep)
    have HRP := Lib.hid hrp
    clear hrp ho2 hb2 CPD
    have HXV := Lib.hid (HX1.out.later hbel)
    clear HX1
    replace cc0 := keepOnP cc0 hbel
    replace cc1 := keepOnP cc1 hbel
    replace cc2 := keepOnP cc2 hbel
    replace cc3 := keepOnP cc3 hbel
    replace cc4 := keepOnP cc4 hbel
    replace cc5 := keepOnP cc5 hbel
    replace cc6 := keepOnP cc6 hbel
    replace cc7 := keepOnP cc7 hbel
    replace cc8 := keepOnP cc8 hbel
    replace cc9 := keepOnP cc9 hbel
    replace cc10 := keepOnP cc10 hbel
    replace oo0 := keepOnP oo0 hbel
    replace oo1 := keepOnP oo1 hbel
    replace oo2 := keepOnP oo2 hbel
    replace pp0 := keepOnP pp0 hbel
    replace pp1 := keepOnP pp1 hbel
    replace pp2 := keepOnP pp2 hbel
    replace pp3 := keepOnP pp3 hbel
    replace pp4 := keepOnP pp4 hbel
    replace pp5 := keepOnP pp5 hbel
    replace pp6 := keepOnP pp6 hbel
    replace pp7 := keepOnP pp7 hbel
    replace pp8 := keepOnP pp8 hbel
    replace pp9 := keepOnP pp9 hbel
    replace pp10 := keepOnP pp10 hbel
    replace v10 := keepOnP v10 hbel
    replace v11 := keepOnP v11 hbel
    replace v12 := keepOnP v12 hbel
    replace hw := belStep hw hbel
    clear hbel
    generalize u2 = W3 at *
    have hbel : Below W3.heap.size W3 W3 := Below.refl _ _
    have hbp : (podsOf T).length ≤ cp ∧ cp ≤ 9223372036854775807 := by obtain ⟨_, h1, h2, _⟩ := HRP.out; unfold maxLen at h2; exact ⟨h1, h2⟩
    obtain ⟨hbp1, hbp2⟩ := hbp
    have HPR := Lib.hid (fun u (hu : Below W3.heap.size W3 u) => HRP.out.later hu)
    have HXR := Lib.hid (fun u (hu : Below W3.heap.size W3 u) => HXV.out.later hu)
    clear HRP HXV
    have HOKL := Lib.hid (podsOf_ok HOK.out)
    have CFX := Lib.hid (fun u (hu : Below W3.heap.size W3 u) => vref_Fixed q ap _ cp (podsOf T) u rfl (HPR.out u hu) (by omega))
    obtain ⟨FQ, hFQ⟩ : ∃ s, stF (podsOf T) q ++ [q] = s := ⟨_, rfl⟩
    have HFO := Lib.hid (show ∀ x ∈ FQ, x.ok from hFQ ▸ (ok_snoc (fun x hx => HOKL.out x (List.mem_filter.1 hx).1) HQO.out))
    have HFR := Lib.hid (show ∀ x ∈ FQ, rightB x = true from hFQ ▸ (fun x hx => (List.mem_append.1 hx).elim (fun h => (HFI.out.rl x (List.mem_filter.1 h).1).1) (fun h => by simp at h; subst h; exact HFI.out.rp)))
    rw [hFQ] at CFX HCAN
    clear hFQ
    clear hbel
    refine wp_region_held_drew (S := fun u => Below W3.heap.size W3 u) (by kernel_rfl) (by exact (show Below W3.heap.size W3 _ by repeat (first | assumption | exact Below.refl _ _ | refine belDrew ?_ | refine belAlloc ?_ _ | refine belStep ?_ (by assumption)))) (fun hHeld => ?_)
    refine wpAnyH_take (i := 0) (oi := ?oi_k1) (v := ?v_k1) ?hi_k1 (by kernel_rfl) ?hf_k1 ?hr_k1 ?hQ_k1 (Or.inl ⟨?hw_k1, ?hy_k1⟩) (by assumption) ?rest_k1
    case hi_k1 => ((simp only [List.getElem?_toArray, List.getElem?_cons_succ, List.getElem?_cons_zero]); rfl)
    case hf_k1 => kernel_rfl
    case hr_k1 => kernel_rfl
    case hQ_k1 => exact fun _ _ _ h => h
    case hw_k1 => rfl
    case hy_k1 => ((intro w hSw; (try dsimp only at hSw); go_simp); all_goals (with_reducible rfl))
    try simp only [Act.put, List.setIfInBounds_toArray, List.set_cons_zero, List.set_cons_succ]
    refine wpAnyH_take (i := 1) (oi := ?oi_k2) (v := ?v_k2) ?hi_k2 (by kernel_rfl) ?hf_k2 ?hr_k2 ?hQ_k2 (Or.inl ⟨?hw_k2, ?hy_k2⟩) (by assumption) ?rest_k2
    case hi_k2 => ((simp only [List.getElem?_toArray, List.getElem?_cons_succ, List.getElem?_cons_zero]); rfl)
    case hf_k2 => kernel_rfl
    case hr_k2 => kernel_rfl
    case hQ_k2 => exact fun _ _ _ h => h
    case hw_k2 => rfl
    case hy_k2 => ((intro w hSw; (try dsimp only at hSw); go_simp); all_goals (with_reducible rfl))
    try simp only [Act.put, List.setIfInBounds_toArray, List.set_cons_zero, List.set_cons_succ]
    refine wpAnyH_take (i := 2) (oi := ?oi_k3) (v := ?v_k3) ?hi_k3 (by kernel_rfl) ?hf_k3 ?hr_k3 ?hQ_k3 (Or.inl ⟨?hw_k3, ?hy_k3⟩) (by assumption) ?rest_k3
    case hi_k3 => ((simp only [List.getElem?_toArray, List.getElem?_cons_succ, List.getElem?_cons_zero]); rfl)
    case hf_k3 => kernel_rfl
    case hr_k3 => kernel_rfl
    case hQ_k3 => exact fun _ _ _ h => h
    case hw_k3 => rfl
    case hy_k3 => ((intro w hSw; (try dsimp only at hSw); go_simp); all_goals (with_reducible rfl))
    try simp only [Act.put, List.setIfInBounds_toArray, List.set_cons_zero, List.set_cons_succ]
    refine wpAnyH_take (i := 3) (oi := ?oi_k4) (v := ?v_k4) ?hi_k4 (by kernel_rfl) ?hf_k4 ?hr_k4 ?hQ_k4 (Or.inl ⟨?hw_k4, ?hy_k4⟩) (by assumption) ?rest_k4
    case hi_k4 => ((simp only [List.getElem?_toArray, List.getElem?_cons_succ, List.getElem?_cons_zero]); rfl)
    case hf_k4 => kernel_rfl
    case hr_k4 => kernel_rfl
    case hQ_k4 => exact fun _ _ _ h => h
    case hw_k4 => rfl
    case hy_k4 => ((intro w hSw; (try dsimp only at hSw); go_simp); all_goals (with_reducible rfl))
    try simp only [Act.put, List.setIfInBounds_toArray, List.set_cons_zero, List.set_cons_succ]
    refine wpAnyH_ready (rs := [4]) (by kernel_rfl) (by simp) ?_
    refine AllReadyH.cons (o := ?o1_k5) ?hi_k5 (fun K hK => ?rest_k5) AllReadyH.nil
    case hi_k5 => ((simp only [List.getElem?_toArray, List.getElem?_cons_succ, List.getElem?_cons_zero]); rfl)
    go_simp
    (go_at_call 23; (with_reducible refine (CFX.out _ hHeld).mono ?_); rintro e w5 ⟨v5, rfl, ho5, hb5⟩)
    try go_simp
    refine hK.out _ _ (by exact (show Below W3.heap.size W3 _ by repeat (first | assumption | exact Below.refl _ _ | refine belDrew ?_ | refine belAlloc ?_ _ | refine belStep ?_ (by assumption)))) (fun hHeld => ?_)
    clear hK K
    try simp only [Act.put, List.setIfInBounds_toArray, List.set_cons_zero, List.set_cons_succ]
    obtain ⟨a5, c5, e5, hr5⟩ := rowR_of_own ho5
    subst e5
    have CW5 := Lib.hid (show Calls Try.prog 22 #[.agg #[.int .i64 c.a0, .int .i64 c.a1, .int .i64 c.a2], .slice a5 FQ.length c5] w5 fun e w' => e = .returned (.bool false) ∧ Below w5.heap.size w5 w' from by have h := rref_Within ⟨c.a0, c.a1, c.a2⟩ a5 _ c5 FQ w5 rfl HFO.out hr5 HFR.out ⟨HRO.out.1, HCO.out.ca.1⟩ ⟨HRO.out.2.1, HCO.out.ca.2.1⟩ ⟨HRO.out.2.2, HCO.out.ca.2.2⟩; rw [show fitsB ⟨c.a0, c.a1, c.a2⟩ FQ = false from HCAN.out] at h; exact h)
    clear ho5 hr5
    refine wpAnyH_ready (rs := [5]) (by kernel_rfl) (by simp) ?_
    refine AllReadyH.cons (o := ?o1_k6) ?hi_k6 (fun K hK => ?rest_k6) AllReadyH.nil
    case hi_k6 => ((simp only [List.getElem?_toArray, List.getElem?_cons_succ, List.getElem?_cons_zero]); rfl)
    go_simp
    (go_at_call 22; (with_reducible refine CW5.out.mono ?_); rintro e w6 ⟨rfl, hb6⟩)
    try go_simp
    refine hK.out _ _ (by exact (show Below W3.heap.size W3 _ by repeat (first | assumption | exact Below.refl _ _ | refine belDrew ?_ | refine belAlloc ?_ _ | refine belStep ?_ (by assumption)))) (fun hHeld => ?_)
    clear hK K
    try simp only [Act.put, List.setIfInBounds_toArray, List.set_cons_zero, List.set_cons_succ]
    refine wpAnyH_take (i := 6) (oi := ?oi_k7) (v := ?v_k7) ?hi_k7 (by kernel_rfl) ?hf_k7 ?hr_k7 ?hQ_k7 (Or.inl ⟨?hw_k7, ?hy_k7⟩) (by assumption) ?rest_k7
    case hi_k7 => ((simp only [List.getElem?_toArray, List.getElem?_cons_succ, List.getElem?_cons_zero]); rfl)
    case hf_k7 => kernel_rfl
    case hr_k7 => kernel_rfl
    case hQ_k7 => exact fun _ _ _ h => h
    case hw_k7 => rfl
    case hy_k7 => ((intro w hSw; (try dsimp only at hSw); go_simp); all_goals (with_reducible rfl))
    try simp only [Act.put, List.setIfInBounds_toArray, List.set_cons_zero, List.set_cons_succ]
    refine wpAnyH_done (by kernel_rfl) ?_ _
    have hbel : Below W3.heap.size W3 w6 := hHeld
    clear hHeld CW5 hb6 CFX
    go_wp2
    go_ret
    exact ⟨rfl, belStep hw hbel⟩
  · simp only [List.length_nil]
    have HFI := Lib.hid (ref0_fit (R := ⟨c.a0, c.a1, c.a2⟩) HRO.out HT.out hr)
    have HCAN := Lib.hid (choose_some (ref0_fit (R := ⟨c.a0, c.a1, c.a2⟩) HRO.out HT.out hr) hc)
    have HC2 := Lib.hid hc
    clear hD1 hr hb hc
    have CPD := Lib.hid (fun u (hu : Below W2.heap.size W2 u) => aref_Pods a T.length cap T u rfl (HR.out.later (belStep hw hu)) (by omega))
    go_upto_region 8 with (go_at_call 21; (with_reducible refine (CPD.out _ hbel).mono ?_); rintro e u2 ⟨v2, rfl, ho2, hb2⟩; replace hbel := belStep hbel hb2; obtain ⟨ap, cp, ep, hrp⟩ := rowR_of_own ho2; subst ep)
    have HRP := Lib.hid hrp
    clear hrp ho2 hb2 CPD
    have HXV := Lib.hid (HX1.out.later hbel)
    clear HX1
    replace cc0 := keepOnP cc0 hbel
    replace cc1 := keepOnP cc1 hbel
    replace cc2 := keepOnP cc2 hbel
    replace cc3 := keepOnP cc3 hbel
    replace cc4 := keepOnP cc4 hbel
    replace cc5 := keepOnP cc5 hbel
    replace cc6 := keepOnP cc6 hbel
    replace cc7 := keepOnP cc7 hbel
    replace cc8 := keepOnP cc8 hbel
    replace cc9 := keepOnP cc9 hbel
    replace cc10 := keepOnP cc10 hbel
    replace oo0 := keepOnP oo0 hbel
    replace oo1 := keepOnP oo1 hbel
    replace oo2 := keepOnP oo2 hbel
    replace pp0 := keepOnP pp0 hbel
    replace pp1 := keepOnP pp1 hbel
    replace pp2 := keepOnP pp2 hbel
    replace pp3 := keepOnP pp3 hbel
    replace pp4 := keepOnP pp4 hbel
    replace pp5 := keepOnP pp5 hbel
    replace pp6 := keepOnP pp6 hbel
    replace pp7 := keepOnP pp7 hbel
    replace pp8 := keepOnP pp8 hbel
    replace pp9 := keepOnP pp9 hbel
    replace pp10 := keepOnP pp10 hbel
    replace v10 := keepOnP v10 hbel
    replace v11 := keepOnP v11 hbel
    replace v12 := keepOnP v12 hbel
    replace hw := belStep hw hbel
    clear hbel
    generalize u2 = W3 at *
    have hbel : Below W3.heap.size W3 W3 := Below.refl _ _
    have hbp : (podsOf T).length ≤ cp ∧ cp ≤ 9223372036854775807 := by obtain ⟨_, h1, h2, _⟩ := HRP.out; unfold maxLen at h2; exact ⟨h1, h2⟩
    obtain ⟨hbp1, hbp2⟩ := hbp
    have HPR := Lib.hid (fun u (hu : Below W3.heap.size W3 u) => HRP.out.later hu)
    have HXR := Lib.hid (fun u (hu : Below W3.heap.size W3 u) => HXV.out.later hu)
    clear HRP HXV
    have HOKL := Lib.hid (podsOf_ok HOK.out)
    have CFX := Lib.hid (fun u (hu : Below W3.heap.size W3 u) => vref_Fixed q ap _ cp (podsOf T) u rfl (HPR.out u hu) (by omega))
    obtain ⟨FQ, hFQ⟩ : ∃ s, stF (podsOf T) q ++ [q] = s := ⟨_, rfl⟩
    have HFO := Lib.hid (show ∀ x ∈ FQ, x.ok from hFQ ▸ (ok_snoc (fun x hx => HOKL.out x (List.mem_filter.1 hx).1) HQO.out))
    have HFR := Lib.hid (show ∀ x ∈ FQ, rightB x = true from hFQ ▸ (fun x hx => (List.mem_append.1 hx).elim (fun h => (HFI.out.rl x (List.mem_filter.1 h).1).1) (fun h => by simp at h; subst h; exact HFI.out.rp)))
    rw [hFQ] at CFX HCAN
    clear hFQ
    clear hbel
    refine wp_region_held_drew (S := fun u => Below W3.heap.size W3 u) (by kernel_rfl) (by exact (show Below W3.heap.size W3 _ by repeat (first | assumption | exact Below.refl _ _ | refine belDrew ?_ | refine belAlloc ?_ _ | refine belStep ?_ (by assumption)))) (fun hHeld => ?_)
    refine wpAnyH_take (i := 0) (oi := ?oi_k8) (v := ?v_k8) ?hi_k8 (by kernel_rfl) ?hf_k8 ?hr_k8 ?hQ_k8 (Or.inl ⟨?hw_k8, ?hy_k8⟩) (by assumption) ?rest_k8
    case hi_k8 => ((simp only [List.getElem?_toArray, List.getElem?_cons_succ, List.getElem?_cons_zero]); rfl)
    case hf_k8 => kernel_rfl
    case hr_k8 => kernel_rfl
    case hQ_k8 => exact fun _ _ _ h => h
    case hw_k8 => rfl
    case hy_k8 => ((intro w hSw; (try dsimp only at hSw); go_simp); all_goals (with_reducible rfl))
    try simp only [Act.put, List.setIfInBounds_toArray, List.set_cons_zero, List.set_cons_succ]
    refine wpAnyH_take (i := 1) (oi := ?oi_k9) (v := ?v_k9) ?hi_k9 (by kernel_rfl) ?hf_k9 ?hr_k9 ?hQ_k9 (Or.inl ⟨?hw_k9, ?hy_k9⟩) (by assumption) ?rest_k9
    case hi_k9 => ((simp only [List.getElem?_toArray, List.getElem?_cons_succ, List.getElem?_cons_zero]); rfl)
    case hf_k9 => kernel_rfl
    case hr_k9 => kernel_rfl
    case hQ_k9 => exact fun _ _ _ h => h
    case hw_k9 => rfl
    case hy_k9 => ((intro w hSw; (try dsimp only at hSw); go_simp); all_goals (with_reducible rfl))
    try simp only [Act.put, List.setIfInBounds_toArray, List.set_cons_zero, List.set_cons_succ]
    refine wpAnyH_take (i := 2) (oi := ?oi_k10) (v := ?v_k10) ?hi_k10 (by kernel_rfl) ?hf_k10 ?hr_k10 ?hQ_k10 (Or.inl ⟨?hw_k10, ?hy_k10⟩) (by assumption) ?rest_k10
    case hi_k10 => ((simp only [List.getElem?_toArray, List.getElem?_cons_succ, List.getElem?_cons_zero]); rfl)
    case hf_k10 => kernel_rfl
    case hr_k10 => kernel_rfl
    case hQ_k10 => exact fun _ _ _ h => h
    case hw_k10 => rfl
    case hy_k10 => ((intro w hSw; (try dsimp only at hSw); go_simp); all_goals (with_reducible rfl))
    try simp only [Act.put, List.setIfInBounds_toArray, List.set_cons_zero, List.set_cons_succ]
    refine wpAnyH_take (i := 3) (oi := ?oi_k11) (v := ?v_k11) ?hi_k11 (by kernel_rfl) ?hf_k11 ?hr_k11 ?hQ_k11 (Or.inl ⟨?hw_k11, ?hy_k11⟩) (by assumption) ?rest_k11
    case hi_k11 => ((simp only [List.getElem?_toArray, List.getElem?_cons_succ, List.getElem?_cons_zero]); rfl)
    case hf_k11 => kernel_rfl
    case hr_k11 => kernel_rfl
    case hQ_k11 => exact fun _ _ _ h => h
    case hw_k11 => rfl
    case hy_k11 => ((intro w hSw; (try dsimp only at hSw); go_simp); all_goals (with_reducible rfl))
    try simp only [Act.put, List.setIfInBounds_toArray, List.set_cons_zero, List.set_cons_succ]
    refine wpAnyH_ready (rs := [4]) (by kernel_rfl) (by simp) ?_
    refine AllReadyH.cons (o := ?o1_k12) ?hi_k12 (fun K hK => ?rest_k12) AllReadyH.nil
    case hi_k12 => ((simp only [List.getElem?_toArray, List.getElem?_cons_succ, List.getElem?_cons_zero]); rfl)
    go_simp
    (go_at_call 23; (with_reducible refine (CFX.out _ hHeld).mono ?_); rintro e w5 ⟨v5, rfl, ho5, hb5⟩)
    try go_simp
    refine hK.out _ _ (by exact (show Below W3.heap.size W3 _ by repeat (first | assumption | exact Below.refl _ _ | refine belDrew ?_ | refine belAlloc ?_ _ | refine belStep ?_ (by assumption)))) (fun hHeld => ?_)
    clear hK K
    try simp only [Act.put, List.setIfInBounds_toArray, List.set_cons_zero, List.set_cons_succ]
    obtain ⟨a5, c5, e5, hr5⟩ := rowR_of_own ho5
    subst e5
    have CW5 := Lib.hid (show Calls Try.prog 22 #[.agg #[.int .i64 c.a0, .int .i64 c.a1, .int .i64 c.a2], .slice a5 FQ.length c5] w5 fun e w' => e = .returned (.bool true) ∧ Below w5.heap.size w5 w' from by have h := rref_Within ⟨c.a0, c.a1, c.a2⟩ a5 _ c5 FQ w5 rfl HFO.out hr5 HFR.out ⟨HRO.out.1, HCO.out.ca.1⟩ ⟨HRO.out.2.1, HCO.out.ca.2.1⟩ ⟨HRO.out.2.2, HCO.out.ca.2.2⟩; rw [show fitsB ⟨c.a0, c.a1, c.a2⟩ FQ = true from HCAN.out] at h; exact h)
    clear ho5 hr5
    refine wpAnyH_ready (rs := [5]) (by kernel_rfl) (by simp) ?_
    refine AllReadyH.cons (o := ?o1_k13) ?hi_k13 (fun K hK => ?rest_k13) AllReadyH.nil
    case hi_k13 => ((simp only [List.getElem?_toArray, List.getElem?_cons_succ, List.getElem?_cons_zero]); rfl)
    go_simp
    (go_at_call 22; (with_reducible refine CW5.out.mono ?_); rintro e w6 ⟨rfl, hb6⟩)
    try go_simp
    refine hK.out _ _ (by exact (show Below W3.heap.size W3 _ by repeat (first | assumption | exact Below.refl _ _ | refine belDrew ?_ | refine belAlloc ?_ _ | refine belStep ?_ (by assumption)))) (fun hHeld => ?_)
    clear hK K
    try simp only [Act.put, List.setIfInBounds_toArray, List.set_cons_zero, List.set_cons_succ]
    refine wpAnyH_take (i := 6) (oi := ?oi_k14) (v := ?v_k14) ?hi_k14 (by kernel_rfl) ?hf_k14 ?hr_k14 ?hQ_k14 (Or.inl ⟨?hw_k14, ?hy_k14⟩) (by assumption) ?rest_k14
    case hi_k14 => ((simp only [List.getElem?_toArray, List.getElem?_cons_succ, List.getElem?_cons_zero]); rfl)
    case hf_k14 => kernel_rfl
    case hr_k14 => kernel_rfl
    case hQ_k14 => exact fun _ _ _ h => h
    case hw_k14 => rfl
    case hy_k14 => ((intro w hSw; (try dsimp only at hSw); go_simp); all_goals (with_reducible rfl))
    try simp only [Act.put, List.setIfInBounds_toArray, List.set_cons_zero, List.set_cons_succ]
    refine wpAnyH_done (by kernel_rfl) ?_ _
    have hbel : Below W3.heap.size W3 w6 := hHeld
    clear hHeld CW5 hb6 CFX
    have HM := Lib.hid (min_ok HFI.out HC2.out)
    have HKR := Lib.hid (kept_right (G := []) HFI.out)
    go_upto_region 11 with fail
    have HKO := Lib.hid (show ∀ x ∈ keptF (podsOf T) [] q, x.ok from fun x hx => (List.mem_append.1 hx).elim (fun h => HOKL.out x (List.mem_filter.1 h).1) (fun h => by simp at h; subst h; exact HQO.out))
    obtain ⟨KQ, hKQ⟩ : ∃ K, (podsOf T).filter (fun x => !hasB [] x.id) = K := ⟨_, rfl⟩
    have hkl : KQ.length ≤ 1000 := by rw [← hKQ]; have := List.length_filter_le (fun x : PodV => !hasB [] x.id) (podsOf T); omega
    have HKE := Lib.hid (show keptF (podsOf T) [] q = KQ ++ [q] by unfold keptF; rw [hKQ])
    have HB36 := Lib.hid hbel
    replace cc0 := keepOnP cc0 hbel
    replace cc1 := keepOnP cc1 hbel
    replace cc2 := keepOnP cc2 hbel
    replace cc3 := keepOnP cc3 hbel
    replace cc4 := keepOnP cc4 hbel
    replace cc5 := keepOnP cc5 hbel
    replace cc6 := keepOnP cc6 hbel
    replace cc7 := keepOnP cc7 hbel
    replace cc8 := keepOnP cc8 hbel
    replace cc9 := keepOnP cc9 hbel
    replace cc10 := keepOnP cc10 hbel
    replace oo0 := keepOnP oo0 hbel
    replace oo1 := keepOnP oo1 hbel
    replace oo2 := keepOnP oo2 hbel
    replace pp0 := keepOnP pp0 hbel
    replace pp1 := keepOnP pp1 hbel
    replace pp2 := keepOnP pp2 hbel
    replace pp3 := keepOnP pp3 hbel
    replace pp4 := keepOnP pp4 hbel
    replace pp5 := keepOnP pp5 hbel
    replace pp6 := keepOnP pp6 hbel
    replace pp7 := keepOnP pp7 hbel
    replace pp8 := keepOnP pp8 hbel
    replace pp9 := keepOnP pp9 hbel
    replace pp10 := keepOnP pp10 hbel
    replace v10 := keepOnP v10 hbel
    replace v11 := keepOnP v11 hbel
    replace v12 := keepOnP v12 hbel
    replace hw := belStep hw hbel
    clear hbel
    generalize w6 = W4 at *
    have hbel : Below W4.heap.size W4 W4 := Below.refl _ _
    have CWO := Lib.hid (fun u (hu : Below W4.heap.size W4 u) => hKQ ▸ vref_Without ap _ cp (podsOf T) b1 0 m1 [] u rfl rfl (HPR.out u (belStep HB36.out hu)) (show Row u b1 0 m1 1 _ from HXR.out u (belStep HB36.out hu)) (by omega))
    clear hKQ hbel
    refine wp_region_held_drew (S := fun u => Below W4.heap.size W4 u) (by kernel_rfl) (by exact (show Below W4.heap.size W4 _ by repeat (first | assumption | exact Below.refl _ _ | refine belDrew ?_ | refine belAlloc ?_ _ | refine belStep ?_ (by assumption)))) (fun hHeld => ?_)
    refine wpAnyH_take (i := 0) (oi := ?oi_k17) (v := ?v_k17) ?hi_k17 (by kernel_rfl) ?hf_k17 ?hr_k17 ?hQ_k17 (Or.inl ⟨?hw_k17, ?hy_k17⟩) (by assumption) ?rest_k17
    case hi_k17 => ((simp only [List.getElem?_toArray, List.getElem?_cons_succ, List.getElem?_cons_zero]); rfl)
    case hf_k17 => kernel_rfl
    case hr_k17 => kernel_rfl
    case hQ_k17 => exact fun _ _ _ h => h
    case hw_k17 => rfl
    case hy_k17 => ((intro w hSw; (try dsimp only at hSw); go_simp); all_goals (with_reducible rfl))
    try simp only [Act.put, List.setIfInBounds_toArray, List.set_cons_zero, List.set_cons_succ]
    refine wpAnyH_take (i := 1) (oi := ?oi_k18) (v := ?v_k18) ?hi_k18 (by kernel_rfl) ?hf_k18 ?hr_k18 ?hQ_k18 (Or.inl ⟨?hw_k18, ?hy_k18⟩) (by assumption) ?rest_k18
    case hi_k18 => ((simp only [List.getElem?_toArray, List.getElem?_cons_succ, List.getElem?_cons_zero]); rfl)
    case hf_k18 => kernel_rfl
    case hr_k18 => kernel_rfl
    case hQ_k18 => exact fun _ _ _ h => h
    case hw_k18 => rfl
    case hy_k18 => ((intro w hSw; (try dsimp only at hSw); go_simp); all_goals (with_reducible rfl))
    try simp only [Act.put, List.setIfInBounds_toArray, List.set_cons_zero, List.set_cons_succ]
    refine wpAnyH_take (i := 2) (oi := ?oi_k19) (v := ?v_k19) ?hi_k19 (by kernel_rfl) ?hf_k19 ?hr_k19 ?hQ_k19 (Or.inl ⟨?hw_k19, ?hy_k19⟩) (by assumption) ?rest_k19
    case hi_k19 => ((simp only [List.getElem?_toArray, List.getElem?_cons_succ, List.getElem?_cons_zero]); rfl)
    case hf_k19 => kernel_rfl
    case hr_k19 => kernel_rfl
    case hQ_k19 => exact fun _ _ _ h => h
    case hw_k19 => rfl
    case hy_k19 => ((intro w hSw; (try dsimp only at hSw); go_simp); all_goals (with_reducible rfl))
    try simp only [Act.put, List.setIfInBounds_toArray, List.set_cons_zero, List.set_cons_succ]
    refine wpAnyH_take (i := 4) (oi := ?oi_k20) (v := ?v_k20) ?hi_k20 (by kernel_rfl) ?hf_k20 ?hr_k20 ?hQ_k20 (Or.inl ⟨?hw_k20, ?hy_k20⟩) (by assumption) ?rest_k20
    case hi_k20 => ((simp only [List.getElem?_toArray, List.getElem?_cons_succ, List.getElem?_cons_zero]); rfl)
    case hf_k20 => kernel_rfl
    case hr_k20 => kernel_rfl
    case hQ_k20 => exact fun _ _ _ h => h
    case hw_k20 => rfl
    case hy_k20 => ((intro w hSw; (try dsimp only at hSw); go_simp); all_goals (with_reducible rfl))
    try simp only [Act.put, List.setIfInBounds_toArray, List.set_cons_zero, List.set_cons_succ]
    refine krip (fun u u' => Below u.heap.size u u') [77, 79] [[], [], [], [], [], [], [3, 5], [3, 5]] [[], [], [], [77], [], [79], [], []] [3, 5] (krF [(3, fun t u => OwnR u (W4.heap.size) 29 11 (t 77) (KQ.length) (KQ.flatMap PodV.cells)), (5, fun t u => ∃ g : Nat, t 79 = .slice (some ⟨g, 0, none⟩) 1 1 ∧ Row u (some ⟨g, 0, none⟩) 1 1 11 (q.cells))]) 2 #[true, true, true, true, true, true, false, false] (by kernel_rfl) (by kernel_rfl) (by kernel_rfl) (by assumption) (AllL.cons ?s_3_q21 (AllL.cons ?s_5_q21 AllL.nil)) (AllL.cons ?o_3_q21 (AllL.cons ?o_5_q21 AllL.nil)) ?e_q21
    case s_3_q21 => exact fun t u u' hle h => OwnR.later h hle
    case s_5_q21 => exact fun t u u' hle ⟨g, e, h⟩ => ⟨g, e, Row.later h hle⟩
    case o_3_q21 =>
      refine KrOp.of (o := ?oo_3_q21) ?hi_3_q21 (fun t u hHeld hF K hK => ?rr_3_q21)
      case hi_3_q21 => ((simp only [List.getElem?_toArray, List.getElem?_cons_succ, List.getElem?_cons_zero]); rfl)
      case rr_3_q21 =>
        clear hF
        simp only [setl, List.foldl_cons, List.foldl_nil, Act.put, List.setIfInBounds_toArray, List.set_cons_zero, List.set_cons_succ] at hK ⊢
        go_simp
        (go_at_call 20; (with_reducible refine (CWO.out _ hHeld).mono ?_); rintro e wq ⟨vq, rfl, hoq, hbq⟩)
        try go_simp
        refine hK.out _ _ (by exact (by repeat (first | assumption | exact Below.refl _ _ | refine belDrew ?_ | refine belAlloc ?_ _ | refine belStep ?_ (by assumption)))) (by exact (show Below W4.heap.size W4 _ by repeat (first | assumption | exact Below.refl _ _ | refine belDrew ?_ | refine belAlloc ?_ _ | refine belStep ?_ (by assumption)))) ?_
        exact OwnR.mono hoq (Below.size hHeld)
    case o_5_q21 =>
      refine KrOp.of (o := ?oo_5_q21) ?hi_5_q21 (fun t u hHeld hF K hK => ?rr_5_q21)
      case hi_5_q21 => ((simp only [List.getElem?_toArray, List.getElem?_cons_succ, List.getElem?_cons_zero]); rfl)
      case rr_5_q21 =>
        clear hF
        simp only [setl, List.foldl_cons, List.foldl_nil, Act.put, List.setIfInBounds_toArray, List.set_cons_zero, List.set_cons_succ] at hK ⊢
        go_simp
        refine hK.out _ _ (by exact (by repeat (first | assumption | exact Below.refl _ _ | refine belDrew ?_ | refine belAlloc ?_ _ | refine belStep ?_ (by assumption)))) (by exact (show Below W4.heap.size W4 _ by repeat (first | assumption | exact Below.refl _ _ | refine belDrew ?_ | refine belAlloc ?_ _ | refine belStep ?_ (by assumption)))) ?_
        exact ⟨_, rfl, row_new _ (q.cells) 29 1 11 rfl (by unfold maxLen; omega)⟩
    case e_q21 =>
      intro t u hHeld hF
      have h3 : OwnR u (W4.heap.size) 29 11 (t 77) (KQ.length) (KQ.flatMap PodV.cells) := hF 3 rfl
      have h5 : ∃ g : Nat, t 79 = .slice (some ⟨g, 0, none⟩) 1 1 ∧ Row u (some ⟨g, 0, none⟩) 1 1 11 (q.cells) := hF 5 rfl
      clear hF
      simp only [setl, List.foldl_cons, List.foldl_nil, Act.put, List.setIfInBounds_toArray, List.set_cons_zero, List.set_cons_succ]
      generalize t 77 = x77 at *
      generalize t 79 = x79 at *
      obtain ⟨g5, rfl, hr5⟩ := h5
      refine wpAnyH_ready (rs := [6]) (by kernel_rfl) (by simp) ?_
      refine AllReadyH.cons (o := ?o1_ta15) ?hi_ta15 (fun K hK => ?rest_ta15) AllReadyH.nil
      case hi_ta15 => ((simp only [List.getElem?_toArray, List.getElem?_cons_succ, List.getElem?_cons_zero]); rfl)
      refine op_appR rfl _ _ 45 rfl (W4.heap.size) 29 _ 11 104 Try.underlying45 info_pod rfl (by decide) _ (KQ.length) _ (by rfl) h3 _ 1 1 (q.cells) (by rfl) hr5 (pod_one _) (by have := hkl; unfold maxLen; omega) (by have := hkl; omega) (Below.size hHeld) ?_
      intro v9 u9 ho9 hb9
      have hu9 : Below W4.heap.size W4 u9 := hHeld.trans hb9
      refine hK.out _ _ (by exact hu9) (fun hHeld => ?_)
      clear hK K hb9
      try simp only [Act.put, List.setIfInBounds_toArray, List.set_cons_zero, List.set_cons_succ]
      refine wpAnyH_take (i := 7) (oi := ?oi_k16) (v := ?v_k16) ?hi_k16 (by kernel_rfl) ?hf_k16 ?hr_k16 ?hQ_k16 (Or.inl ⟨?hw_k16, ?hy_k16⟩) (by assumption) ?rest_k16
      case hi_k16 => ((simp only [List.getElem?_toArray, List.getElem?_cons_succ, List.getElem?_cons_zero]); rfl)
      case hf_k16 => kernel_rfl
      case hr_k16 => kernel_rfl
      case hQ_k16 => exact fun _ _ _ h => h
      case hw_k16 => rfl
      case hy_k16 => ((intro w hSw; (try dsimp only at hSw); go_simp); all_goals (with_reducible rfl))
      try simp only [Act.put, List.setIfInBounds_toArray, List.set_cons_zero, List.set_cons_succ]
      refine wpAnyH_done (by kernel_rfl) ?_ _
      have hbel : Below W4.heap.size W4 u9 := hu9
      have hs9 := own_snoc ho9
      rw [← HKE.out] at hs9
      obtain ⟨SL, hSL⟩ : ∃ s, keptF (podsOf T) [] q = s := ⟨_, rfl⟩
      have HFS := Lib.hid (show fitsB ⟨c.a0, c.a1, c.a2⟩ SL = true from hSL ▸ HM.out.fits)
      have HMAY := Lib.hid (show ∀ (k : Nat) s, ([] : List ByteArray)[k]? = some s → ∀ y ∈ (podsOf T), (y.id.toList == s.toList) = true → (q.crit = true ∧ y.crit = false ∧ y.prio < q.prio) ∧ fitsB ⟨c.a0, c.a1, c.a2⟩ (SL ++ [y]) = false from fun k s h y hy he => hSL ▸ HM.out.may k s h y hy he)
      have hSLl : SL.length ≤ 65 := by have := HM.out.len; rw [hSL] at this; omega
      rw [hSL] at hs9 HKR HKO
      obtain ⟨aq5, cq5, e5, hr5⟩ := rowR_of_own hs9
      subst e5
      clear hHeld hu9 ho9 hs9 h3 hSL HKE CWO
      have CW := Lib.hid (show Calls Try.prog 22 #[.agg #[.int .i64 c.a0, .int .i64 c.a1, .int .i64 c.a2], .slice aq5 SL.length cq5] u9 fun e w' => e = .returned (.bool true) ∧ Below u9.heap.size u9 w' from by have h := rref_Within ⟨c.a0, c.a1, c.a2⟩ aq5 _ cq5 SL u9 rfl HKO.out hr5 HKR.out ⟨HRO.out.1, HCO.out.ca.1⟩ ⟨HRO.out.2.1, HCO.out.ca.2.1⟩ ⟨HRO.out.2.2, HCO.out.ca.2.2⟩; rw [show fitsB ⟨c.a0, c.a1, c.a2⟩ SL = true from HFS.out] at h; exact h)
      have HSR := Lib.hid hr5
      have hb5 : SL.length ≤ cq5 ∧ cq5 ≤ 9223372036854775807 := by obtain ⟨_, h1, h2, _⟩ := hr5; unfold maxLen at h2; exact ⟨h1, h2⟩
      obtain ⟨hb51, hb52⟩ := hb5
      clear hr5
      go_upto_region 14 with (go_at_call 22; (with_reducible refine CW.out.mono ?_); rintro e w7 ⟨rfl, hb7⟩; replace hbel := belStep hbel hb7)
      have HSR7 := Lib.hid (HSR.out.later hb7)
      clear HSR hb7 CW
      have HB47 := Lib.hid (belStep HB36.out hbel)
      replace cc0 := keepOnP cc0 hbel
      replace cc1 := keepOnP cc1 hbel
      replace cc2 := keepOnP cc2 hbel
      replace cc3 := keepOnP cc3 hbel
      replace cc4 := keepOnP cc4 hbel
      replace cc5 := keepOnP cc5 hbel
      replace cc6 := keepOnP cc6 hbel
      replace cc7 := keepOnP cc7 hbel
      replace cc8 := keepOnP cc8 hbel
      replace cc9 := keepOnP cc9 hbel
      replace cc10 := keepOnP cc10 hbel
      replace oo0 := keepOnP oo0 hbel
      replace oo1 := keepOnP oo1 hbel
      replace oo2 := keepOnP oo2 hbel
      replace pp0 := keepOnP pp0 hbel
      replace pp1 := keepOnP pp1 hbel
      replace pp2 := keepOnP pp2 hbel
      replace pp3 := keepOnP pp3 hbel
      replace pp4 := keepOnP pp4 hbel
      replace pp5 := keepOnP pp5 hbel
      replace pp6 := keepOnP pp6 hbel
      replace pp7 := keepOnP pp7 hbel
      replace pp8 := keepOnP pp8 hbel
      replace pp9 := keepOnP pp9 hbel
      replace pp10 := keepOnP pp10 hbel
      replace v10 := keepOnP v10 hbel
      replace v11 := keepOnP v11 hbel
      replace v12 := keepOnP v12 hbel
      replace hw := belStep hw hbel
      clear hbel
      generalize w7 = W5 at *
      have hbel : Below W5.heap.size W5 W5 := Below.refl _ _
      have HSS := Lib.hid (fun u (hu : Below W5.heap.size W5 u) => HSR7.out.later hu)
      have HPL := Lib.hid (fun u (hu : Below W5.heap.size W5 u) => HPR.out u (belStep HB47.out hu))
      have HXL := Lib.hid (fun u (hu : Below W5.heap.size W5 u) => (show Row u b1 0 m1 1 _ from HXR.out u (belStep HB47.out hu)))
      clear HSR7 HPR HXR
      go_wp2
      clear hbel
      go_loopw [14] (fun i wr => ∃ k : Nat, k ≤ 0 ∧ i = .int .i64 k ∧ Below W5.heap.size W5 wr) (fun i _ => 0 - (intOf i).toNat)
      case atStart => exact ⟨0, Nat.zero_le _, rfl, Below.refl _ _⟩
      case round =>
        obtain ⟨k, hk, rfl, hbel⟩ := hrel
        obtain rfl : k = 0 := by omega
        go_wp2
        go_ret
        exact ⟨rfl, belStep hw hbel⟩
  · have HFI := Lib.hid (ref0_fit (R := ⟨c.a0, c.a1, c.a2⟩) HRO.out HT.out hr)
    have HCAN := Lib.hid (choose_some (ref0_fit (R := ⟨c.a0, c.a1, c.a2⟩) HRO.out HT.out hr) hc)
    have HC2 := Lib.hid hc
    clear hD1 hr hb hc
    have CPD := Lib.hid (fun u (hu : Below W2.heap.size W2 u) => aref_Pods a T.length cap T u rfl (HR.out.later (belStep hw hu)) (by omega))
    go_upto_region 8 with (go_at_call 21; (with_reducible refine (CPD.out _ hbel).mono ?_); rintro e u2 ⟨v2, rfl, ho2, hb2⟩; replace hbel := belStep hbel hb2; obtain ⟨ap, cp, ep, hrp⟩ := rowR_of_own ho2; subst ep)
    have HRP := Lib.hid hrp
    clear hrp ho2 hb2 CPD
    have HXV := Lib.hid (HX1.out.later hbel)
    clear HX1
    replace cc0 := keepOnP cc0 hbel
    replace cc1 := keepOnP cc1 hbel
    replace cc2 := keepOnP cc2 hbel
    replace cc3 := keepOnP cc3 hbel
    replace cc4 := keepOnP cc4 hbel
    replace cc5 := keepOnP cc5 hbel
    replace cc6 := keepOnP cc6 hbel
    replace cc7 := keepOnP cc7 hbel
    replace cc8 := keepOnP cc8 hbel
    replace cc9 := keepOnP cc9 hbel
    replace cc10 := keepOnP cc10 hbel
    replace oo0 := keepOnP oo0 hbel
    replace oo1 := keepOnP oo1 hbel
    replace oo2 := keepOnP oo2 hbel
    replace pp0 := keepOnP pp0 hbel
    replace pp1 := keepOnP pp1 hbel
    replace pp2 := keepOnP pp2 hbel
    replace pp3 := keepOnP pp3 hbel
    replace pp4 := keepOnP pp4 hbel
    replace pp5 := keepOnP pp5 hbel
    replace pp6 := keepOnP pp6 hbel
    replace pp7 := keepOnP pp7 hbel
    replace pp8 := keepOnP pp8 hbel
    replace pp9 := keepOnP pp9 hbel
    replace pp10 := keepOnP pp10 hbel
    replace v10 := keepOnP v10 hbel
    replace v11 := keepOnP v11 hbel
    replace v12 := keepOnP v12 hbel
    replace hw := belStep hw hbel
    clear hbel
    generalize u2 = W3 at *
    have hbel : Below W3.heap.size W3 W3 := Below.refl _ _
    have hbp : (podsOf T).length ≤ cp ∧ cp ≤ 9223372036854775807 := by obtain ⟨_, h1, h2, _⟩ := HRP.out; unfold maxLen at h2; exact ⟨h1, h2⟩
    obtain ⟨hbp1, hbp2⟩ := hbp
    have HPR := Lib.hid (fun u (hu : Below W3.heap.size W3 u) => HRP.out.later hu)
    have HXR := Lib.hid (fun u (hu : Below W3.heap.size W3 u) => HXV.out.later hu)
    clear HRP HXV
    have HOKL := Lib.hid (podsOf_ok HOK.out)
    have CFX := Lib.hid (fun u (hu : Below W3.heap.size W3 u) => vref_Fixed q ap _ cp (podsOf T) u rfl (HPR.out u hu) (by omega))
    obtain ⟨FQ, hFQ⟩ : ∃ s, stF (podsOf T) q ++ [q] = s := ⟨_, rfl⟩
    have HFO := Lib.hid (show ∀ x ∈ FQ, x.ok from hFQ ▸ (ok_snoc (fun x hx => HOKL.out x (List.mem_filter.1 hx).1) HQO.out))
    have HFR := Lib.hid (show ∀ x ∈ FQ, rightB x = true from hFQ ▸ (fun x hx => (List.mem_append.1 hx).elim (fun h => (HFI.out.rl x (List.mem_filter.1 h).1).1) (fun h => by simp at h; subst h; exact HFI.out.rp)))
    rw [hFQ] at CFX HCAN
    clear hFQ
    clear hbel
    refine wp_region_held_drew (S := fun u => Below W3.heap.size W3 u) (by kernel_rfl) (by exact (show Below W3.heap.size W3 _ by repeat (first | assumption | exact Below.refl _ _ | refine belDrew ?_ | refine belAlloc ?_ _ | refine belStep ?_ (by assumption)))) (fun hHeld => ?_)
    refine wpAnyH_take (i := 0) (oi := ?oi_k22) (v := ?v_k22) ?hi_k22 (by kernel_rfl) ?hf_k22 ?hr_k22 ?hQ_k22 (Or.inl ⟨?hw_k22, ?hy_k22⟩) (by assumption) ?rest_k22
    case hi_k22 => ((simp only [List.getElem?_toArray, List.getElem?_cons_succ, List.getElem?_cons_zero]); rfl)
    case hf_k22 => kernel_rfl
    case hr_k22 => kernel_rfl
    case hQ_k22 => exact fun _ _ _ h => h
    case hw_k22 => rfl
    case hy_k22 => ((intro w hSw; (try dsimp only at hSw); go_simp); all_goals (with_reducible rfl))
    try simp only [Act.put, List.setIfInBounds_toArray, List.set_cons_zero, List.set_cons_succ]
    refine wpAnyH_take (i := 1) (oi := ?oi_k23) (v := ?v_k23) ?hi_k23 (by kernel_rfl) ?hf_k23 ?hr_k23 ?hQ_k23 (Or.inl ⟨?hw_k23, ?hy_k23⟩) (by assumption) ?rest_k23
    case hi_k23 => ((simp only [List.getElem?_toArray, List.getElem?_cons_succ, List.getElem?_cons_zero]); rfl)
    case hf_k23 => kernel_rfl
    case hr_k23 => kernel_rfl
    case hQ_k23 => exact fun _ _ _ h => h
    case hw_k23 => rfl
    case hy_k23 => ((intro w hSw; (try dsimp only at hSw); go_simp); all_goals (with_reducible rfl))
    try simp only [Act.put, List.setIfInBounds_toArray, List.set_cons_zero, List.set_cons_succ]
    refine wpAnyH_take (i := 2) (oi := ?oi_k24) (v := ?v_k24) ?hi_k24 (by kernel_rfl) ?hf_k24 ?hr_k24 ?hQ_k24 (Or.inl ⟨?hw_k24, ?hy_k24⟩) (by assumption) ?rest_k24
    case hi_k24 => ((simp only [List.getElem?_toArray, List.getElem?_cons_succ, List.getElem?_cons_zero]); rfl)
    case hf_k24 => kernel_rfl
    case hr_k24 => kernel_rfl
    case hQ_k24 => exact fun _ _ _ h => h
    case hw_k24 => rfl
    case hy_k24 => ((intro w hSw; (try dsimp only at hSw); go_simp); all_goals (with_reducible rfl))
    try simp only [Act.put, List.setIfInBounds_toArray, List.set_cons_zero, List.set_cons_succ]
    refine wpAnyH_take (i := 3) (oi := ?oi_k25) (v := ?v_k25) ?hi_k25 (by kernel_rfl) ?hf_k25 ?hr_k25 ?hQ_k25 (Or.inl ⟨?hw_k25, ?hy_k25⟩) (by assumption) ?rest_k25
    case hi_k25 => ((simp only [List.getElem?_toArray, List.getElem?_cons_succ, List.getElem?_cons_zero]); rfl)
    case hf_k25 => kernel_rfl
    case hr_k25 => kernel_rfl
    case hQ_k25 => exact fun _ _ _ h => h
    case hw_k25 => rfl
    case hy_k25 => ((intro w hSw; (try dsimp only at hSw); go_simp); all_goals (with_reducible rfl))
    try simp only [Act.put, List.setIfInBounds_toArray, List.set_cons_zero, List.set_cons_succ]
    refine wpAnyH_ready (rs := [4]) (by kernel_rfl) (by simp) ?_
    refine AllReadyH.cons (o := ?o1_k26) ?hi_k26 (fun K hK => ?rest_k26) AllReadyH.nil
    case hi_k26 => ((simp only [List.getElem?_toArray, List.getElem?_cons_succ, List.getElem?_cons_zero]); rfl)
    go_simp
    (go_at_call 23; (with_reducible refine (CFX.out _ hHeld).mono ?_); rintro e w5 ⟨v5, rfl, ho5, hb5⟩)
    try go_simp
    refine hK.out _ _ (by exact (show Below W3.heap.size W3 _ by repeat (first | assumption | exact Below.refl _ _ | refine belDrew ?_ | refine belAlloc ?_ _ | refine belStep ?_ (by assumption)))) (fun hHeld => ?_)
    clear hK K
    try simp only [Act.put, List.setIfInBounds_toArray, List.set_cons_zero, List.set_cons_succ]
    obtain ⟨a5, c5, e5, hr5⟩ := rowR_of_own ho5
    subst e5
    have CW5 := Lib.hid (show Calls Try.prog 22 #[.agg #[.int .i64 c.a0, .int .i64 c.a1, .int .i64 c.a2], .slice a5 FQ.length c5] w5 fun e w' => e = .returned (.bool true) ∧ Below w5.heap.size w5 w' from by have h := rref_Within ⟨c.a0, c.a1, c.a2⟩ a5 _ c5 FQ w5 rfl HFO.out hr5 HFR.out ⟨HRO.out.1, HCO.out.ca.1⟩ ⟨HRO.out.2.1, HCO.out.ca.2.1⟩ ⟨HRO.out.2.2, HCO.out.ca.2.2⟩; rw [show fitsB ⟨c.a0, c.a1, c.a2⟩ FQ = true from HCAN.out] at h; exact h)
    clear ho5 hr5
    refine wpAnyH_ready (rs := [5]) (by kernel_rfl) (by simp) ?_
    refine AllReadyH.cons (o := ?o1_k27) ?hi_k27 (fun K hK => ?rest_k27) AllReadyH.nil
    case hi_k27 => ((simp only [List.getElem?_toArray, List.getElem?_cons_succ, List.getElem?_cons_zero]); rfl)
    go_simp
    (go_at_call 22; (with_reducible refine CW5.out.mono ?_); rintro e w6 ⟨rfl, hb6⟩)
    try go_simp
    refine hK.out _ _ (by exact (show Below W3.heap.size W3 _ by repeat (first | assumption | exact Below.refl _ _ | refine belDrew ?_ | refine belAlloc ?_ _ | refine belStep ?_ (by assumption)))) (fun hHeld => ?_)
    clear hK K
    try simp only [Act.put, List.setIfInBounds_toArray, List.set_cons_zero, List.set_cons_succ]
    refine wpAnyH_take (i := 6) (oi := ?oi_k28) (v := ?v_k28) ?hi_k28 (by kernel_rfl) ?hf_k28 ?hr_k28 ?hQ_k28 (Or.inl ⟨?hw_k28, ?hy_k28⟩) (by assumption) ?rest_k28
    case hi_k28 => ((simp only [List.getElem?_toArray, List.getElem?_cons_succ, List.getElem?_cons_zero]); rfl)
    case hf_k28 => kernel_rfl
    case hr_k28 => kernel_rfl
    case hQ_k28 => exact fun _ _ _ h => h
    case hw_k28 => rfl
    case hy_k28 => ((intro w hSw; (try dsimp only at hSw); go_simp); all_goals (with_reducible rfl))
    try simp only [Act.put, List.setIfInBounds_toArray, List.set_cons_zero, List.set_cons_succ]
    refine wpAnyH_done (by kernel_rfl) ?_ _
    have hbel : Below W3.heap.size W3 w6 := hHeld
    clear hHeld CW5 hb6 CFX
    have HM := Lib.hid (min_ok HFI.out HC2.out)
    have HKR := Lib.hid (kept_right (G := G1) HFI.out)
    have hgl : G1.length ≤ 65 := by have := HM.out.len; omega
    go_upto_region 11 with fail
    have HKO := Lib.hid (show ∀ x ∈ keptF (podsOf T) G1 q, x.ok from fun x hx => (List.mem_append.1 hx).elim (fun h => HOKL.out x (List.mem_filter.1 h).1) (fun h => by simp at h; subst h; exact HQO.out))
    obtain ⟨KQ, hKQ⟩ : ∃ K, (podsOf T).filter (fun x => !hasB G1 x.id) = K := ⟨_, rfl⟩
    have hkl : KQ.length ≤ 1000 := by rw [← hKQ]; have := List.length_filter_le (fun x : PodV => !hasB G1 x.id) (podsOf T); omega
    have HKE := Lib.hid (show keptF (podsOf T) G1 q = KQ ++ [q] by unfold keptF; rw [hKQ])
    have HB36 := Lib.hid hbel
    replace cc0 := keepOnP cc0 hbel
    replace cc1 := keepOnP cc1 hbel
    replace cc2 := keepOnP cc2 hbel
    replace cc3 := keepOnP cc3 hbel
    replace cc4 := keepOnP cc4 hbel
    replace cc5 := keepOnP cc5 hbel
    replace cc6 := keepOnP cc6 hbel
    replace cc7 := keepOnP cc7 hbel
    replace cc8 := keepOnP cc8 hbel
    replace cc9 := keepOnP cc9 hbel
    replace cc10 := keepOnP cc10 hbel
    replace oo0 := keepOnP oo0 hbel
    replace oo1 := keepOnP oo1 hbel
    replace oo2 := keepOnP oo2 hbel
    replace pp0 := keepOnP pp0 hbel
    replace pp1 := keepOnP pp1 hbel
    replace pp2 := keepOnP pp2 hbel
    replace pp3 := keepOnP pp3 hbel
    replace pp4 := keepOnP pp4 hbel
    replace pp5 := keepOnP pp5 hbel
    replace pp6 := keepOnP pp6 hbel
    replace pp7 := keepOnP pp7 hbel
    replace pp8 := keepOnP pp8 hbel
    replace pp9 := keepOnP pp9 hbel
    replace pp10 := keepOnP pp10 hbel
    replace v10 := keepOnP v10 hbel
    replace v11 := keepOnP v11 hbel
    replace v12 := keepOnP v12 hbel
    replace hw := belStep hw hbel
    clear hbel
    generalize w6 = W4 at *
    have hbel : Below W4.heap.size W4 W4 := Below.refl _ _
    have CWO := Lib.hid (fun u (hu : Below W4.heap.size W4 u) => hKQ ▸ vref_Without ap _ cp (podsOf T) b1 G1.length m1 G1 u rfl rfl (HPR.out u (belStep HB36.out hu)) (show Row u b1 G1.length m1 1 _ from HXR.out u (belStep HB36.out hu)) (by omega))
    clear hKQ hbel
    refine wp_region_held_drew (S := fun u => Below W4.heap.size W4 u) (by kernel_rfl) (by exact (show Below W4.heap.size W4 _ by repeat (first | assumption | exact Below.refl _ _ | refine belDrew ?_ | refine belAlloc ?_ _ | refine belStep ?_ (by assumption)))) (fun hHeld => ?_)
    refine wpAnyH_take (i := 0) (oi := ?oi_k51) (v := ?v_k51) ?hi_k51 (by kernel_rfl) ?hf_k51 ?hr_k51 ?hQ_k51 (Or.inl ⟨?hw_k51, ?hy_k51⟩) (by assumption) ?rest_k51
    case hi_k51 => ((simp only [List.getElem?_toArray, List.getElem?_cons_succ, List.getElem?_cons_zero]); rfl)
    case hf_k51 => kernel_rfl
    case hr_k51 => kernel_rfl
    case hQ_k51 => exact fun _ _ _ h => h
    case hw_k51 => rfl
    case hy_k51 => ((intro w hSw; (try dsimp only at hSw); go_simp); all_goals (with_reducible rfl))
    try simp only [Act.put, List.setIfInBounds_toArray, List.set_cons_zero, List.set_cons_succ]
    refine wpAnyH_take (i := 1) (oi := ?oi_k52) (v := ?v_k52) ?hi_k52 (by kernel_rfl) ?hf_k52 ?hr_k52 ?hQ_k52 (Or.inl ⟨?hw_k52, ?hy_k52⟩) (by assumption) ?rest_k52
    case hi_k52 => ((simp only [List.getElem?_toArray, List.getElem?_cons_succ, List.getElem?_cons_zero]); rfl)
    case hf_k52 => kernel_rfl
    case hr_k52 => kernel_rfl
    case hQ_k52 => exact fun _ _ _ h => h
    case hw_k52 => rfl
    case hy_k52 => ((intro w hSw; (try dsimp only at hSw); go_simp); all_goals (with_reducible rfl))
    try simp only [Act.put, List.setIfInBounds_toArray, List.set_cons_zero, List.set_cons_succ]
    refine wpAnyH_take (i := 2) (oi := ?oi_k53) (v := ?v_k53) ?hi_k53 (by kernel_rfl) ?hf_k53 ?hr_k53 ?hQ_k53 (Or.inl ⟨?hw_k53, ?hy_k53⟩) (by assumption) ?rest_k53
    case hi_k53 => ((simp only [List.getElem?_toArray, List.getElem?_cons_succ, List.getElem?_cons_zero]); rfl)
    case hf_k53 => kernel_rfl
    case hr_k53 => kernel_rfl
    case hQ_k53 => exact fun _ _ _ h => h
    case hw_k53 => rfl
    case hy_k53 => ((intro w hSw; (try dsimp only at hSw); go_simp); all_goals (with_reducible rfl))
    try simp only [Act.put, List.setIfInBounds_toArray, List.set_cons_zero, List.set_cons_succ]
    refine wpAnyH_take (i := 4) (oi := ?oi_k54) (v := ?v_k54) ?hi_k54 (by kernel_rfl) ?hf_k54 ?hr_k54 ?hQ_k54 (Or.inl ⟨?hw_k54, ?hy_k54⟩) (by assumption) ?rest_k54
    case hi_k54 => ((simp only [List.getElem?_toArray, List.getElem?_cons_succ, List.getElem?_cons_zero]); rfl)
    case hf_k54 => kernel_rfl
    case hr_k54 => kernel_rfl
    case hQ_k54 => exact fun _ _ _ h => h
    case hw_k54 => rfl
    case hy_k54 => ((intro w hSw; (try dsimp only at hSw); go_simp); all_goals (with_reducible rfl))
    try simp only [Act.put, List.setIfInBounds_toArray, List.set_cons_zero, List.set_cons_succ]
    refine krip (fun u u' => Below u.heap.size u u') [77, 79] [[], [], [], [], [], [], [3, 5], [3, 5]] [[], [], [], [77], [], [79], [], []] [3, 5] (krF [(3, fun t u => OwnR u (W4.heap.size) 29 11 (t 77) (KQ.length) (KQ.flatMap PodV.cells)), (5, fun t u => ∃ g : Nat, t 79 = .slice (some ⟨g, 0, none⟩) 1 1 ∧ Row u (some ⟨g, 0, none⟩) 1 1 11 (q.cells))]) 2 #[true, true, true, true, true, true, false, false] (by kernel_rfl) (by kernel_rfl) (by kernel_rfl) (by assumption) (AllL.cons ?s_3_q55 (AllL.cons ?s_5_q55 AllL.nil)) (AllL.cons ?o_3_q55 (AllL.cons ?o_5_q55 AllL.nil)) ?e_q55
    case s_3_q55 => exact fun t u u' hle h => OwnR.later h hle
    case s_5_q55 => exact fun t u u' hle ⟨g, e, h⟩ => ⟨g, e, Row.later h hle⟩
    case o_3_q55 =>
      refine KrOp.of (o := ?oo_3_q55) ?hi_3_q55 (fun t u hHeld hF K hK => ?rr_3_q55)
      case hi_3_q55 => ((simp only [List.getElem?_toArray, List.getElem?_cons_succ, List.getElem?_cons_zero]); rfl)
      case rr_3_q55 =>
        clear hF
        simp only [setl, List.foldl_cons, List.foldl_nil, Act.put, List.setIfInBounds_toArray, List.set_cons_zero, List.set_cons_succ] at hK ⊢
        go_simp
        (go_at_call 20; (with_reducible refine (CWO.out _ hHeld).mono ?_); rintro e wq ⟨vq, rfl, hoq, hbq⟩)
        try go_simp
        refine hK.out _ _ (by exact (by repeat (first | assumption | exact Below.refl _ _ | refine belDrew ?_ | refine belAlloc ?_ _ | refine belStep ?_ (by assumption)))) (by exact (show Below W4.heap.size W4 _ by repeat (first | assumption | exact Below.refl _ _ | refine belDrew ?_ | refine belAlloc ?_ _ | refine belStep ?_ (by assumption)))) ?_
        exact OwnR.mono hoq (Below.size hHeld)
    case o_5_q55 =>
      refine KrOp.of (o := ?oo_5_q55) ?hi_5_q55 (fun t u hHeld hF K hK => ?rr_5_q55)
      case hi_5_q55 => ((simp only [List.getElem?_toArray, List.getElem?_cons_succ, List.getElem?_cons_zero]); rfl)
      case rr_5_q55 =>
        clear hF
        simp only [setl, List.foldl_cons, List.foldl_nil, Act.put, List.setIfInBounds_toArray, List.set_cons_zero, List.set_cons_succ] at hK ⊢
        go_simp
        refine hK.out _ _ (by exact (by repeat (first | assumption | exact Below.refl _ _ | refine belDrew ?_ | refine belAlloc ?_ _ | refine belStep ?_ (by assumption)))) (by exact (show Below W4.heap.size W4 _ by repeat (first | assumption | exact Below.refl _ _ | refine belDrew ?_ | refine belAlloc ?_ _ | refine belStep ?_ (by assumption)))) ?_
        exact ⟨_, rfl, row_new _ (q.cells) 29 1 11 rfl (by unfold maxLen; omega)⟩
    case e_q55 =>
      intro t u hHeld hF
      have h3 : OwnR u (W4.heap.size) 29 11 (t 77) (KQ.length) (KQ.flatMap PodV.cells) := hF 3 rfl
      have h5 : ∃ g : Nat, t 79 = .slice (some ⟨g, 0, none⟩) 1 1 ∧ Row u (some ⟨g, 0, none⟩) 1 1 11 (q.cells) := hF 5 rfl
      clear hF
      simp only [setl, List.foldl_cons, List.foldl_nil, Act.put, List.setIfInBounds_toArray, List.set_cons_zero, List.set_cons_succ]
      generalize t 77 = x77 at *
      generalize t 79 = x79 at *
      obtain ⟨g5, rfl, hr5⟩ := h5
      refine wpAnyH_ready (rs := [6]) (by kernel_rfl) (by simp) ?_
      refine AllReadyH.cons (o := ?o1_ta29) ?hi_ta29 (fun K hK => ?rest_ta29) AllReadyH.nil
      case hi_ta29 => ((simp only [List.getElem?_toArray, List.getElem?_cons_succ, List.getElem?_cons_zero]); rfl)
      refine op_appR rfl _ _ 45 rfl (W4.heap.size) 29 _ 11 104 Try.underlying45 info_pod rfl (by decide) _ (KQ.length) _ (by rfl) h3 _ 1 1 (q.cells) (by rfl) hr5 (pod_one _) (by have := hkl; unfold maxLen; omega) (by have := hkl; omega) (Below.size hHeld) ?_
      intro v9 u9 ho9 hb9
      have hu9 : Below W4.heap.size W4 u9 := hHeld.trans hb9
      refine hK.out _ _ (by exact hu9) (fun hHeld => ?_)
      clear hK K hb9
      try simp only [Act.put, List.setIfInBounds_toArray, List.set_cons_zero, List.set_cons_succ]
      refine wpAnyH_take (i := 7) (oi := ?oi_k30) (v := ?v_k30) ?hi_k30 (by kernel_rfl) ?hf_k30 ?hr_k30 ?hQ_k30 (Or.inl ⟨?hw_k30, ?hy_k30⟩) (by assumption) ?rest_k30
      case hi_k30 => ((simp only [List.getElem?_toArray, List.getElem?_cons_succ, List.getElem?_cons_zero]); rfl)
      case hf_k30 => kernel_rfl
      case hr_k30 => kernel_rfl
      case hQ_k30 => exact fun _ _ _ h => h
      case hw_k30 => rfl
      case hy_k30 => ((intro w hSw; (try dsimp only at hSw); go_simp); all_goals (with_reducible rfl))
      try simp only [Act.put, List.setIfInBounds_toArray, List.set_cons_zero, List.set_cons_succ]
      refine wpAnyH_done (by kernel_rfl) ?_ _
      have hbel : Below W4.heap.size W4 u9 := hu9
      have hs9 := own_snoc ho9
      rw [← HKE.out] at hs9
      obtain ⟨SL, hSL⟩ : ∃ s, keptF (podsOf T) G1 q = s := ⟨_, rfl⟩
      have HFS := Lib.hid (show fitsB ⟨c.a0, c.a1, c.a2⟩ SL = true from hSL ▸ HM.out.fits)
      have HMAY := Lib.hid (show ∀ (k : Nat) s, (G1 : List ByteArray)[k]? = some s → ∀ y ∈ (podsOf T), (y.id.toList == s.toList) = true → (q.crit = true ∧ y.crit = false ∧ y.prio < q.prio) ∧ fitsB ⟨c.a0, c.a1, c.a2⟩ (SL ++ [y]) = false from fun k s h y hy he => hSL ▸ HM.out.may k s h y hy he)
      have hSLl : SL.length ≤ 65 := by have := HM.out.len; rw [hSL] at this; omega
      rw [hSL] at hs9 HKR HKO
      obtain ⟨aq5, cq5, e5, hr5⟩ := rowR_of_own hs9
      subst e5
      clear hHeld hu9 ho9 hs9 h3 hSL HKE CWO
      have CW := Lib.hid (show Calls Try.prog 22 #[.agg #[.int .i64 c.a0, .int .i64 c.a1, .int .i64 c.a2], .slice aq5 SL.length cq5] u9 fun e w' => e = .returned (.bool true) ∧ Below u9.heap.size u9 w' from by have h := rref_Within ⟨c.a0, c.a1, c.a2⟩ aq5 _ cq5 SL u9 rfl HKO.out hr5 HKR.out ⟨HRO.out.1, HCO.out.ca.1⟩ ⟨HRO.out.2.1, HCO.out.ca.2.1⟩ ⟨HRO.out.2.2, HCO.out.ca.2.2⟩; rw [show fitsB ⟨c.a0, c.a1, c.a2⟩ SL = true from HFS.out] at h; exact h)
      have HSR := Lib.hid hr5
      have hb5 : SL.length ≤ cq5 ∧ cq5 ≤ 9223372036854775807 := by obtain ⟨_, h1, h2, _⟩ := hr5; unfold maxLen at h2; exact ⟨h1, h2⟩
      obtain ⟨hb51, hb52⟩ := hb5
      clear hr5
      go_upto_region 14 with (go_at_call 22; (with_reducible refine CW.out.mono ?_); rintro e w7 ⟨rfl, hb7⟩; replace hbel := belStep hbel hb7)
      have HSR7 := Lib.hid (HSR.out.later hb7)
      clear HSR hb7 CW
      have HB47 := Lib.hid (belStep HB36.out hbel)
      replace cc0 := keepOnP cc0 hbel
      replace cc1 := keepOnP cc1 hbel
      replace cc2 := keepOnP cc2 hbel
      replace cc3 := keepOnP cc3 hbel
      replace cc4 := keepOnP cc4 hbel
      replace cc5 := keepOnP cc5 hbel
      replace cc6 := keepOnP cc6 hbel
      replace cc7 := keepOnP cc7 hbel
      replace cc8 := keepOnP cc8 hbel
      replace cc9 := keepOnP cc9 hbel
      replace cc10 := keepOnP cc10 hbel
      replace oo0 := keepOnP oo0 hbel
      replace oo1 := keepOnP oo1 hbel
      replace oo2 := keepOnP oo2 hbel
      replace pp0 := keepOnP pp0 hbel
      replace pp1 := keepOnP pp1 hbel
      replace pp2 := keepOnP pp2 hbel
      replace pp3 := keepOnP pp3 hbel
      replace pp4 := keepOnP pp4 hbel
      replace pp5 := keepOnP pp5 hbel
      replace pp6 := keepOnP pp6 hbel
      replace pp7 := keepOnP pp7 hbel
      replace pp8 := keepOnP pp8 hbel
      replace pp9 := keepOnP pp9 hbel
      replace pp10 := keepOnP pp10 hbel
      replace v10 := keepOnP v10 hbel
      replace v11 := keepOnP v11 hbel
      replace v12 := keepOnP v12 hbel
      replace hw := belStep hw hbel
      clear hbel
      generalize w7 = W5 at *
      have hbel : Below W5.heap.size W5 W5 := Below.refl _ _
      have HSS := Lib.hid (fun u (hu : Below W5.heap.size W5 u) => HSR7.out.later hu)
      have HPL := Lib.hid (fun u (hu : Below W5.heap.size W5 u) => HPR.out u (belStep HB47.out hu))
      have HXL := Lib.hid (fun u (hu : Below W5.heap.size W5 u) => (show Row u b1 G1.length m1 1 _ from HXR.out u (belStep HB47.out hu)))
      clear HSR7 HPR HXR
      go_wp2
      clear hbel
      go_loopw [14] (fun i wr => ∃ k : Nat, k ≤ G1.length ∧ i = .int .i64 k ∧ Below W5.heap.size W5 wr) (fun i _ => G1.length - (intOf i).toNat)
      case atStart => exact ⟨0, Nat.zero_le _, rfl, Below.refl _ _⟩
      case round =>
        obtain ⟨k, hk, rfl, hbel⟩ := hrel
        by_cases hlt : k < G1.length
        · obtain ⟨s, hs⟩ : ∃ s, G1[k]? = some s := ⟨G1[k], List.getElem?_eq_getElem hlt⟩
          obtain ⟨ab, ao, eab, ca⟩ := text_cell (HXL.out _ (Below.refl _ _)) hs
          subst eab
          have x0 := keep ca
          have hd : decide ((k : Int) < (G1.length : Int)) = true := decide_eq_true (by omega)
          have HSK := Lib.hid hs
          clear hs ca
          go_wp2
          have HB0 := Lib.hid hbel
          clear hbel hd
          go_loopw [15, 16] (fun d i wi => ∃ (m : Nat) (D : Bool), m ≤ (podsOf T).length ∧ i = .int .i64 m ∧ d = .bool D ∧ Hid (anyId ((podsOf T).take m) s = D) ∧ Below W5.heap.size W5 wi) (fun _ i _ => (podsOf T).length - (intOf i).toNat)
          case atStart => exact ⟨0, false, Nat.zero_le _, rfl, rfl, Lib.hid rfl, HB0.out⟩
          case round =>
            obtain ⟨m, D, hm, rfl, rfl, HE, hbel⟩ := hrel
            by_cases hmt : m < (podsOf T).length
            · obtain ⟨y, hy⟩ : ∃ y, (podsOf T)[m]? = some y := ⟨(podsOf T)[m], List.getElem?_eq_getElem hmt⟩
              obtain ⟨bc, oc, ec, _, hcc⟩ := (HPL.out _ (Below.refl _ _)).elem PodV.cells_len (by omega) hy
              subst ec
              have c0 := keep (hcc 0 _ rfl)
              have c1 := keep (hcc 1 _ rfl)
              have c2 := keep (hcc 2 _ rfl)
              have c3 := keep (hcc 3 _ rfl)
              have c4 := keep (hcc 4 _ rfl)
              have c5 := keep (hcc 5 _ rfl)
              have c6 := keep (hcc 6 _ rfl)
              have c7 := keep (hcc 7 _ rfl)
              have c8 := keep (hcc 8 _ rfl)
              have c9 := keep (hcc 9 _ rfl)
              have c10 := keep (hcc 10 _ rfl)
              rw [Nat.add_zero] at c0
              have hd : decide ((m : Int) < ((podsOf T).length : Int)) = true := decide_eq_true (by omega)
              have hnx := any_next (s := s) hy
              rw [HE.out] at hnx
              have HNX := Lib.hid hnx
              have HY := Lib.hid hy
              clear hy hcc hnx
              cases he : (y.id.toList == s.toList) with
              | false =>
                rw [he] at HNX
                go_upto_region 21 with fail
                have kk := fun d os => belStep hbel (below_regrown _ d os)
                refine wp_region_quiet_below (by kernel_rfl) (by kernel_rfl) ?_
                repeat ((with_reducible refine wpQuiet_step (fun K hK => ?_)); go_simp; (try (rw [if_neg]; rotate_left; · decide)); first | ((with_reducible refine hK _ ?_); clear hK K) | (apply Exists.intro; refine ⟨fun _ => ?_, hK _ ?_⟩; (fail); clear hK K))
                refine wpQuiet_nil (fun w1 hw1 => ?_)
                replace hbel := belStep hbel (bel_of_class hw1)
                clear hw1 kk
                go_wp2
                go_roundw
                case rel => exact ⟨m + 1, _, by omega, by push_cast; rfl, rfl, Lib.hid (by rw [HNX.out, Bool.or_false]), hbel⟩
                case measure => simp [intOf] <;> omega
              | true =>
                rw [he] at HNX
                obtain ⟨⟨pc, yc, hlt2⟩, hfn⟩ := HMAY.out k s HSK.out y (List.mem_of_getElem? HY.out) he
                have HFN := Lib.hid hfn
                have hmy : mayB q y = true := by unfold mayB; rw [pc, yc, decide_eq_true hlt2]; rfl
                have CMY := Lib.hid (fun v => hmy ▸ vref_May q y v)
                simp only [yc] at c2 CMY
                have YC := Lib.hid yc
                clear hfn pc yc hmy hlt2
                have hSB : SL.length ≤ 1000 := by omega
                go_upto_region 21 with fail
                have kk := fun d os => belStep hbel (below_regrown _ d os)
                refine wp_region_quiet_below (by kernel_rfl) (by kernel_rfl) ?_
                repeat ((with_reducible refine wpQuiet_step (fun K hK => ?_)); go_simp; (try (rw [if_neg]; rotate_left; · decide)); first | ((with_reducible refine hK _ ?_); clear hK K) | (apply Exists.intro; refine ⟨fun _ => ?_, hK _ ?_⟩; (fail); clear hK K))
                refine wpQuiet_nil (fun w1 hw1 => ?_)
                replace hbel := belStep hbel (bel_of_class hw1)
                clear hw1 kk
                go_upto_region 22 with fail
                clear he
                have hbl := hbel
                clear hbel
                refine wp_region_held_drew (S := fun u => Below W5.heap.size W5 u) (by kernel_rfl) (by exact (show Below W5.heap.size W5 _ by repeat (first | assumption | exact Below.refl _ _ | refine belDrew ?_ | refine belAlloc ?_ _ | refine belStep ?_ (by assumption)))) (fun hHeld => ?_)
                refine wpAnyH_take (i := 0) (oi := ?oi_k36) (v := ?v_k36) ?hi_k36 (by kernel_rfl) ?hf_k36 ?hr_k36 ?hQ_k36 (Or.inl ⟨?hw_k36, ?hy_k36⟩) (by assumption) ?rest_k36
                case hi_k36 => ((simp only [List.getElem?_toArray, List.getElem?_cons_succ, List.getElem?_cons_zero]); rfl)
                case hf_k36 => kernel_rfl
                case hr_k36 => kernel_rfl
                case hQ_k36 => exact fun _ _ _ h => h
                case hw_k36 => rfl
                case hy_k36 => ((intro w hSw; (try dsimp only at hSw); go_simp); all_goals (with_reducible rfl))
                try simp only [Act.put, List.setIfInBounds_toArray, List.set_cons_zero, List.set_cons_succ]
                refine wpAnyH_take (i := 1) (oi := ?oi_k37) (v := ?v_k37) ?hi_k37 (by kernel_rfl) ?hf_k37 ?hr_k37 ?hQ_k37 (Or.inl ⟨?hw_k37, ?hy_k37⟩) (by assumption) ?rest_k37
                case hi_k37 => ((simp only [List.getElem?_toArray, List.getElem?_cons_succ, List.getElem?_cons_zero]); rfl)
                case hf_k37 => kernel_rfl
                case hr_k37 => kernel_rfl
                case hQ_k37 => exact fun _ _ _ h => h
                case hw_k37 => rfl
                case hy_k37 => ((intro w hSw; (try dsimp only at hSw); go_simp); all_goals (with_reducible rfl))
                try simp only [Act.put, List.setIfInBounds_toArray, List.set_cons_zero, List.set_cons_succ]
                refine wpAnyH_take (i := 2) (oi := ?oi_k38) (v := ?v_k38) ?hi_k38 (by kernel_rfl) ?hf_k38 ?hr_k38 ?hQ_k38 (Or.inl ⟨?hw_k38, ?hy_k38⟩) (by assumption) ?rest_k38
                case hi_k38 => ((simp only [List.getElem?_toArray, List.getElem?_cons_succ, List.getElem?_cons_zero]); rfl)
                case hf_k38 => kernel_rfl
                case hr_k38 => kernel_rfl
                case hQ_k38 => exact fun _ _ _ h => h
                case hw_k38 => rfl
                case hy_k38 => ((intro w hSw; (try dsimp only at hSw); go_simp); all_goals (with_reducible rfl))
                try simp only [Act.put, List.setIfInBounds_toArray, List.set_cons_zero, List.set_cons_succ]
                refine wpAnyH_take (i := 3) (oi := ?oi_k39) (v := ?v_k39) ?hi_k39 (by kernel_rfl) ?hf_k39 ?hr_k39 ?hQ_k39 (Or.inl ⟨?hw_k39, ?hy_k39⟩) (by assumption) ?rest_k39
                case hi_k39 => ((simp only [List.getElem?_toArray, List.getElem?_cons_succ, List.getElem?_cons_zero]); rfl)
                case hf_k39 => kernel_rfl
                case hr_k39 => kernel_rfl
                case hQ_k39 => exact fun _ _ _ h => h
                case hw_k39 => rfl
                case hy_k39 => ((intro w hSw; (try dsimp only at hSw); go_simp); all_goals (with_reducible rfl))
                try simp only [Act.put, List.setIfInBounds_toArray, List.set_cons_zero, List.set_cons_succ]
                refine wpAnyH_take (i := 4) (oi := ?oi_k40) (v := ?v_k40) ?hi_k40 (by kernel_rfl) ?hf_k40 ?hr_k40 ?hQ_k40 (Or.inl ⟨?hw_k40, ?hy_k40⟩) (by assumption) ?rest_k40
                case hi_k40 => ((simp only [List.getElem?_toArray, List.getElem?_cons_succ, List.getElem?_cons_zero]); rfl)
                case hf_k40 => kernel_rfl
                case hr_k40 => kernel_rfl
                case hQ_k40 => exact fun _ _ _ h => h
                case hw_k40 => rfl
                case hy_k40 => ((intro w hSw; (try dsimp only at hSw); go_simp); all_goals (with_reducible rfl))
                try simp only [Act.put, List.setIfInBounds_toArray, List.set_cons_zero, List.set_cons_succ]
                refine wpAnyH_ready (rs := [5]) (by kernel_rfl) (by simp) ?_
                refine AllReadyH.cons (o := ?o1_k41) ?hi_k41 (fun K hK => ?rest_k41) AllReadyH.nil
                case hi_k41 => ((simp only [List.getElem?_toArray, List.getElem?_cons_succ, List.getElem?_cons_zero]); rfl)
                go_simp
                (go_at_call 24; (with_reducible refine (CMY.out _).mono ?_); rintro e wm ⟨rfl, hbm⟩)
                try go_simp
                refine hK.out _ _ (by exact (show Below W5.heap.size W5 _ by repeat (first | assumption | exact Below.refl _ _ | refine belDrew ?_ | refine belAlloc ?_ _ | refine belStep ?_ (by assumption)))) (fun hHeld => ?_)
                clear hK K
                try simp only [Act.put, List.setIfInBounds_toArray, List.set_cons_zero, List.set_cons_succ]
                refine wpAnyH_take (i := 6) (oi := ?oi_k42) (v := ?v_k42) ?hi_k42 (by kernel_rfl) ?hf_k42 ?hr_k42 ?hQ_k42 (Or.inl ⟨?hw_k42, ?hy_k42⟩) (by assumption) ?rest_k42
                case hi_k42 => ((simp only [List.getElem?_toArray, List.getElem?_cons_succ, List.getElem?_cons_zero]); rfl)
                case hf_k42 => kernel_rfl
                case hr_k42 => kernel_rfl
                case hQ_k42 => exact fun _ _ _ h => h
                case hw_k42 => rfl
                case hy_k42 => ((intro w hSw; (try dsimp only at hSw); go_simp); all_goals (with_reducible rfl))
                try simp only [Act.put, List.setIfInBounds_toArray, List.set_cons_zero, List.set_cons_succ]
                refine wpAnyH_take (i := 7) (oi := ?oi_k43) (v := ?v_k43) ?hi_k43 (by kernel_rfl) ?hf_k43 ?hr_k43 ?hQ_k43 (Or.inl ⟨?hw_k43, ?hy_k43⟩) (by assumption) ?rest_k43
                case hi_k43 => ((simp only [List.getElem?_toArray, List.getElem?_cons_succ, List.getElem?_cons_zero]); rfl)
                case hf_k43 => kernel_rfl
                case hr_k43 => kernel_rfl
                case hQ_k43 => exact fun _ _ _ h => h
                case hw_k43 => rfl
                case hy_k43 => ((intro w hSw; (try dsimp only at hSw); go_simp); all_goals (with_reducible rfl))
                try simp only [Act.put, List.setIfInBounds_toArray, List.set_cons_zero, List.set_cons_succ]
                refine wpAnyH_take (i := 8) (oi := ?oi_k44) (v := ?v_k44) ?hi_k44 (by kernel_rfl) ?hf_k44 ?hr_k44 ?hQ_k44 (Or.inl ⟨?hw_k44, ?hy_k44⟩) (by assumption) ?rest_k44
                case hi_k44 => ((simp only [List.getElem?_toArray, List.getElem?_cons_succ, List.getElem?_cons_zero]); rfl)
                case hf_k44 => kernel_rfl
                case hr_k44 => kernel_rfl
                case hQ_k44 => exact fun _ _ _ h => h
                case hw_k44 => rfl
                case hy_k44 => ((intro w hSw; (try dsimp only at hSw); go_simp); all_goals (with_reducible rfl))
                try simp only [Act.put, List.setIfInBounds_toArray, List.set_cons_zero, List.set_cons_succ]
                refine wpAnyH_take (i := 10) (oi := ?oi_k45) (v := ?v_k45) ?hi_k45 (by kernel_rfl) ?hf_k45 ?hr_k45 ?hQ_k45 (Or.inl ⟨?hw_k45, ?hy_k45⟩) (by assumption) ?rest_k45
                case hi_k45 => ((simp only [List.getElem?_toArray, List.getElem?_cons_succ, List.getElem?_cons_zero]); rfl)
                case hf_k45 => kernel_rfl
                case hr_k45 => kernel_rfl
                case hQ_k45 => exact fun _ _ _ h => h
                case hw_k45 => rfl
                case hy_k45 => ((intro w hSw; (try dsimp only at hSw); go_simp); all_goals (with_reducible rfl))
                try simp only [Act.put, List.setIfInBounds_toArray, List.set_cons_zero, List.set_cons_succ]
                refine wpAnyH_take (i := 12) (oi := ?oi_k46) (v := ?v_k46) ?hi_k46 (by kernel_rfl) ?hf_k46 ?hr_k46 ?hQ_k46 (Or.inl ⟨?hw_k46, ?hy_k46⟩) (by assumption) ?rest_k46
                case hi_k46 => ((simp only [List.getElem?_toArray, List.getElem?_cons_succ, List.getElem?_cons_zero]); rfl)
                case hf_k46 => kernel_rfl
                case hr_k46 => kernel_rfl
                case hQ_k46 => exact fun _ _ _ h => h
                case hw_k46 => rfl
                case hy_k46 => ((intro w hSw; (try dsimp only at hSw); go_simp); all_goals (with_reducible rfl))
                try simp only [Act.put, List.setIfInBounds_toArray, List.set_cons_zero, List.set_cons_succ]
                refine wpAnyH_take (i := 13) (oi := ?oi_k47) (v := ?v_k47) ?hi_k47 (by kernel_rfl) ?hf_k47 ?hr_k47 ?hQ_k47 (Or.inl ⟨?hw_k47, ?hy_k47⟩) (by assumption) ?rest_k47
                case hi_k47 => ((simp only [List.getElem?_toArray, List.getElem?_cons_succ, List.getElem?_cons_zero]); rfl)
                case hf_k47 => kernel_rfl
                case hr_k47 => kernel_rfl
                case hQ_k47 => exact fun _ _ _ h => h
                case hw_k47 => rfl
                case hy_k47 => ((intro w hSw; (try dsimp only at hSw); go_simp); all_goals (with_reducible rfl))
                try simp only [Act.put, List.setIfInBounds_toArray, List.set_cons_zero, List.set_cons_succ]
                refine wpAnyH_take (i := 14) (oi := ?oi_k48) (v := ?v_k48) ?hi_k48 (by kernel_rfl) ?hf_k48 ?hr_k48 ?hQ_k48 (Or.inl ⟨?hw_k48, ?hy_k48⟩) (by assumption) ?rest_k48
                case hi_k48 => ((simp only [List.getElem?_toArray, List.getElem?_cons_succ, List.getElem?_cons_zero]); rfl)
                case hf_k48 => kernel_rfl
                case hr_k48 => kernel_rfl
                case hQ_k48 => exact fun _ _ _ h => h
                case hw_k48 => rfl
                case hy_k48 => ((intro w hSw; (try dsimp only at hSw); go_simp); all_goals (with_reducible rfl))
                try simp only [Act.put, List.setIfInBounds_toArray, List.set_cons_zero, List.set_cons_succ]
                refine wpAnyH_take (i := 15) (oi := ?oi_k49) (v := ?v_k49) ?hi_k49 (by kernel_rfl) ?hf_k49 ?hr_k49 ?hQ_k49 (Or.inl ⟨?hw_k49, ?hy_k49⟩) (by assumption) ?rest_k49
                case hi_k49 => ((simp only [List.getElem?_toArray, List.getElem?_cons_succ, List.getElem?_cons_zero]); rfl)
                case hf_k49 => kernel_rfl
                case hr_k49 => kernel_rfl
                case hQ_k49 => exact fun _ _ _ h => h
                case hw_k49 => rfl
                case hy_k49 => ((intro w hSw; (try dsimp only at hSw); go_simp); all_goals (with_reducible rfl))
                try simp only [Act.put, List.setIfInBounds_toArray, List.set_cons_zero, List.set_cons_succ]
                refine krip (fun u u' => Below u.heap.size u u') [129, 131, 136] [[], [], [], [], [], [], [], [], [], [], [], [9], [], [], [], [], [], [9, 11, 16], [9, 11, 16], [9, 11, 16], [9, 11, 16], [9, 11, 16]] [[], [], [], [], [], [], [], [], [], [129], [], [131], [], [], [], [], [136], [], [], [], [], []] [9, 11, 16] (krF [(9, fun t u => ∃ g : Nat, t 129 = .slice (some ⟨g, 0, none⟩) 0 0 ∧ OwnR u (W5.heap.size) 29 11 (.slice (some ⟨g, 0, none⟩) 0 0) 0 []), (11, fun t u => OwnR u (W5.heap.size) 29 11 (t 131) (SL.length) (SL.flatMap PodV.cells)), (16, fun t u => ∃ g : Nat, t 136 = .slice (some ⟨g, 0, none⟩) 1 1 ∧ Row u (some ⟨g, 0, none⟩) 1 1 11 ([.string y.id, .int .i64 y.prio, .bool false, .int .i64 y.r0, .int .i64 y.r1, .int .i64 y.r2, .int .i64 y.l0, .int .i64 y.l1, .int .i64 y.l2, .string y.img, .int .i64 y.size]))]) 5 #[true, true, true, true, true, true, true, true, true, true, true, true, true, true, true, true, true, false, false, false, false, false] (by kernel_rfl) (by kernel_rfl) (by kernel_rfl) (by assumption) (AllL.cons ?s_9_q50 (AllL.cons ?s_11_q50 (AllL.cons ?s_16_q50 AllL.nil))) (AllL.cons ?o_9_q50 (AllL.cons ?o_11_q50 (AllL.cons ?o_16_q50 AllL.nil))) ?e_q50
                case s_9_q50 => exact fun t u u' hle ⟨g, e, h⟩ => ⟨g, e, OwnR.later h hle⟩
                case s_11_q50 => exact fun t u u' hle h => OwnR.later h hle
                case s_16_q50 => exact fun t u u' hle ⟨g, e, h⟩ => ⟨g, e, Row.later h hle⟩
                case o_9_q50 =>
                  refine KrOp.of (o := ?oo_9_q50) ?hi_9_q50 (fun t u hHeld hF K hK => ?rr_9_q50)
                  case hi_9_q50 => ((simp only [List.getElem?_toArray, List.getElem?_cons_succ, List.getElem?_cons_zero]); rfl)
                  case rr_9_q50 =>
                    clear hF
                    simp only [setl, List.foldl_cons, List.foldl_nil, Act.put, List.setIfInBounds_toArray, List.set_cons_zero, List.set_cons_succ] at hK ⊢
                    go_simp
                    refine hK.out _ _ (by exact (by repeat (first | assumption | exact Below.refl _ _ | refine belDrew ?_ | refine belAlloc ?_ _ | refine belStep ?_ (by assumption)))) (by exact (show Below W5.heap.size W5 _ by repeat (first | assumption | exact Below.refl _ _ | refine belDrew ?_ | refine belAlloc ?_ _ | refine belStep ?_ (by assumption)))) ?_
                    exact ⟨_, rfl, OwnR.mono (own_empty _ _ 11) (Below.size hHeld)⟩
                case o_11_q50 =>
                  refine KrOp.of (o := ?oo_11_q50) ?hi_11_q50 (fun t u hHeld hF K hK => ?rr_11_q50)
                  case hi_11_q50 => ((simp only [List.getElem?_toArray, List.getElem?_cons_succ, List.getElem?_cons_zero]); rfl)
                  case rr_11_q50 =>
                    have h9 : ∃ g : Nat, t 129 = .slice (some ⟨g, 0, none⟩) 0 0 ∧ OwnR u (W5.heap.size) 29 11 (.slice (some ⟨g, 0, none⟩) 0 0) 0 [] := hF 9 rfl rfl
                    clear hF
                    simp only [setl, List.foldl_cons, List.foldl_nil, Act.put, List.setIfInBounds_toArray, List.set_cons_zero, List.set_cons_succ] at hK ⊢
                    generalize t 129 = x129 at *
                    obtain ⟨g9, rfl, ho9⟩ := h9
                    refine op_firstG (by rfl) _ _ 45 rfl (W5.heap.size) 29 _ 11 104 Try.underlying45 info_pod rfl (by decide) g9 (by rfl) ho9 (aq5) (SL.length) (cq5) (SL.flatMap PodV.cells) (by rfl) (HSS.out _ hHeld) (pods_one _) (by have := hSB; unfold maxLen; omega) (by have := hSB; omega) (Below.size hHeld) ?_
                    intro v4 w4 ho4 hb4
                    refine hK.out _ _ (by exact (by repeat (first | assumption | exact Below.refl _ _ | refine belDrew ?_ | refine belAlloc ?_ _ | refine belStep ?_ (by assumption)))) (by exact (show Below W5.heap.size W5 _ by repeat (first | assumption | exact Below.refl _ _ | refine belDrew ?_ | refine belAlloc ?_ _ | refine belStep ?_ (by assumption)))) ?_
                    exact ho4
                case o_16_q50 =>
                  refine KrOp.of (o := ?oo_16_q50) ?hi_16_q50 (fun t u hHeld hF K hK => ?rr_16_q50)
                  case hi_16_q50 => ((simp only [List.getElem?_toArray, List.getElem?_cons_succ, List.getElem?_cons_zero]); rfl)
                  case rr_16_q50 =>
                    clear hF
                    simp only [setl, List.foldl_cons, List.foldl_nil, Act.put, List.setIfInBounds_toArray, List.set_cons_zero, List.set_cons_succ] at hK ⊢
                    go_simp
                    refine hK.out _ _ (by exact (by repeat (first | assumption | exact Below.refl _ _ | refine belDrew ?_ | refine belAlloc ?_ _ | refine belStep ?_ (by assumption)))) (by exact (show Below W5.heap.size W5 _ by repeat (first | assumption | exact Below.refl _ _ | refine belDrew ?_ | refine belAlloc ?_ _ | refine belStep ?_ (by assumption)))) ?_
                    exact ⟨_, rfl, row_new _ ([.string y.id, .int .i64 y.prio, .bool false, .int .i64 y.r0, .int .i64 y.r1, .int .i64 y.r2, .int .i64 y.l0, .int .i64 y.l1, .int .i64 y.l2, .string y.img, .int .i64 y.size]) 29 1 11 rfl (by unfold maxLen; omega)⟩
                case e_q50 =>
                  intro t u hHeld hF
                  have h9 : ∃ g : Nat, t 129 = .slice (some ⟨g, 0, none⟩) 0 0 ∧ OwnR u (W5.heap.size) 29 11 (.slice (some ⟨g, 0, none⟩) 0 0) 0 [] := hF 9 rfl
                  have h11 : OwnR u (W5.heap.size) 29 11 (t 131) (SL.length) (SL.flatMap PodV.cells) := hF 11 rfl
                  have h16 : ∃ g : Nat, t 136 = .slice (some ⟨g, 0, none⟩) 1 1 ∧ Row u (some ⟨g, 0, none⟩) 1 1 11 ([.string y.id, .int .i64 y.prio, .bool false, .int .i64 y.r0, .int .i64 y.r1, .int .i64 y.r2, .int .i64 y.l0, .int .i64 y.l1, .int .i64 y.l2, .string y.img, .int .i64 y.size]) := hF 16 rfl
                  clear hF
                  simp only [setl, List.foldl_cons, List.foldl_nil, Act.put, List.setIfInBounds_toArray, List.set_cons_zero, List.set_cons_succ]
                  generalize t 129 = x129 at *
                  generalize t 131 = x131 at *
                  generalize t 136 = x136 at *
                  obtain ⟨g16, rfl, hr16⟩ := h16
                  obtain ⟨g9, rfl, ho9⟩ := h9
                  have HO11 := Lib.hid h11
                  clear h11
                  refine wpAnyH_ready (rs := [17]) (by kernel_rfl) (by simp) ?_
                  refine AllReadyH.cons (o := ?o1_ta31) ?hi_ta31 (fun K hK => ?rest_ta31) AllReadyH.nil
                  case hi_ta31 => ((simp only [List.getElem?_toArray, List.getElem?_cons_succ, List.getElem?_cons_zero]); rfl)
                  refine op_appG (by rfl) _ _ 45 rfl (W5.heap.size) 29 _ 11 104 Try.underlying45 info_pod rfl (by decide) _ (SL.length) _ (by rfl) HO11.out _ 1 1 ([.string y.id, .int .i64 y.prio, .bool false, .int .i64 y.r0, .int .i64 y.r1, .int .i64 y.r2, .int .i64 y.l0, .int .i64 y.l1, .int .i64 y.l2, .string y.img, .int .i64 y.size]) (by rfl) hr16 (fun u hu => pod_one y u (cells_false YC.out ▸ hu)) (by have := hSB; unfold maxLen; omega) (by have := hSB; omega) (Below.size hHeld) ?_
                  intro v8 u8 ho8 hb8
                  have hu8 : Below W5.heap.size W5 u8 := hHeld.trans hb8
                  refine hK.out _ _ (by exact hu8) (fun hHeld => ?_)
                  clear hK K hb8
                  try simp only [Act.put, List.setIfInBounds_toArray, List.set_cons_zero, List.set_cons_succ]
                  rw [cells_false YC.out] at ho8
                  have hs8 := own_snoc ho8
                  obtain ⟨SY, hSY⟩ : ∃ s, SL ++ [y] = s := ⟨_, rfl⟩
                  have HSO := Lib.hid (show ∀ x ∈ SY, x.ok from hSY ▸ (ok_snoc HKO.out (HOKL.out y (List.mem_of_getElem? HY.out))))
                  have HSR := Lib.hid (show ∀ x ∈ SY, rightB x = true from hSY ▸ (fun x hx => (List.mem_append.1 hx).elim (HKR.out x) (fun h => by simp at h; subst h; exact (HFI.out.rl _ (List.mem_of_getElem? HY.out)).1)))
                  have HFY := Lib.hid (show fitsB ⟨c.a0, c.a1, c.a2⟩ SY = false from hSY ▸ HFN.out)
                  rw [hSY] at hs8
                  clear hSY
                  obtain ⟨ad6, cd6, e6, hr6⟩ := rowR_of_own hs8
                  subst e6
                  have CW8 := Lib.hid (show Calls Try.prog 22 #[.agg #[.int .i64 c.a0, .int .i64 c.a1, .int .i64 c.a2], .slice ad6 SY.length cd6] u8 fun e w' => e = .returned (.bool false) ∧ Below u8.heap.size u8 w' from by have h := rref_Within ⟨c.a0, c.a1, c.a2⟩ ad6 _ cd6 SY u8 rfl HSO.out hr6 HSR.out ⟨HRO.out.1, HCO.out.ca.1⟩ ⟨HRO.out.2.1, HCO.out.ca.2.1⟩ ⟨HRO.out.2.2, HCO.out.ca.2.2⟩; rw [show fitsB ⟨c.a0, c.a1, c.a2⟩ SY = false from HFY.out] at h; exact h)
                  clear ho8 hs8 hr6
                  refine wpAnyH_ready (rs := [18]) (by kernel_rfl) (by simp) ?_
                  refine AllReadyH.cons (o := ?o1_k32) ?hi_k32 (fun K hK => ?rest_k32) AllReadyH.nil
                  case hi_k32 => ((simp only [List.getElem?_toArray, List.getElem?_cons_succ, List.getElem?_cons_zero]); rfl)
                  go_simp
                  (go_at_call 22; (with_reducible refine CW8.out.mono ?_); rintro e w10 ⟨rfl, hb10⟩)
                  try go_simp
                  refine hK.out _ _ (by exact (show Below W5.heap.size W5 _ by repeat (first | assumption | exact Below.refl _ _ | refine belDrew ?_ | refine belAlloc ?_ _ | refine belStep ?_ (by assumption)))) (fun hHeld => ?_)
                  clear hK K
                  try simp only [Act.put, List.setIfInBounds_toArray, List.set_cons_zero, List.set_cons_succ]
                  refine wpAnyH_take (i := 19) (oi := ?oi_k33) (v := ?v_k33) ?hi_k33 (by kernel_rfl) ?hf_k33 ?hr_k33 ?hQ_k33 (Or.inl ⟨?hw_k33, ?hy_k33⟩) (by assumption) ?rest_k33
                  case hi_k33 => ((simp only [List.getElem?_toArray, List.getElem?_cons_succ, List.getElem?_cons_zero]); rfl)
                  case hf_k33 => kernel_rfl
                  case hr_k33 => kernel_rfl
                  case hQ_k33 => exact fun _ _ _ h => h
                  case hw_k33 => rfl
                  case hy_k33 => ((intro w hSw; (try dsimp only at hSw); go_simp); all_goals (with_reducible rfl))
                  try simp only [Act.put, List.setIfInBounds_toArray, List.set_cons_zero, List.set_cons_succ]
                  refine wpAnyH_take (i := 20) (oi := ?oi_k34) (v := ?v_k34) ?hi_k34 (by kernel_rfl) ?hf_k34 ?hr_k34 ?hQ_k34 (Or.inl ⟨?hw_k34, ?hy_k34⟩) (by assumption) ?rest_k34
                  case hi_k34 => ((simp only [List.getElem?_toArray, List.getElem?_cons_succ, List.getElem?_cons_zero]); rfl)
                  case hf_k34 => kernel_rfl
                  case hr_k34 => kernel_rfl
                  case hQ_k34 => exact fun _ _ _ h => h
                  case hw_k34 => rfl
                  case hy_k34 => ((intro w hSw; (try dsimp only at hSw); go_simp); all_goals (with_reducible rfl))
                  try simp only [Act.put, List.setIfInBounds_toArray, List.set_cons_zero, List.set_cons_succ]
                  refine wpAnyH_take (i := 21) (oi := ?oi_k35) (v := ?v_k35) ?hi_k35 (by kernel_rfl) ?hf_k35 ?hr_k35 ?hQ_k35 (Or.inl ⟨?hw_k35, ?hy_k35⟩) (by assumption) ?rest_k35
                  case hi_k35 => ((simp only [List.getElem?_toArray, List.getElem?_cons_succ, List.getElem?_cons_zero]); rfl)
                  case hf_k35 => kernel_rfl
                  case hr_k35 => kernel_rfl
                  case hQ_k35 => exact fun _ _ _ h => h
                  case hw_k35 => rfl
                  case hy_k35 => ((intro w hSw; (try dsimp only at hSw); go_simp); all_goals (with_reducible rfl))
                  try simp only [Act.put, List.setIfInBounds_toArray, List.set_cons_zero, List.set_cons_succ]
                  refine wpAnyH_done (by kernel_rfl) ?_ _
                  have hbel : Below W5.heap.size W5 w10 := hHeld
                  clear hHeld hu8
                  go_wp2
                  go_roundw
                  case rel => exact ⟨m + 1, _, by omega, by push_cast; rfl, rfl, Lib.hid (by rw [HNX.out, Bool.or_true]), hbel⟩
                  case measure => simp [intOf] <;> omega
            · obtain rfl : m = (podsOf T).length := by omega
              have hd : decide (((podsOf T).length : Int) < ((podsOf T).length : Int)) = false := decide_eq_false (by omega)
              rw [List.take_length, HM.out.any k s HSK.out] at HE
              obtain rfl : true = D := HE.out
              go_wp2
              go_roundw
              case rel => exact ⟨k + 1, by omega, by push_cast; rfl, hbel⟩
              case measure => simp [intOf] <;> omega
        · obtain rfl : k = G1.length := by omega
          have hd : decide ((G1.length : Int) < (G1.length : Int)) = false := decide_eq_false (by omega)
          go_wp2
          go_ret
          exact ⟨rfl, belStep hw hbel⟩

set_option maxRecDepth 100000 in
theorem lifted (os : Os) (started : os.Started) (H : Type) (enc : TypeId × Value → H) :
    ReturnsInHanded {} Try.checked os 5 .any (Rows.admitCriticalSpec.pre6 enc Try.prog Try.f5 Rows.admitCriticalRow.domain false) (Rows.admitCriticalSpec.post enc Try.prog Try.f5 false true false false) := by
  refine returnsInHanded_of_change (C := Try.checked) own started (by kernel_rfl) Try.func5
    (ChangeSpec.witness6 (enc := enc) (C := Try.checked) false ⟨#[], #[.agg #[.int .i64 0, .int .i64 0, .int .i64 0, .int .i64 0, .int .i64 0, .int .i64 0, .slice none 0 0, .int .i64 0, .int .i64 0, .int .i64 0, .int .i64 0], .slice none 0 0, .agg #[.bool false, .bool false, .bool false], .agg #[.string ByteArray.empty, .int .i64 0, .bool false, .int .i64 0, .int .i64 0, .int .i64 0, .int .i64 0, .int .i64 0, .int .i64 0, .string ByteArray.empty, .int .i64 0]], []⟩ 8 (by kernel_rfl) (by kernel_rfl) (by kernel_rfl) (by kernel_rfl)) ?_
  intro W base args ds gs before hval0 hW hcnd _
  have hval : ∀ (j : Nat) t v, Try.f5.params[j]? = some t → args[j]? = some v → Value.okWide Try.prog W .any base t v := hval0
  have hW' := hW
  obtain ⟨p, q, hA0, hV, rfl, hfz, hnd⟩ := hW
  have hA : DataW.TrodAll enc Try.prog W 0 (fun _ => true) true Try.f5.params.toList args.toList ds p := hA0
  rw [Try.params5] at hA hval
  obtain ⟨v0, vs0, d0, ds0, p0, q0, hargs, rfl, rfl, h0, r0⟩ := trodAll_cons hA
  obtain ⟨v1, vs1, d1, ds1, p1, q1, rfl, rfl, rfl, h1, r1⟩ := trodAll_cons r0
  obtain ⟨v2, vs2, d2, ds2, p2, q2, rfl, rfl, rfl, h2, r2⟩ := trodAll_cons r1
  obtain ⟨v3, vs3, d3, ds3, p3, q3, rfl, rfl, rfl, h3, r3⟩ := trodAll_cons r2
  obtain ⟨rfl, rfl, rfl⟩ := trodAll_nil r3
  obtain rfl : args = #[v0, v1, v2, v3] := by cases args; simp_all
  obtain ⟨rfl, rfl⟩ := trodVars_none hV
  have k0 := h0
  have lt0 : ∀ x ∈ p0, x.block < W.heap.size := by obtain ⟨m, hm⟩ := k0; exact DataW.trod_lt m _ _ _ hm
  have o0 : Value.okWide Try.prog W .any base 25 v0 := hval 0 25 v0 rfl rfl
  obtain ⟨c0, rfl, hc0⟩ := open_cfg o0 h0
  have k1 := h1
  have lt1 : ∀ x ∈ p1, x.block < W.heap.size := by obtain ⟨m, hm⟩ := k1; exact DataW.trod_lt m _ _ _ hm
  have o1 : Value.okWide Try.prog W .any base 26 v1 := hval 1 26 v1 rfl rfl
  obtain ⟨a1, len1, cap1, T1, rfl, f1, g1, i1⟩ := open_ents o1 h1
  have k2 := h2
  have lt2 : ∀ x ∈ p2, x.block < W.heap.size := by obtain ⟨m, hm⟩ := k2; exact DataW.trod_lt m _ _ _ hm
  have o2 : Value.okWide Try.prog W .any base 27 v2 := hval 2 27 v2 rfl rfl
  obtain ⟨O2, rfl⟩ := open_on o2 h2
  have k3 := h3
  have lt3 : ∀ x ∈ p3, x.block < W.heap.size := by obtain ⟨m, hm⟩ := k3; exact DataW.trod_lt m _ _ _ hm
  have o3 : Value.okWide Try.prog W .any base 29 v3 := hval 3 29 v3 rfl rfl
  obtain ⟨p3, rfl, f3⟩ := open_pod o3 h3
  clear hA0 hval0
  refine (walk c0 a1 len1 cap1 T1 O2 p3 W hc0 f1 g1 i1  f3).mono fun e W' ⟨he, bel⟩ => ?_
  subst he
  exact ⟨_, rfl, _, _, _, [], _, [], hW', trodAll_mk1 (shut_bool Try.underlying4 _), (trodAll_cons_mk (Below.trod laidOut (by kernel_rfl) (of_decide_eq_true (by kernel_rfl)) k0 bel lt0) (trodAll_cons_mk (Below.trod laidOut (by kernel_rfl) (of_decide_eq_true (by kernel_rfl)) k1 bel lt1) (trodAll_cons_mk (Below.trod laidOut (by kernel_rfl) (of_decide_eq_true (by kernel_rfl)) k2 bel lt2) (trodAll_cons_mk (Below.trod laidOut (by kernel_rfl) (of_decide_eq_true (by kernel_rfl)) k3 bel lt3) trodAll_mk0)))), rfl, bel.frame _, fun h => by cases h⟩

theorem over : Rows.admitCriticalRow.holds Try.pinned (OpenSpec.ofChange Rows.admitCriticalSpec) :=
  OpenClaim.holds_of_wide 5 Try.f5 rfl rfl rfl rfl rfl rfl rfl ⟨rfl, rfl, rfl, rfl, rfl⟩ rfl rfl rfl rfl rfl (by kernel_rfl) Try.func5 (by kernel_rfl)
    (of_decide_eq_true (by kernel_rfl)) (by unfold Func.isWrapper; first | (rw [if_pos (by decide +kernel)]; kernel_rfl) | (rw [if_neg (by decide +kernel)]; exact ⟨rfl, rfl⟩))
    (fun os started H enc _ => lifted os started H enc)

/-- The statement. -/
theorem proved : Rows.AdmitCriticalSaid := over
#print axioms proved

end Go.Proofs.Ytafojeeehehplaa.admitCritical
