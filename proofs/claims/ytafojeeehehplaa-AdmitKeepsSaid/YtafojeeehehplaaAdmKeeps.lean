/- AdmitKeeps holds for all its arguments. No conditions. -/
import Derived.Test.YtafojeeehehplaaAdmKeepM
namespace Go.Proofs.Ytafojeeehehplaa.admitKeeps
open Go.ChangeShapes Go.WideShapes Go.ChangeAt Go.RowKit
open Go.ChangeMaps (open_string shut_string)
set_option linter.unusedVariables false
set_option linter.unusedSimpArgs false
set_option maxRecDepth 100000 in
set_option maxHeartbeats 16000000 in
theorem walk (c : CfgV) (a : Option Addr) (len cap : Nat) (T : List EntV) (O : On) (p : PodV) (w : World) (hc : c.ok w) (hl : T.length = len) (hok : ∀ x ∈ T, x.ok) (hR : Row w a len cap 12 (T.flatMap EntV.cells)) (hp : p.ok) :
    Calls Try.prog 9 #[.agg #[.int .i64 c.k0, .int .i64 c.k1, .int .i64 c.k2, .int .i64 c.a0, .int .i64 c.a1, .int .i64 c.a2, .slice c.ta c.tl c.tc, .int .i64 c.per, .int .i64 c.ret, .int .i64 c.age, .int .i64 c.dead], .slice a len cap, .agg #[.bool O.a, .bool O.b, .bool O.c], p.v] w fun e w' => e = .returned (.bool true) ∧ Below w.heap.size w w' := by
  unfold PodV.v
  have hw : Below w.heap.size w w := Below.refl _ _
  have hbel := hw
  have hbd_t : len ≤ cap ∧ cap ≤ 9223372036854775807 := by obtain ⟨_, h1, h2, _⟩ := hR; unfold maxLen at h2; exact ⟨h1, h2⟩
  obtain ⟨hbd1_t, hbd2_t⟩ := hbd_t
  have HR := Lib.hid hR
  have HOK := Lib.hid hok
  have HPO := Lib.hid hp
  have HCO := Lib.hid hc
  subst hl
  have CRT := Lib.hid (fun v (hv : Below w.heap.size w v) => ref7_Right c v (hc.later hv))
  have CFT := Lib.hid (fun v (hv : Below w.heap.size w v) => rref_Fit a T.length cap T v rfl hok (HR.out.later hv))
  obtain ⟨sm, hsm⟩ : ∃ b, smallB p = b := ⟨_, rfl⟩
  have CSM := Lib.hid (fun v => hsm ▸ pref_Small p v hp)
  clear hsm hR hok hp hc
  go_enter Try.func9, Try.ntmps9
  go_upto_region 1 with fail
  have cc0 : (((w.alloc (.cells #[.int .i64 c.k0, .int .i64 c.k1, .int .i64 c.k2, .int .i64 c.a0, .int .i64 c.a1, .int .i64 c.a2, .slice c.ta c.tl c.tc, .int .i64 c.per, .int .i64 c.ret, .int .i64 c.age, .int .i64 c.dead] 25)).alloc (.cells #[.bool O.a, .bool O.b, .bool O.c] 27)).alloc (.cells #[.string p.id, .int .i64 p.prio, .bool p.crit, .int .i64 p.r0, .int .i64 p.r1, .int .i64 p.r2, .int .i64 p.l0, .int .i64 p.l1, .int .i64 p.l2, .string p.img, .int .i64 p.size] 29)).cell? ⟨w.heap.size, 0, none⟩ = some (.int .i64 c.k0) := by first | (simp; done) | (rw [World.cell?_alloc_at _ _ _ _ (by simp)]; rfl) | (rw [World.cell?_alloc_past _ _ _ (by simp <;> omega), World.cell?_alloc_at _ _ _ _ (by simp)]; rfl) | (rw [World.cell?_alloc_past _ _ _ (by simp <;> omega), World.cell?_alloc_past _ _ _ (by simp <;> omega), World.cell?_alloc_at _ _ _ _ (by simp)]; rfl)
  have cc1 : (((w.alloc (.cells #[.int .i64 c.k0, .int .i64 c.k1, .int .i64 c.k2, .int .i64 c.a0, .int .i64 c.a1, .int .i64 c.a2, .slice c.ta c.tl c.tc, .int .i64 c.per, .int .i64 c.ret, .int .i64 c.age, .int .i64 c.dead] 25)).alloc (.cells #[.bool O.a, .bool O.b, .bool O.c] 27)).alloc (.cells #[.string p.id, .int .i64 p.prio, .bool p.crit, .int .i64 p.r0, .int .i64 p.r1, .int .i64 p.r2, .int .i64 p.l0, .int .i64 p.l1, .int .i64 p.l2, .string p.img, .int .i64 p.size] 29)).cell? ⟨w.heap.size, 1, none⟩ = some (.int .i64 c.k1) := by first | (simp; done) | (rw [World.cell?_alloc_at _ _ _ _ (by simp)]; rfl) | (rw [World.cell?_alloc_past _ _ _ (by simp <;> omega), World.cell?_alloc_at _ _ _ _ (by simp)]; rfl) | (rw [World.cell?_alloc_past _ _ _ (by simp <;> omega), World.cell?_alloc_past _ _ _ (by simp <;> omega), World.cell?_alloc_at _ _ _ _ (by simp)]; rfl)
  have cc2 : (((w.alloc (.cells #[.int .i64 c.k0, .int .i64 c.k1, .int .i64 c.k2, .int .i64 c.a0, .int .i64 c.a1, .int .i64 c.a2, .slice c.ta c.tl c.tc, .int .i64 c.per, .int .i64 c.ret, .int .i64 c.age, .int .i64 c.dead] 25)).alloc (.cells #[.bool O.a, .bool O.b, .bool O.c] 27)).alloc (.cells #[.string p.id, .int .i64 p.prio, .bool p.crit, .int .i64 p.r0, .int .i64 p.r1, .int .i64 p.r2, .int .i64 p.l0, .int .i64 p.l1, .int .i64 p.l2, .string p.img, .int .i64 p.size] 29)).cell? ⟨w.heap.size, 2, none⟩ = some (.int .i64 c.k2) := by first | (simp; done) | (rw [World.cell?_alloc_at _ _ _ _ (by simp)]; rfl) | (rw [World.cell?_alloc_past _ _ _ (by simp <;> omega), World.cell?_alloc_at _ _ _ _ (by simp)]; rfl) | (rw [World.cell?_alloc_past _ _ _ (by simp <;> omega), World.cell?_alloc_past _ _ _ (by simp <;> omega), World.cell?_alloc_at _ _ _ _ (by simp)]; rfl)
  have cc3 : (((w.alloc (.cells #[.int .i64 c.k0, .int .i64 c.k1, .int .i64 c.k2, .int .i64 c.a0, .int .i64 c.a1, .int .i64 c.a2, .slice c.ta c.tl c.tc, .int .i64 c.per, .int .i64 c.ret, .int .i64 c.age, .int .i64 c.dead] 25)).alloc (.cells #[.bool O.a, .bool O.b, .bool O.c] 27)).alloc (.cells #[.string p.id, .int .i64 p.prio, .bool p.crit, .int .i64 p.r0, .int .i64 p.r1, .int .i64 p.r2, .int .i64 p.l0, .int .i64 p.l1, .int .i64 p.l2, .string p.img, .int .i64 p.size] 29)).cell? ⟨w.heap.size, 3, none⟩ = some (.int .i64 c.a0) := by first | (simp; done) | (rw [World.cell?_alloc_at _ _ _ _ (by simp)]; rfl) | (rw [World.cell?_alloc_past _ _ _ (by simp <;> omega), World.cell?_alloc_at _ _ _ _ (by simp)]; rfl) | (rw [World.cell?_alloc_past _ _ _ (by simp <;> omega), World.cell?_alloc_past _ _ _ (by simp <;> omega), World.cell?_alloc_at _ _ _ _ (by simp)]; rfl)
  have cc4 : (((w.alloc (.cells #[.int .i64 c.k0, .int .i64 c.k1, .int .i64 c.k2, .int .i64 c.a0, .int .i64 c.a1, .int .i64 c.a2, .slice c.ta c.tl c.tc, .int .i64 c.per, .int .i64 c.ret, .int .i64 c.age, .int .i64 c.dead] 25)).alloc (.cells #[.bool O.a, .bool O.b, .bool O.c] 27)).alloc (.cells #[.string p.id, .int .i64 p.prio, .bool p.crit, .int .i64 p.r0, .int .i64 p.r1, .int .i64 p.r2, .int .i64 p.l0, .int .i64 p.l1, .int .i64 p.l2, .string p.img, .int .i64 p.size] 29)).cell? ⟨w.heap.size, 4, none⟩ = some (.int .i64 c.a1) := by first | (simp; done) | (rw [World.cell?_alloc_at _ _ _ _ (by simp)]; rfl) | (rw [World.cell?_alloc_past _ _ _ (by simp <;> omega), World.cell?_alloc_at _ _ _ _ (by simp)]; rfl) | (rw [World.cell?_alloc_past _ _ _ (by simp <;> omega), World.cell?_alloc_past _ _ _ (by simp <;> omega), World.cell?_alloc_at _ _ _ _ (by simp)]; rfl)
  have cc5 : (((w.alloc (.cells #[.int .i64 c.k0, .int .i64 c.k1, .int .i64 c.k2, .int .i64 c.a0, .int .i64 c.a1, .int .i64 c.a2, .slice c.ta c.tl c.tc, .int .i64 c.per, .int .i64 c.ret, .int .i64 c.age, .int .i64 c.dead] 25)).alloc (.cells #[.bool O.a, .bool O.b, .bool O.c] 27)).alloc (.cells #[.string p.id, .int .i64 p.prio, .bool p.crit, .int .i64 p.r0, .int .i64 p.r1, .int .i64 p.r2, .int .i64 p.l0, .int .i64 p.l1, .int .i64 p.l2, .string p.img, .int .i64 p.size] 29)).cell? ⟨w.heap.size, 5, none⟩ = some (.int .i64 c.a2) := by first | (simp; done) | (rw [World.cell?_alloc_at _ _ _ _ (by simp)]; rfl) | (rw [World.cell?_alloc_past _ _ _ (by simp <;> omega), World.cell?_alloc_at _ _ _ _ (by simp)]; rfl) | (rw [World.cell?_alloc_past _ _ _ (by simp <;> omega), World.cell?_alloc_past _ _ _ (by simp <;> omega), World.cell?_alloc_at _ _ _ _ (by simp)]; rfl)
  have cc6 : (((w.alloc (.cells #[.int .i64 c.k0, .int .i64 c.k1, .int .i64 c.k2, .int .i64 c.a0, .int .i64 c.a1, .int .i64 c.a2, .slice c.ta c.tl c.tc, .int .i64 c.per, .int .i64 c.ret, .int .i64 c.age, .int .i64 c.dead] 25)).alloc (.cells #[.bool O.a, .bool O.b, .bool O.c] 27)).alloc (.cells #[.string p.id, .int .i64 p.prio, .bool p.crit, .int .i64 p.r0, .int .i64 p.r1, .int .i64 p.r2, .int .i64 p.l0, .int .i64 p.l1, .int .i64 p.l2, .string p.img, .int .i64 p.size] 29)).cell? ⟨w.heap.size, 6, none⟩ = some (.slice c.ta c.tl c.tc) := by first | (simp; done) | (rw [World.cell?_alloc_at _ _ _ _ (by simp)]; rfl) | (rw [World.cell?_alloc_past _ _ _ (by simp <;> omega), World.cell?_alloc_at _ _ _ _ (by simp)]; rfl) | (rw [World.cell?_alloc_past _ _ _ (by simp <;> omega), World.cell?_alloc_past _ _ _ (by simp <;> omega), World.cell?_alloc_at _ _ _ _ (by simp)]; rfl)
  have cc7 : (((w.alloc (.cells #[.int .i64 c.k0, .int .i64 c.k1, .int .i64 c.k2, .int .i64 c.a0, .int .i64 c.a1, .int .i64 c.a2, .slice c.ta c.tl c.tc, .int .i64 c.per, .int .i64 c.ret, .int .i64 c.age, .int .i64 c.dead] 25)).alloc (.cells #[.bool O.a, .bool O.b, .bool O.c] 27)).alloc (.cells #[.string p.id, .int .i64 p.prio, .bool p.crit, .int .i64 p.r0, .int .i64 p.r1, .int .i64 p.r2, .int .i64 p.l0, .int .i64 p.l1, .int .i64 p.l2, .string p.img, .int .i64 p.size] 29)).cell? ⟨w.heap.size, 7, none⟩ = some (.int .i64 c.per) := by first | (simp; done) | (rw [World.cell?_alloc_at _ _ _ _ (by simp)]; rfl) | (rw [World.cell?_alloc_past _ _ _ (by simp <;> omega), World.cell?_alloc_at _ _ _ _ (by simp)]; rfl) | (rw [World.cell?_alloc_past _ _ _ (by simp <;> omega), World.cell?_alloc_past _ _ _ (by simp <;> omega), World.cell?_alloc_at _ _ _ _ (by simp)]; rfl)
  have cc8 : (((w.alloc (.cells #[.int .i64 c.k0, .int .i64 c.k1, .int .i64 c.k2, .int .i64 c.a0, .int .i64 c.a1, .int .i64 c.a2, .slice c.ta c.tl c.tc, .int .i64 c.per, .int .i64 c.ret, .int .i64 c.age, .int .i64 c.dead] 25)).alloc (.cells #[.bool O.a, .bool O.b, .bool O.c] 27)).alloc (.cells #[.string p.id, .int .i64 p.prio, .bool p.crit, .int .i64 p.r0, .int .i64 p.r1, .int .i64 p.r2, .int .i64 p.l0, .int .i64 p.l1, .int .i64 p.l2, .string p.img, .int .i64 p.size] 29)).cell? ⟨w.heap.size, 8, none⟩ = some (.int .i64 c.ret) := by first | (simp; done) | (rw [World.cell?_alloc_at _ _ _ _ (by simp)]; rfl) | (rw [World.cell?_alloc_past _ _ _ (by simp <;> omega), World.cell?_alloc_at _ _ _ _ (by simp)]; rfl) | (rw [World.cell?_alloc_past _ _ _ (by simp <;> omega), World.cell?_alloc_past _ _ _ (by simp <;> omega), World.cell?_alloc_at _ _ _ _ (by simp)]; rfl)
  have cc9 : (((w.alloc (.cells #[.int .i64 c.k0, .int .i64 c.k1, .int .i64 c.k2, .int .i64 c.a0, .int .i64 c.a1, .int .i64 c.a2, .slice c.ta c.tl c.tc, .int .i64 c.per, .int .i64 c.ret, .int .i64 c.age, .int .i64 c.dead] 25)).alloc (.cells #[.bool O.a, .bool O.b, .bool O.c] 27)).alloc (.cells #[.string p.id, .int .i64 p.prio, .bool p.crit, .int .i64 p.r0, .int .i64 p.r1, .int .i64 p.r2, .int .i64 p.l0, .int .i64 p.l1, .int .i64 p.l2, .string p.img, .int .i64 p.size] 29)).cell? ⟨w.heap.size, 9, none⟩ = some (.int .i64 c.age) := by first | (simp; done) | (rw [World.cell?_alloc_at _ _ _ _ (by simp)]; rfl) | (rw [World.cell?_alloc_past _ _ _ (by simp <;> omega), World.cell?_alloc_at _ _ _ _ (by simp)]; rfl) | (rw [World.cell?_alloc_past _ _ _ (by simp <;> omega), World.cell?_alloc_past _ _ _ (by simp <;> omega), World.cell?_alloc_at _ _ _ _ (by simp)]; rfl)
  have cc10 : (((w.alloc (.cells #[.int .i64 c.k0, .int .i64 c.k1, .int .i64 c.k2, .int .i64 c.a0, .int .i64 c.a1, .int .i64 c.a2, .slice c.ta c.tl c.tc, .int .i64 c.per, .int .i64 c.ret, .int .i64 c.age, .int .i64 c.dead] 25)).alloc (.cells #[.bool O.a, .bool O.b, .bool O.c] 27)).alloc (.cells #[.string p.id, .int .i64 p.prio, .bool p.crit, .int .i64 p.r0, .int .i64 p.r1, .int .i64 p.r2, .int .i64 p.l0, .int .i64 p.l1, .int .i64 p.l2, .string p.img, .int .i64 p.size] 29)).cell? ⟨w.heap.size, 10, none⟩ = some (.int .i64 c.dead) := by first | (simp; done) | (rw [World.cell?_alloc_at _ _ _ _ (by simp)]; rfl) | (rw [World.cell?_alloc_past _ _ _ (by simp <;> omega), World.cell?_alloc_at _ _ _ _ (by simp)]; rfl) | (rw [World.cell?_alloc_past _ _ _ (by simp <;> omega), World.cell?_alloc_past _ _ _ (by simp <;> omega), World.cell?_alloc_at _ _ _ _ (by simp)]; rfl)
  have oo0 : (((w.alloc (.cells #[.int .i64 c.k0, .int .i64 c.k1, .int .i64 c.k2, .int .i64 c.a0, .int .i64 c.a1, .int .i64 c.a2, .slice c.ta c.tl c.tc, .int .i64 c.per, .int .i64 c.ret, .int .i64 c.age, .int .i64 c.dead] 25)).alloc (.cells #[.bool O.a, .bool O.b, .bool O.c] 27)).alloc (.cells #[.string p.id, .int .i64 p.prio, .bool p.crit, .int .i64 p.r0, .int .i64 p.r1, .int .i64 p.r2, .int .i64 p.l0, .int .i64 p.l1, .int .i64 p.l2, .string p.img, .int .i64 p.size] 29)).cell? ⟨w.heap.size + 1, 0, none⟩ = some (.bool O.a) := by first | (simp; done) | (rw [World.cell?_alloc_at _ _ _ _ (by simp)]; rfl) | (rw [World.cell?_alloc_past _ _ _ (by simp <;> omega), World.cell?_alloc_at _ _ _ _ (by simp)]; rfl) | (rw [World.cell?_alloc_past _ _ _ (by simp <;> omega), World.cell?_alloc_past _ _ _ (by simp <;> omega), World.cell?_alloc_at _ _ _ _ (by simp)]; rfl)
  have oo1 : (((w.alloc (.cells #[.int .i64 c.k0, .int .i64 c.k1, .int .i64 c.k2, .int .i64 c.a0, .int .i64 c.a1, .int .i64 c.a2, .slice c.ta c.tl c.tc, .int .i64 c.per, .int .i64 c.ret, .int .i64 c.age, .int .i64 c.dead] 25)).alloc (.cells #[.bool O.a, .bool O.b, .bool O.c] 27)).alloc (.cells #[.string p.id, .int .i64 p.prio, .bool p.crit, .int .i64 p.r0, .int .i64 p.r1, .int .i64 p.r2, .int .i64 p.l0, .int .i64 p.l1, .int .i64 p.l2, .string p.img, .int .i64 p.size] 29)).cell? ⟨w.heap.size + 1, 1, none⟩ = some (.bool O.b) := by first | (simp; done) | (rw [World.cell?_alloc_at _ _ _ _ (by simp)]; rfl) | (rw [World.cell?_alloc_past _ _ _ (by simp <;> omega), World.cell?_alloc_at _ _ _ _ (by simp)]; rfl) | (rw [World.cell?_alloc_past _ _ _ (by simp <;> omega), World.cell?_alloc_past _ _ _ (by simp <;> omega), World.cell?_alloc_at _ _ _ _ (by simp)]; rfl)
  have oo2 : (((w.alloc (.cells #[.int .i64 c.k0, .int .i64 c.k1, .int .i64 c.k2, .int .i64 c.a0, .int .i64 c.a1, .int .i64 c.a2, .slice c.ta c.tl c.tc, .int .i64 c.per, .int .i64 c.ret, .int .i64 c.age, .int .i64 c.dead] 25)).alloc (.cells #[.bool O.a, .bool O.b, .bool O.c] 27)).alloc (.cells #[.string p.id, .int .i64 p.prio, .bool p.crit, .int .i64 p.r0, .int .i64 p.r1, .int .i64 p.r2, .int .i64 p.l0, .int .i64 p.l1, .int .i64 p.l2, .string p.img, .int .i64 p.size] 29)).cell? ⟨w.heap.size + 1, 2, none⟩ = some (.bool O.c) := by first | (simp; done) | (rw [World.cell?_alloc_at _ _ _ _ (by simp)]; rfl) | (rw [World.cell?_alloc_past _ _ _ (by simp <;> omega), World.cell?_alloc_at _ _ _ _ (by simp)]; rfl) | (rw [World.cell?_alloc_past _ _ _ (by simp <;> omega), World.cell?_alloc_past _ _ _ (by simp <;> omega), World.cell?_alloc_at _ _ _ _ (by simp)]; rfl)
  have pp0 : (((w.alloc (.cells #[.int .i64 c.k0, .int .i64 c.k1, .int .i64 c.k2, .int .i64 c.a0, .int .i64 c.a1, .int .i64 c.a2, .slice c.ta c.tl c.tc, .int .i64 c.per, .int .i64 c.ret, .int .i64 c.age, .int .i64 c.dead] 25)).alloc (.cells #[.bool O.a, .bool O.b, .bool O.c] 27)).alloc (.cells #[.string p.id, .int .i64 p.prio, .bool p.crit, .int .i64 p.r0, .int .i64 p.r1, .int .i64 p.r2, .int .i64 p.l0, .int .i64 p.l1, .int .i64 p.l2, .string p.img, .int .i64 p.size] 29)).cell? ⟨w.heap.size + 2, 0, none⟩ = some (.string p.id) := by first | (simp; done) | (rw [World.cell?_alloc_at _ _ _ _ (by simp)]; rfl) | (rw [World.cell?_alloc_past _ _ _ (by simp <;> omega), World.cell?_alloc_at _ _ _ _ (by simp)]; rfl) | (rw [World.cell?_alloc_past _ _ _ (by simp <;> omega), World.cell?_alloc_past _ _ _ (by simp <;> omega), World.cell?_alloc_at _ _ _ _ (by simp)]; rfl)
  have pp1 : (((w.alloc (.cells #[.int .i64 c.k0, .int .i64 c.k1, .int .i64 c.k2, .int .i64 c.a0, .int .i64 c.a1, .int .i64 c.a2, .slice c.ta c.tl c.tc, .int .i64 c.per, .int .i64 c.ret, .int .i64 c.age, .int .i64 c.dead] 25)).alloc (.cells #[.bool O.a, .bool O.b, .bool O.c] 27)).alloc (.cells #[.string p.id, .int .i64 p.prio, .bool p.crit, .int .i64 p.r0, .int .i64 p.r1, .int .i64 p.r2, .int .i64 p.l0, .int .i64 p.l1, .int .i64 p.l2, .string p.img, .int .i64 p.size] 29)).cell? ⟨w.heap.size + 2, 1, none⟩ = some (.int .i64 p.prio) := by first | (simp; done) | (rw [World.cell?_alloc_at _ _ _ _ (by simp)]; rfl) | (rw [World.cell?_alloc_past _ _ _ (by simp <;> omega), World.cell?_alloc_at _ _ _ _ (by simp)]; rfl) | (rw [World.cell?_alloc_past _ _ _ (by simp <;> omega), World.cell?_alloc_past _ _ _ (by simp <;> omega), World.cell?_alloc_at _ _ _ _ (by simp)]; rfl)
  have pp2 : (((w.alloc (.cells #[.int .i64 c.k0, .int .i64 c.k1, .int .i64 c.k2, .int .i64 c.a0, .int .i64 c.a1, .int .i64 c.a2, .slice c.ta c.tl c.tc, .int .i64 c.per, .int .i64 c.ret, .int .i64 c.age, .int .i64 c.dead] 25)).alloc (.cells #[.bool O.a, .bool O.b, .bool O.c] 27)).alloc (.cells #[.string p.id, .int .i64 p.prio, .bool p.crit, .int .i64 p.r0, .int .i64 p.r1, .int .i64 p.r2, .int .i64 p.l0, .int .i64 p.l1, .int .i64 p.l2, .string p.img, .int .i64 p.size] 29)).cell? ⟨w.heap.size + 2, 2, none⟩ = some (.bool p.crit) := by first | (simp; done) | (rw [World.cell?_alloc_at _ _ _ _ (by simp)]; rfl) | (rw [World.cell?_alloc_past _ _ _ (by simp <;> omega), World.cell?_alloc_at _ _ _ _ (by simp)]; rfl) | (rw [World.cell?_alloc_past _ _ _ (by simp <;> omega), World.cell?_alloc_past _ _ _ (by simp <;> omega), World.cell?_alloc_at _ _ _ _ (by simp)]; rfl)
  have pp3 : (((w.alloc (.cells #[.int .i64 c.k0, .int .i64 c.k1, .int .i64 c.k2, .int .i64 c.a0, .int .i64 c.a1, .int .i64 c.a2, .slice c.ta c.tl c.tc, .int .i64 c.per, .int .i64 c.ret, .int .i64 c.age, .int .i64 c.dead] 25)).alloc (.cells #[.bool O.a, .bool O.b, .bool O.c] 27)).alloc (.cells #[.string p.id, .int .i64 p.prio, .bool p.crit, .int .i64 p.r0, .int .i64 p.r1, .int .i64 p.r2, .int .i64 p.l0, .int .i64 p.l1, .int .i64 p.l2, .string p.img, .int .i64 p.size] 29)).cell? ⟨w.heap.size + 2, 3, none⟩ = some (.int .i64 p.r0) := by first | (simp; done) | (rw [World.cell?_alloc_at _ _ _ _ (by simp)]; rfl) | (rw [World.cell?_alloc_past _ _ _ (by simp <;> omega), World.cell?_alloc_at _ _ _ _ (by simp)]; rfl) | (rw [World.cell?_alloc_past _ _ _ (by simp <;> omega), World.cell?_alloc_past _ _ _ (by simp <;> omega), World.cell?_alloc_at _ _ _ _ (by simp)]; rfl)
  have pp4 : (((w.alloc (.cells #[.int .i64 c.k0, .int .i64 c.k1, .int .i64 c.k2, .int .i64 c.a0, .int .i64 c.a1, .int .i64 c.a2, .slice c.ta c.tl c.tc, .int .i64 c.per, .int .i64 c.ret, .int .i64 c.age, .int .i64 c.dead] 25)).alloc (.cells #[.bool O.a, .bool O.b, .bool O.c] 27)).alloc (.cells #[.string p.id, .int .i64 p.prio, .bool p.crit, .int .i64 p.r0, .int .i64 p.r1, .int .i64 p.r2, .int .i64 p.l0, .int .i64 p.l1, .int .i64 p.l2, .string p.img, .int .i64 p.size] 29)).cell? ⟨w.heap.size + 2, 4, none⟩ = some (.int .i64 p.r1) := by first | (simp; done) | (rw [World.cell?_alloc_at _ _ _ _ (by simp)]; rfl) | (rw [World.cell?_alloc_past _ _ _ (by simp <;> omega), World.cell?_alloc_at _ _ _ _ (by simp)]; rfl) | (rw [World.cell?_alloc_past _ _ _ (by simp <;> omega), World.cell?_alloc_past _ _ _ (by simp <;> omega), World.cell?_alloc_at _ _ _ _ (by simp)]; rfl)
  have pp5 : (((w.alloc (.cells #[.int .i64 c.k0, .int .i64 c.k1, .int .i64 c.k2, .int .i64 c.a0, .int .i64 c.a1, .int .i64 c.a2, .slice c.ta c.tl c.tc, .int .i64 c.per, .int .i64 c.ret, .int .i64 c.age, .int .i64 c.dead] 25)).alloc (.cells #[.bool O.a, .bool O.b, .bool O.c] 27)).alloc (.cells #[.string p.id, .int .i64 p.prio, .bool p.crit, .int .i64 p.r0, .int .i64 p.r1, .int .i64 p.r2, .int .i64 p.l0, .int .i64 p.l1, .int .i64 p.l2, .string p.img, .int .i64 p.size] 29)).cell? ⟨w.heap.size + 2, 5, none⟩ = some (.int .i64 p.r2) := by first | (simp; done) | (rw [World.cell?_alloc_at _ _ _ _ (by simp)]; rfl) | (rw [World.cell?_alloc_past _ _ _ (by simp <;> omega), World.cell?_alloc_at _ _ _ _ (by simp)]; rfl) | (rw [World.cell?_alloc_past _ _ _ (by simp <;> omega), World.cell?_alloc_past _ _ _ (by simp <;> omega), World.cell?_alloc_at _ _ _ _ (by simp)]; rfl)
  have pp6 : (((w.alloc (.cells #[.int .i64 c.k0, .int .i64 c.k1, .int .i64 c.k2, .int .i64 c.a0, .int .i64 c.a1, .int .i64 c.a2, .slice c.ta c.tl c.tc, .int .i64 c.per, .int .i64 c.ret, .int .i64 c.age, .int .i64 c.dead] 25)).alloc (.cells #[.bool O.a, .bool O.b, .bool O.c] 27)).alloc (.cells #[.string p.id, .int .i64 p.prio, .bool p.crit, .int .i64 p.r0, .int .i64 p.r1, .int .i64 p.r2, .int .i64 p.l0, .int .i64 p.l1, .int .i64 p.l2, .string p.img, .int .i64 p.size] 29)).cell? ⟨w.heap.size + 2, 6, none⟩ = some (.int .i64 p.l0) := by first | (simp; done) | (rw [World.cell?_alloc_at _ _ _ _ (by simp)]; rfl) | (rw [World.cell?_alloc_past _ _ _ (by simp <;> omega), World.cell?_alloc_at _ _ _ _ (by simp)]; rfl) | (rw [World.cell?_alloc_past _ _ _ (by simp <;> omega), World.cell?_alloc_past _ _ _ (by simp <;> omega), World.cell?_alloc_at _ _ _ _ (by simp)]; rfl)
  have pp7 : (((w.alloc (.cells #[.int .i64 c.k0, .int .i64 c.k1, .int .i64 c.k2, .int .i64 c.a0, .int .i64 c.a1, .int .i64 c.a2, .slice c.ta c.tl c.tc, .int .i64 c.per, .int .i64 c.ret, .int .i64 c.age, .int .i64 c.dead] 25)).alloc (.cells #[.bool O.a, .bool O.b, .bool O.c] 27)).alloc (.cells #[.string p.id, .int .i64 p.prio, .bool p.crit, .int .i64 p.r0, .int .i64 p.r1, .int .i64 p.r2, .int .i64 p.l0, .int .i64 p.l1, .int .i64 p.l2, .string p.img, .int .i64 p.size] 29)).cell? ⟨w.heap.size + 2, 7, none⟩ = some (.int .i64 p.l1) := by first | (simp; done) | (rw [World.cell?_alloc_at _ _ _ _ (by simp)]; rfl) | (rw [World.cell?_alloc_past _ _ _ (by simp <;> omega), World.cell?_alloc_at _ _ _ _ (by simp)]; rfl) | (rw [World.cell?_alloc_past _ _ _ (by simp <;> omega), World.cell?_alloc_past _ _ _ (by simp <;> omega), World.cell?_alloc_at _ _ _ _ (by simp)]; rfl)
  have pp8 : (((w.alloc (.cells #[.int .i64 c.k0, .int .i64 c.k1, .int .i64 c.k2, .int .i64 c.a0, .int .i64 c.a1, .int .i64 c.a2, .slice c.ta c.tl c.tc, .int .i64 c.per, .int .i64 c.ret, .int .i64 c.age, .int .i64 c.dead] 25)).alloc (.cells #[.bool O.a, .bool O.b, .bool O.c] 27)).alloc (.cells #[.string p.id, .int .i64 p.prio, .bool p.crit, .int .i64 p.r0, .int .i64 p.r1, .int .i64 p.r2, .int .i64 p.l0, .int .i64 p.l1, .int .i64 p.l2, .string p.img, .int .i64 p.size] 29)).cell? ⟨w.heap.size + 2, 8, none⟩ = some (.int .i64 p.l2) := by first | (simp; done) | (rw [World.cell?_alloc_at _ _ _ _ (by simp)]; rfl) | (rw [World.cell?_alloc_past _ _ _ (by simp <;> omega), World.cell?_alloc_at _ _ _ _ (by simp)]; rfl) | (rw [World.cell?_alloc_past _ _ _ (by simp <;> omega), World.cell?_alloc_past _ _ _ (by simp <;> omega), World.cell?_alloc_at _ _ _ _ (by simp)]; rfl)
  have pp9 : (((w.alloc (.cells #[.int .i64 c.k0, .int .i64 c.k1, .int .i64 c.k2, .int .i64 c.a0, .int .i64 c.a1, .int .i64 c.a2, .slice c.ta c.tl c.tc, .int .i64 c.per, .int .i64 c.ret, .int .i64 c.age, .int .i64 c.dead] 25)).alloc (.cells #[.bool O.a, .bool O.b, .bool O.c] 27)).alloc (.cells #[.string p.id, .int .i64 p.prio, .bool p.crit, .int .i64 p.r0, .int .i64 p.r1, .int .i64 p.r2, .int .i64 p.l0, .int .i64 p.l1, .int .i64 p.l2, .string p.img, .int .i64 p.size] 29)).cell? ⟨w.heap.size + 2, 9, none⟩ = some (.string p.img) := by first | (simp; done) | (rw [World.cell?_alloc_at _ _ _ _ (by simp)]; rfl) | (rw [World.cell?_alloc_past _ _ _ (by simp <;> omega), World.cell?_alloc_at _ _ _ _ (by simp)]; rfl) | (rw [World.cell?_alloc_past _ _ _ (by simp <;> omega), World.cell?_alloc_past _ _ _ (by simp <;> omega), World.cell?_alloc_at _ _ _ _ (by simp)]; rfl)
  have pp10 : (((w.alloc (.cells #[.int .i64 c.k0, .int .i64 c.k1, .int .i64 c.k2, .int .i64 c.a0, .int .i64 c.a1, .int .i64 c.a2, .slice c.ta c.tl c.tc, .int .i64 c.per, .int .i64 c.ret, .int .i64 c.age, .int .i64 c.dead] 25)).alloc (.cells #[.bool O.a, .bool O.b, .bool O.c] 27)).alloc (.cells #[.string p.id, .int .i64 p.prio, .bool p.crit, .int .i64 p.r0, .int .i64 p.r1, .int .i64 p.r2, .int .i64 p.l0, .int .i64 p.l1, .int .i64 p.l2, .string p.img, .int .i64 p.size] 29)).cell? ⟨w.heap.size + 2, 10, none⟩ = some (.int .i64 p.size) := by first | (simp; done) | (rw [World.cell?_alloc_at _ _ _ _ (by simp)]; rfl) | (rw [World.cell?_alloc_past _ _ _ (by simp <;> omega), World.cell?_alloc_at _ _ _ _ (by simp)]; rfl) | (rw [World.cell?_alloc_past _ _ _ (by simp <;> omega), World.cell?_alloc_past _ _ _ (by simp <;> omega), World.cell?_alloc_at _ _ _ _ (by simp)]; rfl)
  have hb2 := (by repeat (first | exact hbel | refine belAlloc ?_ _ | refine belDrew ?_ | refine belSet ?_ _ _ (by simp)) : Below w.heap.size w (((w.alloc (.cells #[.int .i64 c.k0, .int .i64 c.k1, .int .i64 c.k2, .int .i64 c.a0, .int .i64 c.a1, .int .i64 c.a2, .slice c.ta c.tl c.tc, .int .i64 c.per, .int .i64 c.ret, .int .i64 c.age, .int .i64 c.dead] 25)).alloc (.cells #[.bool O.a, .bool O.b, .bool O.c] 27)).alloc (.cells #[.string p.id, .int .i64 p.prio, .bool p.crit, .int .i64 p.r0, .int .i64 p.r1, .int .i64 p.r2, .int .i64 p.l0, .int .i64 p.l1, .int .i64 p.l2, .string p.img, .int .i64 p.size] 29)))
  replace hw := belStep hw hb2
  clear hb2 hbel
  generalize ((w.alloc (.cells #[.int .i64 c.k0, .int .i64 c.k1, .int .i64 c.k2, .int .i64 c.a0, .int .i64 c.a1, .int .i64 c.a2, .slice c.ta c.tl c.tc, .int .i64 c.per, .int .i64 c.ret, .int .i64 c.age, .int .i64 c.dead] 25)).alloc (.cells #[.bool O.a, .bool O.b, .bool O.c] 27)).alloc (.cells #[.string p.id, .int .i64 p.prio, .bool p.crit, .int .i64 p.r0, .int .i64 p.r1, .int .i64 p.r2, .int .i64 p.l0, .int .i64 p.l1, .int .i64 p.l2, .string p.img, .int .i64 p.size] 29) = W1 at *
  replace cc0 := keep cc0
  replace cc1 := keep cc1
  replace cc2 := keep cc2
  replace cc3 := keep cc3
  replace cc4 := keep cc4
  replace cc5 := keep cc5
  replace cc6 := keep cc6
  replace cc7 := keep cc7
  replace cc8 := keep cc8
  replace cc9 := keep cc9
  replace cc10 := keep cc10
  replace oo0 := keep oo0
  replace oo1 := keep oo1
  replace oo2 := keep oo2
  replace pp0 := keep pp0
  replace pp1 := keep pp1
  replace pp2 := keep pp2
  replace pp3 := keep pp3
  replace pp4 := keep pp4
  replace pp5 := keep pp5
  replace pp6 := keep pp6
  replace pp7 := keep pp7
  replace pp8 := keep pp8
  replace pp9 := keep pp9
  replace pp10 := keep pp10
  have hbel : Below W1.heap.size W1 W1 := Below.refl _ _
  skip
  go_upto_region 3 with (first | (go_at_call 10; (with_reducible refine (awake23 _).mono ?_); rintro e w1 ⟨rfl, hb1⟩; replace hbel := belStep hbel hb1; clear hb1) | (go_at_call 11; (with_reducible refine (CRT.out _ (belStep hw hbel)).mono ?_); rintro e w2 ⟨⟨b, rfl, hq⟩, hb2⟩; replace hbel := belStep hbel hb2; clear hb2; have HC := Lib.hid hq; clear hq; rcases b with _ | _) | (go_at_call 12; (with_reducible refine (CFT.out _ (belStep hw hbel)).mono ?_); rintro e w3 ⟨⟨b, rfl, hq⟩, hb3⟩; replace hbel := belStep hbel hb3; clear hb3; have HT := Lib.hid hq; clear hq; rcases b with _ | _) | (go_at_call 13; (with_reducible refine (CSM.out _).mono ?_); rintro e w4 ⟨rfl, hb4⟩; replace hbel := belStep hbel hb4; clear hb4; rcases sm with _ | _))
  · go_ret
    exact ⟨rfl, belStep hw hbel⟩
  · go_ret
    exact ⟨rfl, belStep hw hbel⟩
  · go_ret
    exact ⟨rfl, belStep hw hbel⟩
  replace HC := Lib.hid (HC.out (by trivial))
  replace HT := Lib.hid (HT.out (by trivial))
  clear CRT CFT CSM
  have hlen : T.length ≤ 64 := HT.out.len
  have hpl : (podsOf T).length ≤ 64 := by rw [podsOf_len]; omega
  have HRZ := Lib.hid (show 0 ≤ (⟨c.a0, c.a1, c.a2⟩ : Room).a ∧ 0 ≤ (⟨c.a0, c.a1, c.a2⟩ : Room).b ∧ 0 ≤ (⟨c.a0, c.a1, c.a2⟩ : Room).c from ⟨HC.out.caps.1.2, HC.out.caps.2.1.2, HC.out.caps.2.2.2⟩)
  replace cc0 := keepOnP cc0 hbel
  replace cc1 := keepOnP cc1 hbel
  replace cc2 := keepOnP cc2 hbel
  replace cc3 := keepOnP cc3 hbel
  replace cc4 := keepOnP cc4 hbel
  replace cc5 := keepOnP cc5 hbel
  replace cc6 := keepOnP cc6 hbel
  replace cc7 := keepOnP cc7 hbel
  replace cc8 := keepOnP cc8 hbel
  replace cc9 := keepOnP cc9 hbel
  replace cc10 := keepOnP cc10 hbel
  replace oo0 := keepOnP oo0 hbel
  replace oo1 := keepOnP oo1 hbel
  replace oo2 := keepOnP oo2 hbel
  replace pp0 := keepOnP pp0 hbel
  replace pp1 := keepOnP pp1 hbel
  replace pp2 := keepOnP pp2 hbel
  replace pp3 := keepOnP pp3 hbel
  replace pp4 := keepOnP pp4 hbel
  replace pp5 := keepOnP pp5 hbel
  replace pp6 := keepOnP pp6 hbel
  replace pp7 := keepOnP pp7 hbel
  replace pp8 := keepOnP pp8 hbel
  replace pp9 := keepOnP pp9 hbel
  replace pp10 := keepOnP pp10 hbel
  replace hw := belStep hw hbel
  clear hbel
  generalize w4 = W2 at *
  have hbel : Below W2.heap.size W2 W2 := Below.refl _ _
  have HRL := Lib.hid (fun u (hu : Below W2.heap.size W2 u) => HR.out.later (belStep hw hu))
  have HE := Lib.hid (own_empty W2 54 12)
  have HRE := Lib.hid (HRL.out _ (belAlloc (Below.refl _ _) (.cells #[] 54)))
  go_upto_region 4 with (at_builtin; refine wpList_app_row rfl _ _ 26 rfl W2.heap.size 54 _ 12 112 Try.underlying26 info_ent rfl (by decide) _ 0 [] rfl HE.out a T.length cap (T.flatMap EntV.cells) rfl HRE.out (ents_one _) (by simp only [maxLen]; omega) (by omega) (by simp) ?_)
  intro v7 w7 ho7 hb7 _
  have hbel7 : Below W2.heap.size W2 w7 := (belAlloc (Below.refl _ _) _).trans hb7
  obtain ⟨a7, c7, e7, hr7⟩ := rowR_of_own ho7
  subst e7
  clear ho7 hb7 HE HRE
  go_upto_region 4 with fail
  replace hbel := hbel7
  clear hbel7
  have HR7 := Lib.hid hr7
  clear hr7
  replace cc0 := keepOnP cc0 hbel
  replace cc1 := keepOnP cc1 hbel
  replace cc2 := keepOnP cc2 hbel
  replace cc3 := keepOnP cc3 hbel
  replace cc4 := keepOnP cc4 hbel
  replace cc5 := keepOnP cc5 hbel
  replace cc6 := keepOnP cc6 hbel
  replace cc7 := keepOnP cc7 hbel
  replace cc8 := keepOnP cc8 hbel
  replace cc9 := keepOnP cc9 hbel
  replace cc10 := keepOnP cc10 hbel
  replace oo0 := keepOnP oo0 hbel
  replace oo1 := keepOnP oo1 hbel
  replace oo2 := keepOnP oo2 hbel
  replace pp0 := keepOnP pp0 hbel
  replace pp1 := keepOnP pp1 hbel
  replace pp2 := keepOnP pp2 hbel
  replace pp3 := keepOnP pp3 hbel
  replace pp4 := keepOnP pp4 hbel
  replace pp5 := keepOnP pp5 hbel
  replace pp6 := keepOnP pp6 hbel
  replace pp7 := keepOnP pp7 hbel
  replace pp8 := keepOnP pp8 hbel
  replace pp9 := keepOnP pp9 hbel
  replace pp10 := keepOnP pp10 hbel
  replace hw := belStep hw hbel
  clear hbel
  generalize w7 = W3 at *
  have hbel : Below W3.heap.size W3 W3 := Below.refl _ _
  have hb7 : T.length ≤ c7 ∧ c7 ≤ 9223372036854775807 := by obtain ⟨_, h1, h2, _⟩ := HR7.out; unfold maxLen at h2; exact ⟨h1, h2⟩
  obtain ⟨hb71, hb72⟩ := hb7
  have HRM := Lib.hid (fun u (hu : Below W3.heap.size W3 u) => HR.out.later (belStep hw hu))
  have HRO := Lib.hid (fun u (hu : Below W3.heap.size W3 u) => HR7.out.later hu)
  obtain ⟨⟨⟨k1, g1, G1⟩, er1⟩, hD1⟩ : ∃ D, decideF ⟨c.a0, c.a1, c.a2⟩ T O p = D := ⟨_, rfl⟩
  have CD1 := Lib.hid (show ∀ u : World, Below W3.heap.size W3 u → Calls Try.prog 14 #[.agg #[.int .i64 c.k0, .int .i64 c.k1, .int .i64 c.k2, .int .i64 c.a0, .int .i64 c.a1, .int .i64 c.a2, .slice c.ta c.tl c.tc, .int .i64 c.per, .int .i64 c.ret, .int .i64 c.age, .int .i64 c.dead], .slice a7 T.length c7, .agg #[.bool O.a, .bool O.b, .bool O.c], .agg #[.string p.id, .int .i64 p.prio, .bool p.crit, .int .i64 p.r0, .int .i64 p.r1, .int .i64 p.r2, .int .i64 p.l0, .int .i64 p.l1, .int .i64 p.l2, .string p.img, .int .i64 p.size]] u fun e w' => (∃ b n, e = .returned (.tuple #[.agg #[.int .i64 k1, .int .i64 g1, .slice b G1.length n], .int .i64 er1]) ∧ OwnS w' u.heap.size (.slice b G1.length n) G1) ∧ Below u.heap.size u w' from fun u hu => by have h := adm_Decide c O p a7 T.length c7 T u rfl (HRO.out u hu) (by omega) HOK.out HT.out.dist HPO.out; rw [hD1] at h; exact h)
  have CD3 := Lib.hid (show ∀ u : World, Below W3.heap.size W3 u → Calls Try.prog 15 #[.agg #[.int .i64 c.k0, .int .i64 c.k1, .int .i64 c.k2, .int .i64 c.a0, .int .i64 c.a1, .int .i64 c.a2, .slice c.ta c.tl c.tc, .int .i64 c.per, .int .i64 c.ret, .int .i64 c.age, .int .i64 c.dead], .slice a T.length cap, .agg #[.bool O.a, .bool O.b, .bool O.c], .agg #[.string p.id, .int .i64 p.prio, .bool p.crit, .int .i64 p.r0, .int .i64 p.r1, .int .i64 p.r2, .int .i64 p.l0, .int .i64 p.l1, .int .i64 p.l2, .string p.img, .int .i64 p.size]] u fun e w' => (∃ b n, e = .returned (.tuple #[.agg #[.int .i64 k1, .int .i64 g1, .slice b G1.length n], .int .i64 er1]) ∧ OwnS w' u.heap.size (.slice b G1.length n) G1) ∧ Below u.heap.size u w' from fun u hu => by have h := rref_Decide c O p a T.length cap T u rfl (HRM.out u hu) (by omega) HOK.out HT.out.dist HPO.out; rw [hD1] at h; exact h)
  clear hD1
  go_upto_region 5 with (go_at_call 14; (with_reducible refine (CD1.out _ hbel).mono ?_); rintro e u1 ⟨⟨b1, m1, rfl, ho1⟩, hb1⟩; have hzw := Below.size hbel; replace hbel := belStep hbel hb1)
  have hO := OwnR.mono (OwnR.alloc ho1 (.cells #[.int .i64 k1, .int .i64 g1, .slice b1 G1.length m1] 36)) hzw
  have hV := (Blk.new u1 [.int .i64 k1, .int .i64 g1, .slice b1 G1.length m1] 36)
  have hB := belAlloc hbel (.cells #[.int .i64 k1, .int .i64 g1, .slice b1 G1.length m1] 36)
  have hgv : ∀ b o, b1 = some ⟨b, o, none⟩ → b < u1.heap.size := by
    intro bb oo e
    rcases own_shape ho1 with ⟨e1, _⟩ | ⟨g, cp, e1, _, hg2, _⟩
    · simp only [Value.slice.injEq] at e1; rw [e1.1] at e; cases e
    · simp only [Value.slice.injEq] at e1; rw [e1.1] at e; cases e; exact hg2
  clear ho1 hb1 hbel hzw
  generalize u1.alloc (.cells #[.int .i64 k1, .int .i64 g1, .slice b1 G1.length m1] 36) = W4 at *
  generalize u1.heap.size = vM at *
  have HO0 := Lib.hid hO
  have HV0 := Lib.hid hV
  have HB0 := Lib.hid hB
  have HGV := Lib.hid hgv
  clear hO hV hB hgv
  go_wp2
  go_loopw [12] (fun i wr => ∃ k : Nat, k ≤ T.length ∧ i = .int .i64 k ∧ Hid (OwnR wr W3.heap.size 9 1 (.slice b1 G1.length m1) G1.length (G1.map Value.string)) ∧ Hid (Blk wr vM [.int .i64 k1, .int .i64 g1, .slice b1 G1.length m1] 36) ∧ Below W3.heap.size W3 wr) (fun i _ => T.length - (intOf i).toNat)
  case atStart => exact ⟨0, Nat.zero_le _, rfl, HO0, HV0, HB0.out⟩
  case round =>
    obtain ⟨k, hk, rfl, HO, HV, hbel⟩ := hrel
    clear HO0 HV0 HB0
    have HBW := Lib.hid hbel
    generalize wr = WR at *
    by_cases hlt : k < T.length
    · obtain ⟨x, hx⟩ : ∃ x, T[k]? = some x := ⟨T[k], List.getElem?_eq_getElem hlt⟩
      obtain ⟨bc, oc, ec, _, hcc⟩ := (HRM.out _ (Below.refl _ _)).elem EntV.cells_len (by omega) hx
      subst ec
      have c0 := keep (hcc 0 _ rfl)
      have c1 := keep (hcc 1 _ rfl)
      have c2 := keep (hcc 2 _ rfl)
      have c3 := keep (hcc 3 _ rfl)
      have c4 := keep (hcc 4 _ rfl)
      have c5 := keep (hcc 5 _ rfl)
      have c6 := keep (hcc 6 _ rfl)
      have c7 := keep (hcc 7 _ rfl)
      have c8 := keep (hcc 8 _ rfl)
      have c9 := keep (hcc 9 _ rfl)
      have c10 := keep (hcc 10 _ rfl)
      have c11 := keep (hcc 11 _ rfl)
      rw [Nat.add_zero] at c0
      obtain ⟨bd, od, ed, _, hcd⟩ := (HRO.out _ (Below.refl _ _)).elem EntV.cells_len (by omega) hx
      subst ed
      have d0 := keep (hcd 0 _ rfl)
      have d1 := keep (hcd 1 _ rfl)
      have d2 := keep (hcd 2 _ rfl)
      have d3 := keep (hcd 3 _ rfl)
      have d4 := keep (hcd 4 _ rfl)
      have d5 := keep (hcd 5 _ rfl)
      have d6 := keep (hcd 6 _ rfl)
      have d7 := keep (hcd 7 _ rfl)
      have d8 := keep (hcd 8 _ rfl)
      have d9 := keep (hcd 9 _ rfl)
      have d10 := keep (hcd 10 _ rfl)
      have d11 := keep (hcd 11 _ rfl)
      rw [Nat.add_zero] at d0
      have hd : decide ((k : Int) < (T.length : Int)) = true := decide_eq_true (by omega)
      clear hx hcc hcd
      go_upto_region 8 with fail
      clear hbel
      replace c0 := keepOnP c0 HBW.out
      replace c1 := keepOnP c1 HBW.out
      replace c2 := keepOnP c2 HBW.out
      replace c3 := keepOnP c3 HBW.out
      replace c4 := keepOnP c4 HBW.out
      replace c5 := keepOnP c5 HBW.out
      replace c6 := keepOnP c6 HBW.out
      replace c7 := keepOnP c7 HBW.out
      replace c8 := keepOnP c8 HBW.out
      replace c9 := keepOnP c9 HBW.out
      replace c10 := keepOnP c10 HBW.out
      replace c11 := keepOnP c11 HBW.out
      replace d0 := keepOnP d0 HBW.out
      replace d1 := keepOnP d1 HBW.out
      replace d2 := keepOnP d2 HBW.out
      replace d3 := keepOnP d3 HBW.out
      replace d4 := keepOnP d4 HBW.out
      replace d5 := keepOnP d5 HBW.out
      replace d6 := keepOnP d6 HBW.out
      replace d7 := keepOnP d7 HBW.out
      replace d8 := keepOnP d8 HBW.out
      replace d9 := keepOnP d9 HBW.out
      replace d10 := keepOnP d10 HBW.out
      replace d11 := keepOnP d11 HBW.out
      have hbel : Below WR.heap.size WR WR := Below.refl _ _
      have heq := fun u => eq_ent_same x u
      have kk := fun d os => belStep hbel (below_regrown _ d os)
      refine wp_region_quiet_below (by kernel_rfl) (by kernel_rfl) ?_
      repeat ((with_reducible refine wpQuiet_step (fun K hK => ?_)); go_simp; (try (rw [if_neg]; rotate_left; · decide)); first | ((with_reducible refine hK _ ?_); clear hK K) | (apply Exists.intro; refine ⟨fun _ => ?_, hK _ ?_⟩; (fail); clear hK K))
      refine wpQuiet_nil (fun w1 hw1 => ?_)
      replace hbel := belStep hbel (bel_of_class hw1)
      clear hw1 kk
      go_wp2
      go_roundw
      case rel => exact ⟨k + 1, by omega, by push_cast; rfl, Lib.hid (HO.out.later hbel), Lib.hid (HV.out.later hbel), belStep HBW.out hbel⟩
      case measure => simp [intOf] <;> omega
    · obtain rfl : k = T.length := by omega
      have hd : decide ((T.length : Int) < (T.length : Int)) = false := decide_eq_false (by omega)
      go_wp2
      clear hbel
      rcases own_shape HO.out with ⟨e1, hn⟩ | ⟨g, cp, e1, hg1, hg2, hcp1, hcp2⟩
      · simp only [Value.slice.injEq] at e1
        obtain ⟨rfl, hn0, rfl⟩ := e1
        have HN0 := Lib.hid hn
        clear hn hn0
        have hd0 : decide ((0 : Int) < (G1.length : Int)) = false := decide_eq_false (by have := HN0.out; omega)
        have hd1 : ¬ (0 < G1.length) := by have := HN0.out; omega
        have hd2 : decide (0 < G1.length) = false := decide_eq_false hd1
        have hd3 : ¬ ((0 : Int) < (G1.length : Int)) := by have := HN0.out; omega
        go_loopw [13] (fun i wr => i = .int .i64 0 ∧ Hid (Blk wr vM [.int .i64 k1, .int .i64 g1, .slice none G1.length 0] 36) ∧ Below W3.heap.size W3 wr) (fun i _ => 0)
        case atStart => exact ⟨rfl, HV, HBW.out⟩
        case round =>
          obtain ⟨rfl, HV2, hbel⟩ := hrel
          clear HBW HO HV
          have z2 := HV2.out.cell (j := 2) rfl
          go_upto_region 14 with fail
          clear z2
          have HBX := Lib.hid hbel
          replace cc0 := keepOnP cc0 hbel
          replace cc1 := keepOnP cc1 hbel
          replace cc2 := keepOnP cc2 hbel
          replace cc3 := keepOnP cc3 hbel
          replace cc4 := keepOnP cc4 hbel
          replace cc5 := keepOnP cc5 hbel
          replace cc6 := keepOnP cc6 hbel
          replace cc7 := keepOnP cc7 hbel
          replace cc8 := keepOnP cc8 hbel
          replace cc9 := keepOnP cc9 hbel
          replace cc10 := keepOnP cc10 hbel
          replace oo0 := keepOnP oo0 hbel
          replace oo1 := keepOnP oo1 hbel
          replace oo2 := keepOnP oo2 hbel
          replace pp0 := keepOnP pp0 hbel
          replace pp1 := keepOnP pp1 hbel
          replace pp2 := keepOnP pp2 hbel
          replace pp3 := keepOnP pp3 hbel
          replace pp4 := keepOnP pp4 hbel
          replace pp5 := keepOnP pp5 hbel
          replace pp6 := keepOnP pp6 hbel
          replace pp7 := keepOnP pp7 hbel
          replace pp8 := keepOnP pp8 hbel
          replace pp9 := keepOnP pp9 hbel
          replace pp10 := keepOnP pp10 hbel
          replace hw := belStep hw hbel
          clear hbel
          generalize wr = W5a at *
          have hbel : Below W5a.heap.size W5a W5a := Below.refl _ _
          go_upto_region 15 with (go_at_call 14; (with_reducible refine (CD1.out _ (belStep HBX.out hbel)).mono ?_); rintro e u2a ⟨⟨bb2, mm2, rfl, ho2⟩, hb2⟩; replace hbel := belStep hbel hb2)
          have HX2 := Lib.hid (row_of_owns ho2)
          clear ho2 hb2
          replace HBX := Lib.hid (belStep HBX.out hbel)
          have HBY2 := Lib.hid hbel
          replace cc0 := keepOnP cc0 hbel
          replace cc1 := keepOnP cc1 hbel
          replace cc2 := keepOnP cc2 hbel
          replace cc3 := keepOnP cc3 hbel
          replace cc4 := keepOnP cc4 hbel
          replace cc5 := keepOnP cc5 hbel
          replace cc6 := keepOnP cc6 hbel
          replace cc7 := keepOnP cc7 hbel
          replace cc8 := keepOnP cc8 hbel
          replace cc9 := keepOnP cc9 hbel
          replace cc10 := keepOnP cc10 hbel
          replace oo0 := keepOnP oo0 hbel
          replace oo1 := keepOnP oo1 hbel
          replace oo2 := keepOnP oo2 hbel
          replace pp0 := keepOnP pp0 hbel
          replace pp1 := keepOnP pp1 hbel
          replace pp2 := keepOnP pp2 hbel
          replace pp3 := keepOnP pp3 hbel
          replace pp4 := keepOnP pp4 hbel
          replace pp5 := keepOnP pp5 hbel
          replace pp6 := keepOnP pp6 hbel
          replace pp7 := keepOnP pp7 hbel
          replace pp8 := keepOnP pp8 hbel
          replace pp9 := keepOnP pp9 hbel
          replace pp10 := keepOnP pp10 hbel
          replace hw := belStep hw hbel
          clear hbel
          generalize u2a = V2a at *
          have hbel : Below V2a.heap.size V2a V2a := Below.refl _ _
          have HXN := Lib.hid (HX2.out.later (belAlloc (Below.refl _ _) (.cells #[.int .i64 k1, .int .i64 g1, .slice bb2 G1.length mm2] 36)))
          replace HBX := Lib.hid (belStep HBX.out (belAlloc (Below.refl _ _) (.cells #[.int .i64 k1, .int .i64 g1, .slice bb2 G1.length mm2] 36)))
          replace HBY2 := Lib.hid (belStep HBY2.out (belAlloc (Below.refl _ _) (.cells #[.int .i64 k1, .int .i64 g1, .slice bb2 G1.length mm2] 36)))
          clear HX2
          have v20 : (V2a.alloc (.cells #[.int .i64 k1, .int .i64 g1, .slice bb2 G1.length mm2] 36)).cell? ⟨V2a.heap.size, 0, none⟩ = some (.int .i64 k1) := by first | (simp; done) | (rw [World.cell?_alloc_at _ _ _ _ (by simp)]; rfl) | (rw [World.cell?_alloc_past _ _ _ (by simp <;> omega), World.cell?_alloc_at _ _ _ _ (by simp)]; rfl) | (rw [World.cell?_alloc_past _ _ _ (by simp <;> omega), World.cell?_alloc_past _ _ _ (by simp <;> omega), World.cell?_alloc_at _ _ _ _ (by simp)]; rfl)
          have v21 : (V2a.alloc (.cells #[.int .i64 k1, .int .i64 g1, .slice bb2 G1.length mm2] 36)).cell? ⟨V2a.heap.size, 1, none⟩ = some (.int .i64 g1) := by first | (simp; done) | (rw [World.cell?_alloc_at _ _ _ _ (by simp)]; rfl) | (rw [World.cell?_alloc_past _ _ _ (by simp <;> omega), World.cell?_alloc_at _ _ _ _ (by simp)]; rfl) | (rw [World.cell?_alloc_past _ _ _ (by simp <;> omega), World.cell?_alloc_past _ _ _ (by simp <;> omega), World.cell?_alloc_at _ _ _ _ (by simp)]; rfl)
          have v22 : (V2a.alloc (.cells #[.int .i64 k1, .int .i64 g1, .slice bb2 G1.length mm2] 36)).cell? ⟨V2a.heap.size, 2, none⟩ = some (.slice bb2 G1.length mm2) := by first | (simp; done) | (rw [World.cell?_alloc_at _ _ _ _ (by simp)]; rfl) | (rw [World.cell?_alloc_past _ _ _ (by simp <;> omega), World.cell?_alloc_at _ _ _ _ (by simp)]; rfl) | (rw [World.cell?_alloc_past _ _ _ (by simp <;> omega), World.cell?_alloc_past _ _ _ (by simp <;> omega), World.cell?_alloc_at _ _ _ _ (by simp)]; rfl)
          have hb2 := (by repeat (first | exact hbel | refine belAlloc ?_ _ | refine belDrew ?_ | refine belSet ?_ _ _ (by simp)) : Below V2a.heap.size V2a (V2a.alloc (.cells #[.int .i64 k1, .int .i64 g1, .slice bb2 G1.length mm2] 36)))
          replace cc0 := keepOnP cc0 hb2
          replace cc1 := keepOnP cc1 hb2
          replace cc2 := keepOnP cc2 hb2
          replace cc3 := keepOnP cc3 hb2
          replace cc4 := keepOnP cc4 hb2
          replace cc5 := keepOnP cc5 hb2
          replace cc6 := keepOnP cc6 hb2
          replace cc7 := keepOnP cc7 hb2
          replace cc8 := keepOnP cc8 hb2
          replace cc9 := keepOnP cc9 hb2
          replace cc10 := keepOnP cc10 hb2
          replace oo0 := keepOnP oo0 hb2
          replace oo1 := keepOnP oo1 hb2
          replace oo2 := keepOnP oo2 hb2
          replace pp0 := keepOnP pp0 hb2
          replace pp1 := keepOnP pp1 hb2
          replace pp2 := keepOnP pp2 hb2
          replace pp3 := keepOnP pp3 hb2
          replace pp4 := keepOnP pp4 hb2
          replace pp5 := keepOnP pp5 hb2
          replace pp6 := keepOnP pp6 hb2
          replace pp7 := keepOnP pp7 hb2
          replace pp8 := keepOnP pp8 hb2
          replace pp9 := keepOnP pp9 hb2
          replace pp10 := keepOnP pp10 hb2
          replace hw := belStep hw hb2
          clear hb2 hbel
          generalize V2a.alloc (.cells #[.int .i64 k1, .int .i64 g1, .slice bb2 G1.length mm2] 36) = W6a at *
          replace v20 := keep v20
          replace v21 := keep v21
          replace v22 := keep v22
          have hbel : Below W6a.heap.size W6a W6a := Below.refl _ _
          skip
          have HX2 := Lib.hid HXN.out
          clear HXN
          go_upto_region 16 with (go_at_call 15; (with_reducible refine (CD3.out _ (belStep HBX.out hbel)).mono ?_); rintro e u3a ⟨⟨bb3, mm3, rfl, ho3⟩, hb3⟩; replace hbel := belStep hbel hb3)
          have HX3 := Lib.hid (row_of_owns ho3)
          clear ho3 hb3
          replace HBX := Lib.hid (belStep HBX.out hbel)
          have HBY3 := Lib.hid hbel
          replace cc0 := keepOnP cc0 hbel
          replace cc1 := keepOnP cc1 hbel
          replace cc2 := keepOnP cc2 hbel
          replace cc3 := keepOnP cc3 hbel
          replace cc4 := keepOnP cc4 hbel
          replace cc5 := keepOnP cc5 hbel
          replace cc6 := keepOnP cc6 hbel
          replace cc7 := keepOnP cc7 hbel
          replace cc8 := keepOnP cc8 hbel
          replace cc9 := keepOnP cc9 hbel
          replace cc10 := keepOnP cc10 hbel
          replace oo0 := keepOnP oo0 hbel
          replace oo1 := keepOnP oo1 hbel
          replace oo2 := keepOnP oo2 hbel
          replace pp0 := keepOnP pp0 hbel
          replace pp1 := keepOnP pp1 hbel
          replace pp2 := keepOnP pp2 hbel
          replace pp3 := keepOnP pp3 hbel
          replace pp4 := keepOnP pp4 hbel
          replace pp5 := keepOnP pp5 hbel
          replace pp6 := keepOnP pp6 hbel
          replace pp7 := keepOnP pp7 hbel
          replace pp8 := keepOnP pp8 hbel
          replace pp9 := keepOnP pp9 hbel
          replace pp10 := keepOnP pp10 hbel
          replace v20 := keepOnP v20 hbel
          replace v21 := keepOnP v21 hbel
          replace v22 := keepOnP v22 hbel
          replace hw := belStep hw hbel
          clear hbel
          generalize u3a = V3a at *
          have hbel : Below V3a.heap.size V3a V3a := Below.refl _ _
          have HXN := Lib.hid (HX3.out.later (belAlloc (Below.refl _ _) (.cells #[.int .i64 k1, .int .i64 g1, .slice bb3 G1.length mm3] 36)))
          replace HBX := Lib.hid (belStep HBX.out (belAlloc (Below.refl _ _) (.cells #[.int .i64 k1, .int .i64 g1, .slice bb3 G1.length mm3] 36)))
          replace HBY3 := Lib.hid (belStep HBY3.out (belAlloc (Below.refl _ _) (.cells #[.int .i64 k1, .int .i64 g1, .slice bb3 G1.length mm3] 36)))
          clear HX3
          have v30 : (V3a.alloc (.cells #[.int .i64 k1, .int .i64 g1, .slice bb3 G1.length mm3] 36)).cell? ⟨V3a.heap.size, 0, none⟩ = some (.int .i64 k1) := by first | (simp; done) | (rw [World.cell?_alloc_at _ _ _ _ (by simp)]; rfl) | (rw [World.cell?_alloc_past _ _ _ (by simp <;> omega), World.cell?_alloc_at _ _ _ _ (by simp)]; rfl) | (rw [World.cell?_alloc_past _ _ _ (by simp <;> omega), World.cell?_alloc_past _ _ _ (by simp <;> omega), World.cell?_alloc_at _ _ _ _ (by simp)]; rfl)
          have v31 : (V3a.alloc (.cells #[.int .i64 k1, .int .i64 g1, .slice bb3 G1.length mm3] 36)).cell? ⟨V3a.heap.size, 1, none⟩ = some (.int .i64 g1) := by first | (simp; done) | (rw [World.cell?_alloc_at _ _ _ _ (by simp)]; rfl) | (rw [World.cell?_alloc_past _ _ _ (by simp <;> omega), World.cell?_alloc_at _ _ _ _ (by simp)]; rfl) | (rw [World.cell?_alloc_past _ _ _ (by simp <;> omega), World.cell?_alloc_past _ _ _ (by simp <;> omega), World.cell?_alloc_at _ _ _ _ (by simp)]; rfl)
          have v32 : (V3a.alloc (.cells #[.int .i64 k1, .int .i64 g1, .slice bb3 G1.length mm3] 36)).cell? ⟨V3a.heap.size, 2, none⟩ = some (.slice bb3 G1.length mm3) := by first | (simp; done) | (rw [World.cell?_alloc_at _ _ _ _ (by simp)]; rfl) | (rw [World.cell?_alloc_past _ _ _ (by simp <;> omega), World.cell?_alloc_at _ _ _ _ (by simp)]; rfl) | (rw [World.cell?_alloc_past _ _ _ (by simp <;> omega), World.cell?_alloc_past _ _ _ (by simp <;> omega), World.cell?_alloc_at _ _ _ _ (by simp)]; rfl)
          have hb2 := (by repeat (first | exact hbel | refine belAlloc ?_ _ | refine belDrew ?_ | refine belSet ?_ _ _ (by simp)) : Below V3a.heap.size V3a (V3a.alloc (.cells #[.int .i64 k1, .int .i64 g1, .slice bb3 G1.length mm3] 36)))
          replace cc0 := keepOnP cc0 hb2
          replace cc1 := keepOnP cc1 hb2
          replace cc2 := keepOnP cc2 hb2
          replace cc3 := keepOnP cc3 hb2
          replace cc4 := keepOnP cc4 hb2
          replace cc5 := keepOnP cc5 hb2
          replace cc6 := keepOnP cc6 hb2
          replace cc7 := keepOnP cc7 hb2
          replace cc8 := keepOnP cc8 hb2
          replace cc9 := keepOnP cc9 hb2
          replace cc10 := keepOnP cc10 hb2
          replace oo0 := keepOnP oo0 hb2
          replace oo1 := keepOnP oo1 hb2
          replace oo2 := keepOnP oo2 hb2
          replace pp0 := keepOnP pp0 hb2
          replace pp1 := keepOnP pp1 hb2
          replace pp2 := keepOnP pp2 hb2
          replace pp3 := keepOnP pp3 hb2
          replace pp4 := keepOnP pp4 hb2
          replace pp5 := keepOnP pp5 hb2
          replace pp6 := keepOnP pp6 hb2
          replace pp7 := keepOnP pp7 hb2
          replace pp8 := keepOnP pp8 hb2
          replace pp9 := keepOnP pp9 hb2
          replace pp10 := keepOnP pp10 hb2
          replace v20 := keepOnP v20 hb2
          replace v21 := keepOnP v21 hb2
          replace v22 := keepOnP v22 hb2
          replace hw := belStep hw hb2
          clear hb2 hbel
          generalize V3a.alloc (.cells #[.int .i64 k1, .int .i64 g1, .slice bb3 G1.length mm3] 36) = W7a at *
          replace v30 := keep v30
          replace v31 := keep v31
          replace v32 := keep v32
          have hbel : Below W7a.heap.size W7a W7a := Below.refl _ _
          skip
          have HX3 := Lib.hid HXN.out
          clear HXN
          have CSA := Lib.hid (fun u (hu : Below W7a.heap.size W7a u) => (sameV_refl ⟨k1, g1, G1⟩) ▸ rref_Same ⟨k1, g1, G1⟩ ⟨k1, g1, G1⟩ bb2 bb3 mm2 mm3 u (HX2.out.later (belStep HBY3.out hu)) (HX3.out.later hu))
          go_wp2_with (go_at_call 19; (with_reducible refine (CSA.out _ hbel).mono ?_); rintro e u9a ⟨rfl, hb9⟩; replace hbel := belStep hbel hb9)
          go_ret
          exact ⟨rfl, belStep hw hbel⟩
      · simp only [Value.slice.injEq] at e1
        obtain ⟨rfl, _, rfl⟩ := e1
        have hgv := HGV.out g 0 rfl
        go_loopw [13] (fun i wr => ∃ (m : Nat) (cs : List Value), m ≤ G1.length ∧ i = .int .i64 m ∧ Hid (OwnR wr W3.heap.size 9 1 (.slice (some ⟨g, 0, none⟩) G1.length m1) G1.length cs) ∧ Hid (Blk wr vM [.int .i64 k1, .int .i64 g1, .slice (some ⟨g, 0, none⟩) G1.length m1] 36) ∧ Below W3.heap.size W3 wr) (fun i _ => G1.length - (intOf i).toNat)
        case atStart => exact ⟨0, _, Nat.zero_le _, rfl, HO, HV, HBW.out⟩
        case round =>
          obtain ⟨m, cs, hm, rfl, HQ, HV2, hbel⟩ := hrel
          clear HBW HO HV
          have z2 := HV2.out.cell (j := 2) rfl
          by_cases hmt : m < G1.length
          · have hd : decide ((m : Int) < (G1.length : Int)) = true := decide_eq_true (by omega)
            obtain ⟨⟨u0, hu0⟩, hfr⟩ := owns_at HQ.out hmt
            have HQ2 := Lib.hid (owns_set HQ.out m (.string ⟨#[63]⟩))
            have HV3 := Lib.hid (HV2.out.far (a := ⟨g, m, none⟩) (show g ≠ vM by omega) (.string ⟨#[63]⟩))
            have HBS := Lib.hid (belSet hbel ⟨g, m, none⟩ (.string ⟨#[63]⟩) hg1)
            go_wp2
            go_roundw
            case rel => exact ⟨m + 1, _, by omega, by push_cast; rfl, HQ2, HV3, HBS.out⟩
            case measure => simp [intOf] <;> omega
          · obtain rfl : m = G1.length := by omega
            have hd : decide ((G1.length : Int) < (G1.length : Int)) = false := decide_eq_false (by omega)
            go_upto_region 14 with fail
            clear z2
            have HBX := Lib.hid hbel
            replace cc0 := keepOnP cc0 hbel
            replace cc1 := keepOnP cc1 hbel
            replace cc2 := keepOnP cc2 hbel
            replace cc3 := keepOnP cc3 hbel
            replace cc4 := keepOnP cc4 hbel
            replace cc5 := keepOnP cc5 hbel
            replace cc6 := keepOnP cc6 hbel
            replace cc7 := keepOnP cc7 hbel
            replace cc8 := keepOnP cc8 hbel
            replace cc9 := keepOnP cc9 hbel
            replace cc10 := keepOnP cc10 hbel
            replace oo0 := keepOnP oo0 hbel
            replace oo1 := keepOnP oo1 hbel
            replace oo2 := keepOnP oo2 hbel
            replace pp0 := keepOnP pp0 hbel
            replace pp1 := keepOnP pp1 hbel
            replace pp2 := keepOnP pp2 hbel
            replace pp3 := keepOnP pp3 hbel
            replace pp4 := keepOnP pp4 hbel
            replace pp5 := keepOnP pp5 hbel
            replace pp6 := keepOnP pp6 hbel
            replace pp7 := keepOnP pp7 hbel
            replace pp8 := keepOnP pp8 hbel
            replace pp9 := keepOnP pp9 hbel
            replace pp10 := keepOnP pp10 hbel
            replace hw := belStep hw hbel
            clear hbel
            generalize wr = W5b at *
            have hbel : Below W5b.heap.size W5b W5b := Below.refl _ _
            go_upto_region 15 with (go_at_call 14; (with_reducible refine (CD1.out _ (belStep HBX.out hbel)).mono ?_); rintro e u2b ⟨⟨bb2, mm2, rfl, ho2⟩, hb2⟩; replace hbel := belStep hbel hb2)
            have HX2 := Lib.hid (row_of_owns ho2)
            clear ho2 hb2
            replace HBX := Lib.hid (belStep HBX.out hbel)
            have HBY2 := Lib.hid hbel
            replace cc0 := keepOnP cc0 hbel
            replace cc1 := keepOnP cc1 hbel
            replace cc2 := keepOnP cc2 hbel
            replace cc3 := keepOnP cc3 hbel
            replace cc4 := keepOnP cc4 hbel
            replace cc5 := keepOnP cc5 hbel
            replace cc6 := keepOnP cc6 hbel
            replace cc7 := keepOnP cc7 hbel
            replace cc8 := keepOnP cc8 hbel
            replace cc9 := keepOnP cc9 hbel
            replace cc10 := keepOnP cc10 hbel
            replace oo0 := keepOnP oo0 hbel
            replace oo1 := keepOnP oo1 hbel
            replace oo2 := keepOnP oo2 hbel
            replace pp0 := keepOnP pp0 hbel
            replace pp1 := keepOnP pp1 hbel
            replace pp2 := keepOnP pp2 hbel
            replace pp3 := keepOnP pp3 hbel
            replace pp4 := keepOnP pp4 hbel
            replace pp5 := keepOnP pp5 hbel
            replace pp6 := keepOnP pp6 hbel
            replace pp7 := keepOnP pp7 hbel
            replace pp8 := keepOnP pp8 hbel
            replace pp9 := keepOnP pp9 hbel
            replace pp10 := keepOnP pp10 hbel
            replace hw := belStep hw hbel
            clear hbel
            generalize u2b = V2b at *
            have hbel : Below V2b.heap.size V2b V2b := Below.refl _ _
            have HXN := Lib.hid (HX2.out.later (belAlloc (Below.refl _ _) (.cells #[.int .i64 k1, .int .i64 g1, .slice bb2 G1.length mm2] 36)))
            replace HBX := Lib.hid (belStep HBX.out (belAlloc (Below.refl _ _) (.cells #[.int .i64 k1, .int .i64 g1, .slice bb2 G1.length mm2] 36)))
            replace HBY2 := Lib.hid (belStep HBY2.out (belAlloc (Below.refl _ _) (.cells #[.int .i64 k1, .int .i64 g1, .slice bb2 G1.length mm2] 36)))
            clear HX2
            have v20 : (V2b.alloc (.cells #[.int .i64 k1, .int .i64 g1, .slice bb2 G1.length mm2] 36)).cell? ⟨V2b.heap.size, 0, none⟩ = some (.int .i64 k1) := by first | (simp; done) | (rw [World.cell?_alloc_at _ _ _ _ (by simp)]; rfl) | (rw [World.cell?_alloc_past _ _ _ (by simp <;> omega), World.cell?_alloc_at _ _ _ _ (by simp)]; rfl) | (rw [World.cell?_alloc_past _ _ _ (by simp <;> omega), World.cell?_alloc_past _ _ _ (by simp <;> omega), World.cell?_alloc_at _ _ _ _ (by simp)]; rfl)
            have v21 : (V2b.alloc (.cells #[.int .i64 k1, .int .i64 g1, .slice bb2 G1.length mm2] 36)).cell? ⟨V2b.heap.size, 1, none⟩ = some (.int .i64 g1) := by first | (simp; done) | (rw [World.cell?_alloc_at _ _ _ _ (by simp)]; rfl) | (rw [World.cell?_alloc_past _ _ _ (by simp <;> omega), World.cell?_alloc_at _ _ _ _ (by simp)]; rfl) | (rw [World.cell?_alloc_past _ _ _ (by simp <;> omega), World.cell?_alloc_past _ _ _ (by simp <;> omega), World.cell?_alloc_at _ _ _ _ (by simp)]; rfl)
            have v22 : (V2b.alloc (.cells #[.int .i64 k1, .int .i64 g1, .slice bb2 G1.length mm2] 36)).cell? ⟨V2b.heap.size, 2, none⟩ = some (.slice bb2 G1.length mm2) := by first | (simp; done) | (rw [World.cell?_alloc_at _ _ _ _ (by simp)]; rfl) | (rw [World.cell?_alloc_past _ _ _ (by simp <;> omega), World.cell?_alloc_at _ _ _ _ (by simp)]; rfl) | (rw [World.cell?_alloc_past _ _ _ (by simp <;> omega), World.cell?_alloc_past _ _ _ (by simp <;> omega), World.cell?_alloc_at _ _ _ _ (by simp)]; rfl)
            have hb2 := (by repeat (first | exact hbel | refine belAlloc ?_ _ | refine belDrew ?_ | refine belSet ?_ _ _ (by simp)) : Below V2b.heap.size V2b (V2b.alloc (.cells #[.int .i64 k1, .int .i64 g1, .slice bb2 G1.length mm2] 36)))
            replace cc0 := keepOnP cc0 hb2
            replace cc1 := keepOnP cc1 hb2
            replace cc2 := keepOnP cc2 hb2
            replace cc3 := keepOnP cc3 hb2
            replace cc4 := keepOnP cc4 hb2
            replace cc5 := keepOnP cc5 hb2
            replace cc6 := keepOnP cc6 hb2
            replace cc7 := keepOnP cc7 hb2
            replace cc8 := keepOnP cc8 hb2
            replace cc9 := keepOnP cc9 hb2
            replace cc10 := keepOnP cc10 hb2
            replace oo0 := keepOnP oo0 hb2
            replace oo1 := keepOnP oo1 hb2
            replace oo2 := keepOnP oo2 hb2
            replace pp0 := keepOnP pp0 hb2
            replace pp1 := keepOnP pp1 hb2
            replace pp2 := keepOnP pp2 hb2
            replace pp3 := keepOnP pp3 hb2
            replace pp4 := keepOnP pp4 hb2
            replace pp5 := keepOnP pp5 hb2
            replace pp6 := keepOnP pp6 hb2
            replace pp7 := keepOnP pp7 hb2
            replace pp8 := keepOnP pp8 hb2
            replace pp9 := keepOnP pp9 hb2
            replace pp10 := keepOnP pp10 hb2
            replace hw := belStep hw hb2
            clear hb2 hbel
            generalize V2b.alloc (.cells #[.int .i64 k1, .int .i64 g1, .slice bb2 G1.length mm2] 36) = W6b at *
            replace v20 := keep v20
            replace v21 := keep v21
            replace v22 := keep v22
            have hbel : Below W6b.heap.size W6b W6b := Below.refl _ _
            skip
            have HX2 := Lib.hid HXN.out
            clear HXN
            go_upto_region 16 with (go_at_call 15; (with_reducible refine (CD3.out _ (belStep HBX.out hbel)).mono ?_); rintro e u3b ⟨⟨bb3, mm3, rfl, ho3⟩, hb3⟩; replace hbel := belStep hbel hb3)
            have HX3 := Lib.hid (row_of_owns ho3)
            clear ho3 hb3
            replace HBX := Lib.hid (belStep HBX.out hbel)
            have HBY3 := Lib.hid hbel
            replace cc0 := keepOnP cc0 hbel
            replace cc1 := keepOnP cc1 hbel
            replace cc2 := keepOnP cc2 hbel
            replace cc3 := keepOnP cc3 hbel
            replace cc4 := keepOnP cc4 hbel
            replace cc5 := keepOnP cc5 hbel
            replace cc6 := keepOnP cc6 hbel
            replace cc7 := keepOnP cc7 hbel
            replace cc8 := keepOnP cc8 hbel
            replace cc9 := keepOnP cc9 hbel
            replace cc10 := keepOnP cc10 hbel
            replace oo0 := keepOnP oo0 hbel
            replace oo1 := keepOnP oo1 hbel
            replace oo2 := keepOnP oo2 hbel
            replace pp0 := keepOnP pp0 hbel
            replace pp1 := keepOnP pp1 hbel
            replace pp2 := keepOnP pp2 hbel
            replace pp3 := keepOnP pp3 hbel
            replace pp4 := keepOnP pp4 hbel
            replace pp5 := keepOnP pp5 hbel
            replace pp6 := keepOnP pp6 hbel
            replace pp7 := keepOnP pp7 hbel
            replace pp8 := keepOnP pp8 hbel
            replace pp9 := keepOnP pp9 hbel
            replace pp10 := keepOnP pp10 hbel
            replace v20 := keepOnP v20 hbel
            replace v21 := keepOnP v21 hbel
            replace v22 := keepOnP v22 hbel
            replace hw := belStep hw hbel
            clear hbel
            generalize u3b = V3b at *
            have hbel : Below V3b.heap.size V3b V3b := Below.refl _ _
            have HXN := Lib.hid (HX3.out.later (belAlloc (Below.refl _ _) (.cells #[.int .i64 k1, .int .i64 g1, .slice bb3 G1.length mm3] 36)))
            replace HBX := Lib.hid (belStep HBX.out (belAlloc (Below.refl _ _) (.cells #[.int .i64 k1, .int .i64 g1, .slice bb3 G1.length mm3] 36)))
            replace HBY3 := Lib.hid (belStep HBY3.out (belAlloc (Below.refl _ _) (.cells #[.int .i64 k1, .int .i64 g1, .slice bb3 G1.length mm3] 36)))
            clear HX3
            have v30 : (V3b.alloc (.cells #[.int .i64 k1, .int .i64 g1, .slice bb3 G1.length mm3] 36)).cell? ⟨V3b.heap.size, 0, none⟩ = some (.int .i64 k1) := by first | (simp; done) | (rw [World.cell?_alloc_at _ _ _ _ (by simp)]; rfl) | (rw [World.cell?_alloc_past _ _ _ (by simp <;> omega), World.cell?_alloc_at _ _ _ _ (by simp)]; rfl) | (rw [World.cell?_alloc_past _ _ _ (by simp <;> omega), World.cell?_alloc_past _ _ _ (by simp <;> omega), World.cell?_alloc_at _ _ _ _ (by simp)]; rfl)
            have v31 : (V3b.alloc (.cells #[.int .i64 k1, .int .i64 g1, .slice bb3 G1.length mm3] 36)).cell? ⟨V3b.heap.size, 1, none⟩ = some (.int .i64 g1) := by first | (simp; done) | (rw [World.cell?_alloc_at _ _ _ _ (by simp)]; rfl) | (rw [World.cell?_alloc_past _ _ _ (by simp <;> omega), World.cell?_alloc_at _ _ _ _ (by simp)]; rfl) | (rw [World.cell?_alloc_past _ _ _ (by simp <;> omega), World.cell?_alloc_past _ _ _ (by simp <;> omega), World.cell?_alloc_at _ _ _ _ (by simp)]; rfl)
            have v32 : (V3b.alloc (.cells #[.int .i64 k1, .int .i64 g1, .slice bb3 G1.length mm3] 36)).cell? ⟨V3b.heap.size, 2, none⟩ = some (.slice bb3 G1.length mm3) := by first | (simp; done) | (rw [World.cell?_alloc_at _ _ _ _ (by simp)]; rfl) | (rw [World.cell?_alloc_past _ _ _ (by simp <;> omega), World.cell?_alloc_at _ _ _ _ (by simp)]; rfl) | (rw [World.cell?_alloc_past _ _ _ (by simp <;> omega), World.cell?_alloc_past _ _ _ (by simp <;> omega), World.cell?_alloc_at _ _ _ _ (by simp)]; rfl)
            have hb2 := (by repeat (first | exact hbel | refine belAlloc ?_ _ | refine belDrew ?_ | refine belSet ?_ _ _ (by simp)) : Below V3b.heap.size V3b (V3b.alloc (.cells #[.int .i64 k1, .int .i64 g1, .slice bb3 G1.length mm3] 36)))
            replace cc0 := keepOnP cc0 hb2
            replace cc1 := keepOnP cc1 hb2
            replace cc2 := keepOnP cc2 hb2
            replace cc3 := keepOnP cc3 hb2
            replace cc4 := keepOnP cc4 hb2
            replace cc5 := keepOnP cc5 hb2
            replace cc6 := keepOnP cc6 hb2
            replace cc7 := keepOnP cc7 hb2
            replace cc8 := keepOnP cc8 hb2
            replace cc9 := keepOnP cc9 hb2
            replace cc10 := keepOnP cc10 hb2
            replace oo0 := keepOnP oo0 hb2
            replace oo1 := keepOnP oo1 hb2
            replace oo2 := keepOnP oo2 hb2
            replace pp0 := keepOnP pp0 hb2
            replace pp1 := keepOnP pp1 hb2
            replace pp2 := keepOnP pp2 hb2
            replace pp3 := keepOnP pp3 hb2
            replace pp4 := keepOnP pp4 hb2
            replace pp5 := keepOnP pp5 hb2
            replace pp6 := keepOnP pp6 hb2
            replace pp7 := keepOnP pp7 hb2
            replace pp8 := keepOnP pp8 hb2
            replace pp9 := keepOnP pp9 hb2
            replace pp10 := keepOnP pp10 hb2
            replace v20 := keepOnP v20 hb2
            replace v21 := keepOnP v21 hb2
            replace v22 := keepOnP v22 hb2
            replace hw := belStep hw hb2
            clear hb2 hbel
            generalize V3b.alloc (.cells #[.int .i64 k1, .int .i64 g1, .slice bb3 G1.length mm3] 36) = W7b at *
            replace v30 := keep v30
            replace v31 := keep v31
            replace v32 := keep v32
            have hbel : Below W7b.heap.size W7b W7b := Below.refl _ _
            skip
            have HX3 := Lib.hid HXN.out
            clear HXN
            have CSA := Lib.hid (fun u (hu : Below W7b.heap.size W7b u) => (sameV_refl ⟨k1, g1, G1⟩) ▸ rref_Same ⟨k1, g1, G1⟩ ⟨k1, g1, G1⟩ bb2 bb3 mm2 mm3 u (HX2.out.later (belStep HBY3.out hu)) (HX3.out.later hu))
            go_wp2_with (go_at_call 19; (with_reducible refine (CSA.out _ hbel).mono ?_); rintro e u9b ⟨rfl, hb9⟩; replace hbel := belStep hbel hb9)
            go_ret
            exact ⟨rfl, belStep hw hbel⟩

set_option maxRecDepth 100000 in
theorem lifted (os : Os) (started : os.Started) (H : Type) (enc : TypeId × Value → H) :
    ReturnsInHanded {} Try.checked os 9 .any (Rows.admitKeepsSpec.pre6 enc Try.prog Try.f9 Rows.admitKeepsRow.domain false) (Rows.admitKeepsSpec.post enc Try.prog Try.f9 false true false false) := by
  refine returnsInHanded_of_change (C := Try.checked) own started (by kernel_rfl) Try.func9
    (ChangeSpec.witness6 (enc := enc) (C := Try.checked) false ⟨#[], #[.agg #[.int .i64 0, .int .i64 0, .int .i64 0, .int .i64 0, .int .i64 0, .int .i64 0, .slice none 0 0, .int .i64 0, .int .i64 0, .int .i64 0, .int .i64 0], .slice none 0 0, .agg #[.bool false, .bool false, .bool false], .agg #[.string ByteArray.empty, .int .i64 0, .bool false, .int .i64 0, .int .i64 0, .int .i64 0, .int .i64 0, .int .i64 0, .int .i64 0, .string ByteArray.empty, .int .i64 0]], []⟩ 8 (by kernel_rfl) (by kernel_rfl) (by kernel_rfl) (by kernel_rfl)) ?_
  intro W base args ds gs before hval0 hW hcnd _
  have hval : ∀ (j : Nat) t v, Try.f9.params[j]? = some t → args[j]? = some v → Value.okWide Try.prog W .any base t v := hval0
  have hW' := hW
  obtain ⟨p, q, hA0, hV, rfl, hfz, hnd⟩ := hW
  have hA : DataW.TrodAll enc Try.prog W 0 (fun _ => true) true Try.f9.params.toList args.toList ds p := hA0
  rw [Try.params9] at hA hval
  obtain ⟨v0, vs0, d0, ds0, p0, q0, hargs, rfl, rfl, h0, r0⟩ := trodAll_cons hA
  obtain ⟨v1, vs1, d1, ds1, p1, q1, rfl, rfl, rfl, h1, r1⟩ := trodAll_cons r0
  obtain ⟨v2, vs2, d2, ds2, p2, q2, rfl, rfl, rfl, h2, r2⟩ := trodAll_cons r1
  obtain ⟨v3, vs3, d3, ds3, p3, q3, rfl, rfl, rfl, h3, r3⟩ := trodAll_cons r2
  obtain ⟨rfl, rfl, rfl⟩ := trodAll_nil r3
  obtain rfl : args = #[v0, v1, v2, v3] := by cases args; simp_all
  obtain ⟨rfl, rfl⟩ := trodVars_none hV
  have k0 := h0
  have lt0 : ∀ x ∈ p0, x.block < W.heap.size := by obtain ⟨m, hm⟩ := k0; exact DataW.trod_lt m _ _ _ hm
  have o0 : Value.okWide Try.prog W .any base 25 v0 := hval 0 25 v0 rfl rfl
  obtain ⟨c0, rfl, hc0⟩ := open_cfg o0 h0
  have k1 := h1
  have lt1 : ∀ x ∈ p1, x.block < W.heap.size := by obtain ⟨m, hm⟩ := k1; exact DataW.trod_lt m _ _ _ hm
  have o1 : Value.okWide Try.prog W .any base 26 v1 := hval 1 26 v1 rfl rfl
  obtain ⟨a1, len1, cap1, T1, rfl, f1, g1, i1⟩ := open_ents o1 h1
  have k2 := h2
  have lt2 : ∀ x ∈ p2, x.block < W.heap.size := by obtain ⟨m, hm⟩ := k2; exact DataW.trod_lt m _ _ _ hm
  have o2 : Value.okWide Try.prog W .any base 27 v2 := hval 2 27 v2 rfl rfl
  obtain ⟨O2, rfl⟩ := open_on o2 h2
  have k3 := h3
  have lt3 : ∀ x ∈ p3, x.block < W.heap.size := by obtain ⟨m, hm⟩ := k3; exact DataW.trod_lt m _ _ _ hm
  have o3 : Value.okWide Try.prog W .any base 29 v3 := hval 3 29 v3 rfl rfl
  obtain ⟨p3, rfl, f3⟩ := open_pod o3 h3
  clear hA0 hval0
  refine (walk c0 a1 len1 cap1 T1 O2 p3 W hc0 f1 g1 i1  f3).mono fun e W' ⟨he, bel⟩ => ?_
  subst he
  exact ⟨_, rfl, _, _, _, [], _, [], hW', trodAll_mk1 (shut_bool Try.underlying4 _), (trodAll_cons_mk (Below.trod laidOut (by kernel_rfl) (of_decide_eq_true (by kernel_rfl)) k0 bel lt0) (trodAll_cons_mk (Below.trod laidOut (by kernel_rfl) (of_decide_eq_true (by kernel_rfl)) k1 bel lt1) (trodAll_cons_mk (Below.trod laidOut (by kernel_rfl) (of_decide_eq_true (by kernel_rfl)) k2 bel lt2) (trodAll_cons_mk (Below.trod laidOut (by kernel_rfl) (of_decide_eq_true (by kernel_rfl)) k3 bel lt3) trodAll_mk0)))), rfl, bel.frame _, fun h => by cases h⟩

theorem over : Rows.admitKeepsRow.holds Try.pinned (OpenSpec.ofChange Rows.admitKeepsSpec) :=
  OpenClaim.holds_of_wide 9 Try.f9 rfl rfl rfl rfl rfl rfl rfl ⟨rfl, rfl, rfl, rfl, rfl⟩ rfl rfl rfl rfl rfl (by kernel_rfl) Try.func9 (by kernel_rfl)
    (of_decide_eq_true (by kernel_rfl)) (by unfold Func.isWrapper; first | (rw [if_pos (by decide +kernel)]; kernel_rfl) | (rw [if_neg (by decide +kernel)]; exact ⟨rfl, rfl⟩))
    (fun os started H enc _ => lifted os started H enc)

/-- The statement. -/
theorem proved : Rows.AdmitKeepsSaid := over
#print axioms proved

end Go.Proofs.Ytafojeeehehplaa.admitKeeps
