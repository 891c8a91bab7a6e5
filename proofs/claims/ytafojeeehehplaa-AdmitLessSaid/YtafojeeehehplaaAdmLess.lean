/- AdmitLess holds for all its arguments. No conditions. -/
import Derived.Test.YtafojeeehehplaaAdmLessM
namespace Go.Proofs.Ytafojeeehehplaa.admitLess
open Go.ChangeShapes Go.WideShapes Go.ChangeAt Go.RowKit
open Go.ChangeMaps (open_string shut_string)
set_option linter.unusedVariables false
set_option linter.unusedSimpArgs false
set_option maxRecDepth 100000 in
set_option maxHeartbeats 16000000 in
theorem walk (c : CfgV) (a : Option Addr) (len cap : Nat) (T : List EntV) (p : PodV) (ml0 ml1 ml2 : Int) (w : World) (hc : c.ok w) (hl : T.length = len) (hok : ∀ x ∈ T, x.ok) (hR : Row w a len cap 12 (T.flatMap EntV.cells)) (hp : p.ok) (hm0 : 0 ≤ ml0 ∧ ml0 ≤ 65535) (hm1 : 0 ≤ ml1 ∧ ml1 ≤ 65535) (hm2 : 0 ≤ ml2 ∧ ml2 ≤ 65535) :
    Calls Try.prog 8 #[.agg #[.int .i64 c.k0, .int .i64 c.k1, .int .i64 c.k2, .int .i64 c.a0, .int .i64 c.a1, .int .i64 c.a2, .slice c.ta c.tl c.tc, .int .i64 c.per, .int .i64 c.ret, .int .i64 c.age, .int .i64 c.dead], .slice a len cap, p.v, .agg #[.int .u16 ml0, .int .u16 ml1, .int .u16 ml2]] w fun e w' => e = .returned (.bool true) ∧ Below w.heap.size w w' := by
  unfold PodV.v
  have hw : Below w.heap.size w w := Below.refl _ _
  have hbel := hw
  have hbd_t : len ≤ cap ∧ cap ≤ 9223372036854775807 := by obtain ⟨_, h1, h2, _⟩ := hR; unfold maxLen at h2; exact ⟨h1, h2⟩
  obtain ⟨hbd1_t, hbd2_t⟩ := hbd_t
  have HR := Lib.hid hR
  have HOK := Lib.hid hok
  have HPO := Lib.hid hp
  have HCO := Lib.hid hc
  subst hl
  have CRT := Lib.hid (fun v (hv : Below w.heap.size w v) => ref7_Right c v (hc.later hv))
  have CFT := Lib.hid (fun v (hv : Below w.heap.size w v) => rref_Fit a T.length cap T v rfl hok (HR.out.later hv))
  obtain ⟨sm, hsm⟩ : ∃ b, smallB p = b := ⟨_, rfl⟩
  have CSM := Lib.hid (fun v => hsm ▸ pref_Small p v hp)
  clear hsm hR hok hp hc
  go_enter Try.func8, Try.ntmps8
  go_upto_region 1 with fail
  have cc0 : (((w.alloc (.cells #[.int .i64 c.k0, .int .i64 c.k1, .int .i64 c.k2, .int .i64 c.a0, .int .i64 c.a1, .int .i64 c.a2, .slice c.ta c.tl c.tc, .int .i64 c.per, .int .i64 c.ret, .int .i64 c.age, .int .i64 c.dead] 25)).alloc (.cells #[.string p.id, .int .i64 p.prio, .bool p.crit, .int .i64 p.r0, .int .i64 p.r1, .int .i64 p.r2, .int .i64 p.l0, .int .i64 p.l1, .int .i64 p.l2, .string p.img, .int .i64 p.size] 29)).alloc (.cells #[.int .u16 ml0, .int .u16 ml1, .int .u16 ml2] 58)).cell? ⟨w.heap.size, 0, none⟩ = some (.int .i64 c.k0) := by first | (simp; done) | (rw [World.cell?_alloc_at _ _ _ _ (by simp)]; rfl) | (rw [World.cell?_alloc_past _ _ _ (by simp <;> omega), World.cell?_alloc_at _ _ _ _ (by simp)]; rfl) | (rw [World.cell?_alloc_past _ _ _ (by simp <;> omega), World.cell?_alloc_past _ _ _ (by simp <;> omega), World.cell?_alloc_at _ _ _ _ (by simp)]; rfl)
  have cc1 : (((w.alloc (.cells #[.int .i64 c.k0, .int .i64 c.k1, .int .i64 c.k2, .int .i64 c.a0, .int .i64 c.a1, .int .i64 c.a2, .slice c.ta c.tl c.tc, .int .i64 c.per, .int .i64 c.ret, .int .i64 c.age, .int .i64 c.dead] 25)).alloc (.cells #[.string p.id, .int .i64 p.prio, .bool p.crit, .int .i64 p.r0, .int .i64 p.r1, .int .i64 p.r2, .int .i64 p.l0, .int .i64 p.l1, .int .i64 p.l2, .string p.img, .int .i64 p.size] 29)).alloc (.cells #[.int .u16 ml0, .int .u16 ml1, .int .u16 ml2] 58)).cell? ⟨w.heap.size, 1, none⟩ = some (.int .i64 c.k1) := by first | (simp; done) | (rw [World.cell?_alloc_at _ _ _ _ (by simp)]; rfl) | (rw [World.cell?_alloc_past _ _ _ (by simp <;> omega), World.cell?_alloc_at _ _ _ _ (by simp)]; rfl) | (rw [World.cell?_alloc_past _ _ _ (by simp <;> omega), World.cell?_alloc_past _ _ _ (by simp <;> omega), World.cell?_alloc_at _ _ _ _ (by simp)]; rfl)
  have cc2 : (((w.alloc (.cells #[.int .i64 c.k0, .int .i64 c.k1, .int .i64 c.k2, .int .i64 c.a0, .int .i64 c.a1, .int .i64 c.a2, .slice c.ta c.tl c.tc, .int .i64 c.per, .int .i64 c.ret, .int .i64 c.age, .int .i64 c.dead] 25)).alloc (.cells #[.string p.id, .int .i64 p.prio, .bool p.crit, .int .i64 p.r0, .int .i64 p.r1, .int .i64 p.r2, .int .i64 p.l0, .int .i64 p.l1, .int .i64 p.l2, .string p.img, .int .i64 p.size] 29)).alloc (.cells #[.int .u16 ml0, .int .u16 ml1, .int .u16 ml2] 58)).cell? ⟨w.heap.size, 2, none⟩ = some (.int .i64 c.k2) := by first | (simp; done) | (rw [World.cell?_alloc_at _ _ _ _ (by simp)]; rfl) | (rw [World.cell?_alloc_past _ _ _ (by simp <;> omega), World.cell?_alloc_at _ _ _ _ (by simp)]; rfl) | (rw [World.cell?_alloc_past _ _ _ (by simp <;> omega), World.cell?_alloc_past _ _ _ (by simp <;> omega), World.cell?_alloc_at _ _ _ _ (by simp)]; rfl)
  have cc3 : (((w.alloc (.cells #[.int .i64 c.k0, .int .i64 c.k1, .int .i64 c.k2, .int .i64 c.a0, .int .i64 c.a1, .int .i64 c.a2, .slice c.ta c.tl c.tc, .int .i64 c.per, .int .i64 c.ret, .int .i64 c.age, .int .i64 c.dead] 25)).alloc (.cells #[.string p.id, .int .i64 p.prio, .bool p.crit, .int .i64 p.r0, .int .i64 p.r1, .int .i64 p.r2, .int .i64 p.l0, .int .i64 p.l1, .int .i64 p.l2, .string p.img, .int .i64 p.size] 29)).alloc (.cells #[.int .u16 ml0, .int .u16 ml1, .int .u16 ml2] 58)).cell? ⟨w.heap.size, 3, none⟩ = some (.int .i64 c.a0) := by first | (simp; done) | (rw [World.cell?_alloc_at _ _ _ _ (by simp)]; rfl) | (rw [World.cell?_alloc_past _ _ _ (by simp <;> omega), World.cell?_alloc_at _ _ _ _ (by simp)]; rfl) | (rw [World.cell?_alloc_past _ _ _ (by simp <;> omega), World.cell?_alloc_past _ _ _ (by simp <;> omega), World.cell?_alloc_at _ _ _ _ (by simp)]; rfl)
  have cc4 : (((w.alloc (.cells #[.int .i64 c.k0, .int .i64 c.k1, .int .i64 c.k2, .int .i64 c.a0, .int .i64 c.a1, .int .i64 c.a2, .slice c.ta c.tl c.tc, .int .i64 c.per, .int .i64 c.ret, .int .i64 c.age, .int .i64 c.dead] 25)).alloc (.cells #[.string p.id, .int .i64 p.prio, .bool p.crit, .int .i64 p.r0, .int .i64 p.r1, .int .i64 p.r2, .int .i64 p.l0, .int .i64 p.l1, .int .i64 p.l2, .string p.img, .int .i64 p.size] 29)).alloc (.cells #[.int .u16 ml0, .int .u16 ml1, .int .u16 ml2] 58)).cell? ⟨w.heap.size, 4, none⟩ = some (.int .i64 c.a1) := by first | (simp; done) | (rw [World.cell?_alloc_at _ _ _ _ (by simp)]; rfl) | (rw [World.cell?_alloc_past _ _ _ (by simp <;> omega), World.cell?_alloc_at _ _ _ _ (by simp)]; rfl) | (rw [World.cell?_alloc_past _ _ _ (by simp <;> omega), World.cell?_alloc_past _ _ _ (by simp <;> omega), World.cell?_alloc_at _ _ _ _ (by simp)]; rfl)
  have cc5 : (((w.alloc (.cells #[.int .i64 c.k0, .int .i64 c.k1, .int .i64 c.k2, .int .i64 c.a0, .int .i64 c.a1, .int .i64 c.a2, .slice c.ta c.tl c.tc, .int .i64 c.per, .int .i64 c.ret, .int .i64 c.age, .int .i64 c.dead] 25)).alloc (.cells #[.string p.id, .int .i64 p.prio, .bool p.crit, .int .i64 p.r0, .int .i64 p.r1, .int .i64 p.r2, .int .i64 p.l0, .int .i64 p.l1, .int .i64 p.l2, .string p.img, .int .i64 p.size] 29)).alloc (.cells #[.int .u16 ml0, .int .u16 ml1, .int .u16 ml2] 58)).cell? ⟨w.heap.size, 5, none⟩ = some (.int .i64 c.a2) := by first | (simp; done) | (rw [World.cell?_alloc_at _ _ _ _ (by simp)]; rfl) | (rw [World.cell?_alloc_past _ _ _ (by simp <;> omega), World.cell?_alloc_at _ _ _ _ (by simp)]; rfl) | (rw [World.cell?_alloc_past _ _ _ (by simp <;> omega), World.cell?_alloc_past _ _ _ (by simp <;> omega), World.cell?_alloc_at _ _ _ _ (by simp)]; rfl)
  have cc6 : (((w.alloc (.cells #[.int .i64 c.k0, .int .i64 c.k1, .int .i64 c.k2, .int .i64 c.a0, .int .i64 c.a1, .int .i64 c.a2, .slice c.ta c.tl c.tc, .int .i64 c.per, .int .i64 c.ret, .int .i64 c.age, .int .i64 c.dead] 25)).alloc (.cells #[.string p.id, .int .i64 p.prio, .bool p.crit, .int .i64 p.r0, .int .i64 p.r1, .int .i64 p.r2, .int .i64 p.l0, .int .i64 p.l1, .int .i64 p.l2, .string p.img, .int .i64 p.size] 29)).alloc (.cells #[.int .u16 ml0, .int .u16 ml1, .int .u16 ml2] 58)).cell? ⟨w.heap.size, 6, none⟩ = some (.slice c.ta c.tl c.tc) := by first | (simp; done) | (rw [World.cell?_alloc_at _ _ _ _ (by simp)]; rfl) | (rw [World.cell?_alloc_past _ _ _ (by simp <;> omega), World.cell?_alloc_at _ _ _ _ (by simp)]; rfl) | (rw [World.cell?_alloc_past _ _ _ (by simp <;> omega), World.cell?_alloc_past _ _ _ (by simp <;> omega), World.cell?_alloc_at _ _ _ _ (by simp)]; rfl)
  have cc7 : (((w.alloc (.cells #[.int .i64 c.k0, .int .i64 c.k1, .int .i64 c.k2, .int .i64 c.a0, .int .i64 c.a1, .int .i64 c.a2, .slice c.ta c.tl c.tc, .int .i64 c.per, .int .i64 c.ret, .int .i64 c.age, .int .i64 c.dead] 25)).alloc (.cells #[.string p.id, .int .i64 p.prio, .bool p.crit, .int .i64 p.r0, .int .i64 p.r1, .int .i64 p.r2, .int .i64 p.l0, .int .i64 p.l1, .int .i64 p.l2, .string p.img, .int .i64 p.size] 29)).alloc (.cells #[.int .u16 ml0, .int .u16 ml1, .int .u16 ml2] 58)).cell? ⟨w.heap.size, 7, none⟩ = some (.int .i64 c.per) := by first | (simp; done) | (rw [World.cell?_alloc_at _ _ _ _ (by simp)]; rfl) | (rw [World.cell?_alloc_past _ _ _ (by simp <;> omega), World.cell?_alloc_at _ _ _ _ (by simp)]; rfl) | (rw [World.cell?_alloc_past _ _ _ (by simp <;> omega), World.cell?_alloc_past _ _ _ (by simp <;> omega), World.cell?_alloc_at _ _ _ _ (by simp)]; rfl)
  have cc8 : (((w.alloc (.cells #[.int .i64 c.k0, .int .i64 c.k1, .int .i64 c.k2, .int .i64 c.a0, .int .i64 c.a1, .int .i64 c.a2, .slice c.ta c.tl c.tc, .int .i64 c.per, .int .i64 c.ret, .int .i64 c.age, .int .i64 c.dead] 25)).alloc (.cells #[.string p.id, .int .i64 p.prio, .bool p.crit, .int .i64 p.r0, .int .i64 p.r1, .int .i64 p.r2, .int .i64 p.l0, .int .i64 p.l1, .int .i64 p.l2, .string p.img, .int .i64 p.size] 29)).alloc (.cells #[.int .u16 ml0, .int .u16 ml1, .int .u16 ml2] 58)).cell? ⟨w.heap.size, 8, none⟩ = some (.int .i64 c.ret) := by first | (simp; done) | (rw [World.cell?_alloc_at _ _ _ _ (by simp)]; rfl) | (rw [World.cell?_alloc_past _ _ _ (by simp <;> omega), World.cell?_alloc_at _ _ _ _ (by simp)]; rfl) | (rw [World.cell?_alloc_past _ _ _ (by simp <;> omega), World.cell?_alloc_past _ _ _ (by simp <;> omega), World.cell?_alloc_at _ _ _ _ (by simp)]; rfl)
  have cc9 : (((w.alloc (.cells #[.int .i64 c.k0, .int .i64 c.k1, .int .i64 c.k2, .int .i64 c.a0, .int .i64 c.a1, .int .i64 c.a2, .slice c.ta c.tl c.tc, .int .i64 c.per, .int .i64 c.ret, .int .i64 c.age, .int .i64 c.dead] 25)).alloc (.cells #[.string p.id, .int .i64 p.prio, .bool p.crit, .int .i64 p.r0, .int .i64 p.r1, .int .i64 p.r2, .int .i64 p.l0, .int .i64 p.l1, .int .i64 p.l2, .string p.img, .int .i64 p.size] 29)).alloc (.cells #[.int .u16 ml0, .int .u16 ml1, .int .u16 ml2] 58)).cell? ⟨w.heap.size, 9, none⟩ = some (.int .i64 c.age) := by first | (simp; done) | (rw [World.cell?_alloc_at _ _ _ _ (by simp)]; rfl) | (rw [World.cell?_alloc_past _ _ _ (by simp <;> omega), World.cell?_alloc_at _ _ _ _ (by simp)]; rfl) | (rw [World.cell?_alloc_past _ _ _ (by simp <;> omega), World.cell?_alloc_past _ _ _ (by simp <;> omega), World.cell?_alloc_at _ _ _ _ (by simp)]; rfl)
  have cc10 : (((w.alloc (.cells #[.int .i64 c.k0, .int .i64 c.k1, .int .i64 c.k2, .int .i64 c.a0, .int .i64 c.a1, .int .i64 c.a2, .slice c.ta c.tl c.tc, .int .i64 c.per, .int .i64 c.ret, .int .i64 c.age, .int .i64 c.dead] 25)).alloc (.cells #[.string p.id, .int .i64 p.prio, .bool p.crit, .int .i64 p.r0, .int .i64 p.r1, .int .i64 p.r2, .int .i64 p.l0, .int .i64 p.l1, .int .i64 p.l2, .string p.img, .int .i64 p.size] 29)).alloc (.cells #[.int .u16 ml0, .int .u16 ml1, .int .u16 ml2] 58)).cell? ⟨w.heap.size, 10, none⟩ = some (.int .i64 c.dead) := by first | (simp; done) | (rw [World.cell?_alloc_at _ _ _ _ (by simp)]; rfl) | (rw [World.cell?_alloc_past _ _ _ (by simp <;> omega), World.cell?_alloc_at _ _ _ _ (by simp)]; rfl) | (rw [World.cell?_alloc_past _ _ _ (by simp <;> omega), World.cell?_alloc_past _ _ _ (by simp <;> omega), World.cell?_alloc_at _ _ _ _ (by simp)]; rfl)
  have pp0 : (((w.alloc (.cells #[.int .i64 c.k0, .int .i64 c.k1, .int .i64 c.k2, .int .i64 c.a0, .int .i64 c.a1, .int .i64 c.a2, .slice c.ta c.tl c.tc, .int .i64 c.per, .int .i64 c.ret, .int .i64 c.age, .int .i64 c.dead] 25)).alloc (.cells #[.string p.id, .int .i64 p.prio, .bool p.crit, .int .i64 p.r0, .int .i64 p.r1, .int .i64 p.r2, .int .i64 p.l0, .int .i64 p.l1, .int .i64 p.l2, .string p.img, .int .i64 p.size] 29)).alloc (.cells #[.int .u16 ml0, .int .u16 ml1, .int .u16 ml2] 58)).cell? ⟨w.heap.size + 1, 0, none⟩ = some (.string p.id) := by first | (simp; done) | (rw [World.cell?_alloc_at _ _ _ _ (by simp)]; rfl) | (rw [World.cell?_alloc_past _ _ _ (by simp <;> omega), World.cell?_alloc_at _ _ _ _ (by simp)]; rfl) | (rw [World.cell?_alloc_past _ _ _ (by simp <;> omega), World.cell?_alloc_past _ _ _ (by simp <;> omega), World.cell?_alloc_at _ _ _ _ (by simp)]; rfl)
  have pp1 : (((w.alloc (.cells #[.int .i64 c.k0, .int .i64 c.k1, .int .i64 c.k2, .int .i64 c.a0, .int .i64 c.a1, .int .i64 c.a2, .slice c.ta c.tl c.tc, .int .i64 c.per, .int .i64 c.ret, .int .i64 c.age, .int .i64 c.dead] 25)).alloc (.cells #[.string p.id, .int .i64 p.prio, .bool p.crit, .int .i64 p.r0, .int .i64 p.r1, .int .i64 p.r2, .int .i64 p.l0, .int .i64 p.l1, .int .i64 p.l2, .string p.img, .int .i64 p.size] 29)).alloc (.cells #[.int .u16 ml0, .int .u16 ml1, .int .u16 ml2] 58)).cell? ⟨w.heap.size + 1, 1, none⟩ = some (.int .i64 p.prio) := by first | (simp; done) | (rw [World.cell?_alloc_at _ _ _ _ (by simp)]; rfl) | (rw [World.cell?_alloc_past _ _ _ (by simp <;> omega), World.cell?_alloc_at _ _ _ _ (by simp)]; rfl) | (rw [World.cell?_alloc_past _ _ _ (by simp <;> omega), World.cell?_alloc_past _ _ _ (by simp <;> omega), World.cell?_alloc_at _ _ _ _ (by simp)]; rfl)
  have pp2 : (((w.alloc (.cells #[.int .i64 c.k0, .int .i64 c.k1, .int .i64 c.k2, .int .i64 c.a0, .int .i64 c.a1, .int .i64 c.a2, .slice c.ta c.tl c.tc, .int .i64 c.per, .int .i64 c.ret, .int .i64 c.age, .int .i64 c.dead] 25)).alloc (.cells #[.string p.id, .int .i64 p.prio, .bool p.crit, .int .i64 p.r0, .int .i64 p.r1, .int .i64 p.r2, .int .i64 p.l0, .int .i64 p.l1, .int .i64 p.l2, .string p.img, .int .i64 p.size] 29)).alloc (.cells #[.int .u16 ml0, .int .u16 ml1, .int .u16 ml2] 58)).cell? ⟨w.heap.size + 1, 2, none⟩ = some (.bool p.crit) := by first | (simp; done) | (rw [World.cell?_alloc_at _ _ _ _ (by simp)]; rfl) | (rw [World.cell?_alloc_past _ _ _ (by simp <;> omega), World.cell?_alloc_at _ _ _ _ (by simp)]; rfl) | (rw [World.cell?_alloc_past _ _ _ (by simp <;> omega), World.cell?_alloc_past _ _ _ (by simp <;> omega), World.cell?_alloc_at _ _ _ _ (by simp)]; rfl)
  have pp3 : (((w.alloc (.cells #[.int .i64 c.k0, .int .i64 c.k1, .int .i64 c.k2, .int .i64 c.a0, .int .i64 c.a1, .int .i64 c.a2, .slice c.ta c.tl c.tc, .int .i64 c.per, .int .i64 c.ret, .int .i64 c.age, .int .i64 c.dead] 25)).alloc (.cells #[.string p.id, .int .i64 p.prio, .bool p.crit, .int .i64 p.r0, .int .i64 p.r1, .int .i64 p.r2, .int .i64 p.l0, .int .i64 p.l1, .int .i64 p.l2, .string p.img, .int .i64 p.size] 29)).alloc (.cells #[.int .u16 ml0, .int .u16 ml1, .int .u16 ml2] 58)).cell? ⟨w.heap.size + 1, 3, none⟩ = some (.int .i64 p.r0) := by first | (simp; done) | (rw [World.cell?_alloc_at _ _ _ _ (by simp)]; rfl) | (rw [World.cell?_alloc_past _ _ _ (by simp <;> omega), World.cell?_alloc_at _ _ _ _ (by simp)]; rfl) | (rw [World.cell?_alloc_past _ _ _ (by simp <;> omega), World.cell?_alloc_past _ _ _ (by simp <;> omega), World.cell?_alloc_at _ _ _ _ (by simp)]; rfl)
  have pp4 : (((w.alloc (.cells #[.int .i64 c.k0, .int .i64 c.k1, .int .i64 c.k2, .int .i64 c.a0, .int .i64 c.a1, .int .i64 c.a2, .slice c.ta c.tl c.tc, .int .i64 c.per, .int .i64 c.ret, .int .i64 c.age, .int .i64 c.dead] 25)).alloc (.cells #[.string p.id, .int .i64 p.prio, .bool p.crit, .int .i64 p.r0, .int .i64 p.r1, .int .i64 p.r2, .int .i64 p.l0, .int .i64 p.l1, .int .i64 p.l2, .string p.img, .int .i64 p.size] 29)).alloc (.cells #[.int .u16 ml0, .int .u16 ml1, .int .u16 ml2] 58)).cell? ⟨w.heap.size + 1, 4, none⟩ = some (.int .i64 p.r1) := by first | (simp; done) | (rw [World.cell?_alloc_at _ _ _ _ (by simp)]; rfl) | (rw [World.cell?_alloc_past _ _ _ (by simp <;> omega), World.cell?_alloc_at _ _ _ _ (by simp)]; rfl) | (rw [World.cell?_alloc_past _ _ _ (by simp <;> omega), World.cell?_alloc_past _ _ _ (by simp <;> omega), World.cell?_alloc_at _ _ _ _ (by simp)]; rfl)
  have pp5 : (((w.alloc (.cells #[.int .i64 c.k0, .int .i64 c.k1, .int .i64 c.k2, .int .i64 c.a0, .int .i64 c.a1, .int .i64 c.a2, .slice c.ta c.tl c.tc, .int .i64 c.per, .int .i64 c.ret, .int .i64 c.age, .int .i64 c.dead] 25)).alloc (.cells #[.string p.id, .int .i64 p.prio, .bool p.crit, .int .i64 p.r0, .int .i64 p.r1, .int .i64 p.r2, .int .i64 p.l0, .int .i64 p.l1, .int .i64 p.l2, .string p.img, .int .i64 p.size] 29)).alloc (.cells #[.int .u16 ml0, .int .u16 ml1, .int .u16 ml2] 58)).cell? ⟨w.heap.size + 1, 5, none⟩ = some (.int .i64 p.r2) := by first | (simp; done) | (rw [World.cell?_alloc_at _ _ _ _ (by simp)]; rfl) | (rw [World.cell?_alloc_past _ _ _ (by simp <;> omega), World.cell?_alloc_at _ _ _ _ (by simp)]; rfl) | (rw [World.cell?_alloc_past _ _ _ (by simp <;> omega), World.cell?_alloc_past _ _ _ (by simp <;> omega), World.cell?_alloc_at _ _ _ _ (by simp)]; rfl)
  have pp6 : (((w.alloc (.cells #[.int .i64 c.k0, .int .i64 c.k1, .int .i64 c.k2, .int .i64 c.a0, .int .i64 c.a1, .int .i64 c.a2, .slice c.ta c.tl c.tc, .int .i64 c.per, .int .i64 c.ret, .int .i64 c.age, .int .i64 c.dead] 25)).alloc (.cells #[.string p.id, .int .i64 p.prio, .bool p.crit, .int .i64 p.r0, .int .i64 p.r1, .int .i64 p.r2, .int .i64 p.l0, .int .i64 p.l1, .int .i64 p.l2, .string p.img, .int .i64 p.size] 29)).alloc (.cells #[.int .u16 ml0, .int .u16 ml1, .int .u16 ml2] 58)).cell? ⟨w.heap.size + 1, 6, none⟩ = some (.int .i64 p.l0) := by first | (simp; done) | (rw [World.cell?_alloc_at _ _ _ _ (by simp)]; rfl) | (rw [World.cell?_alloc_past _ _ _ (by simp <;> omega), World.cell?_alloc_at _ _ _ _ (by simp)]; rfl) | (rw [World.cell?_alloc_past _ _ _ (by simp <;> omega), World.cell?_alloc_past _ _ _ (by simp <;> omega), World.cell?_alloc_at _ _ _ _ (by simp)]; rfl)
  have pp7 : (((w.alloc (.cells #[.int .i64 c.k0, .int .i64 c.k1, .int .i64 c.k2, .int .i64 c.a0, .int .i64 c.a1, .int .i64 c.a2, .slice c.ta c.tl c.tc, .int .i64 c.per, .int .i64 c.ret, .int .i64 c.age, .int .i64 c.dead] 25)).alloc (.cells #[.string p.id, .int .i64 p.prio, .bool p.crit, .int .i64 p.r0, .int .i64 p.r1, .int .i64 p.r2, .int .i64 p.l0, .int .i64 p.l1, .int .i64 p.l2, .string p.img, .int .i64 p.size] 29)).alloc (.cells #[.int .u16 ml0, .int .u16 ml1, .int .u16 ml2] 58)).cell? ⟨w.heap.size + 1, 7, none⟩ = some (.int .i64 p.l1) := by first | (simp; done) | (rw [World.cell?_alloc_at _ _ _ _ (by simp)]; rfl) | (rw [World.cell?_alloc_past _ _ _ (by simp <;> omega), World.cell?_alloc_at _ _ _ _ (by simp)]; rfl) | (rw [World.cell?_alloc_past _ _ _ (by simp <;> omega), World.cell?_alloc_past _ _ _ (by simp <;> omega), World.cell?_alloc_at _ _ _ _ (by simp)]; rfl)
  have pp8 : (((w.alloc (.cells #[.int .i64 c.k0, .int .i64 c.k1, .int .i64 c.k2, .int .i64 c.a0, .int .i64 c.a1, .int .i64 c.a2, .slice c.ta c.tl c.tc, .int .i64 c.per, .int .i64 c.ret, .int .i64 c.age, .int .i64 c.dead] 25)).alloc (.cells #[.string p.id, .int .i64 p.prio, .bool p.crit, .int .i64 p.r0, .int .i64 p.r1, .int .i64 p.r2, .int .i64 p.l0, .int .i64 p.l1, .int .i64 p.l2, .string p.img, .int .i64 p.size] 29)).alloc (.cells #[.int .u16 ml0, .int .u16 ml1, .int .u16 ml2] 58)).cell? ⟨w.heap.size + 1, 8, none⟩ = some (.int .i64 p.l2) := by first | (simp; done) | (rw [World.cell?_alloc_at _ _ _ _ (by simp)]; rfl) | (rw [World.cell?_alloc_past _ _ _ (by simp <;> omega), World.cell?_alloc_at _ _ _ _ (by simp)]; rfl) | (rw [World.cell?_alloc_past _ _ _ (by simp <;> omega), World.cell?_alloc_past _ _ _ (by simp <;> omega), World.cell?_alloc_at _ _ _ _ (by simp)]; rfl)
  have pp9 : (((w.alloc (.cells #[.int .i64 c.k0, .int .i64 c.k1, .int .i64 c.k2, .int .i64 c.a0, .int .i64 c.a1, .int .i64 c.a2, .slice c.ta c.tl c.tc, .int .i64 c.per, .int .i64 c.ret, .int .i64 c.age, .int .i64 c.dead] 25)).alloc (.cells #[.string p.id, .int .i64 p.prio, .bool p.crit, .int .i64 p.r0, .int .i64 p.r1, .int .i64 p.r2, .int .i64 p.l0, .int .i64 p.l1, .int .i64 p.l2, .string p.img, .int .i64 p.size] 29)).alloc (.cells #[.int .u16 ml0, .int .u16 ml1, .int .u16 ml2] 58)).cell? ⟨w.heap.size + 1, 9, none⟩ = some (.string p.img) := by first | (simp; done) | (rw [World.cell?_alloc_at _ _ _ _ (by simp)]; rfl) | (rw [World.cell?_alloc_past _ _ _ (by simp <;> omega), World.cell?_alloc_at _ _ _ _ (by simp)]; rfl) | (rw [World.cell?_alloc_past _ _ _ (by simp <;> omega), World.cell?_alloc_past _ _ _ (by simp <;> omega), World.cell?_alloc_at _ _ _ _ (by simp)]; rfl)
  have pp10 : (((w.alloc (.cells #[.int .i64 c.k0, .int .i64 c.k1, .int .i64 c.k2, .int .i64 c.a0, .int .i64 c.a1, .int .i64 c.a2, .slice c.ta c.tl c.tc, .int .i64 c.per, .int .i64 c.ret, .int .i64 c.age, .int .i64 c.dead] 25)).alloc (.cells #[.string p.id, .int .i64 p.prio, .bool p.crit, .int .i64 p.r0, .int .i64 p.r1, .int .i64 p.r2, .int .i64 p.l0, .int .i64 p.l1, .int .i64 p.l2, .string p.img, .int .i64 p.size] 29)).alloc (.cells #[.int .u16 ml0, .int .u16 ml1, .int .u16 ml2] 58)).cell? ⟨w.heap.size + 1, 10, none⟩ = some (.int .i64 p.size) := by first | (simp; done) | (rw [World.cell?_alloc_at _ _ _ _ (by simp)]; rfl) | (rw [World.cell?_alloc_past _ _ _ (by simp <;> omega), World.cell?_alloc_at _ _ _ _ (by simp)]; rfl) | (rw [World.cell?_alloc_past _ _ _ (by simp <;> omega), World.cell?_alloc_past _ _ _ (by simp <;> omega), World.cell?_alloc_at _ _ _ _ (by simp)]; rfl)
  have mm0 : (((w.alloc (.cells #[.int .i64 c.k0, .int .i64 c.k1, .int .i64 c.k2, .int .i64 c.a0, .int .i64 c.a1, .int .i64 c.a2, .slice c.ta c.tl c.tc, .int .i64 c.per, .int .i64 c.ret, .int .i64 c.age, .int .i64 c.dead] 25)).alloc (.cells #[.string p.id, .int .i64 p.prio, .bool p.crit, .int .i64 p.r0, .int .i64 p.r1, .int .i64 p.r2, .int .i64 p.l0, .int .i64 p.l1, .int .i64 p.l2, .string p.img, .int .i64 p.size] 29)).alloc (.cells #[.int .u16 ml0, .int .u16 ml1, .int .u16 ml2] 58)).cell? ⟨w.heap.size + 2, 0, none⟩ = some (.int .u16 ml0) := by first | (simp; done) | (rw [World.cell?_alloc_at _ _ _ _ (by simp)]; rfl) | (rw [World.cell?_alloc_past _ _ _ (by simp <;> omega), World.cell?_alloc_at _ _ _ _ (by simp)]; rfl) | (rw [World.cell?_alloc_past _ _ _ (by simp <;> omega), World.cell?_alloc_past _ _ _ (by simp <;> omega), World.cell?_alloc_at _ _ _ _ (by simp)]; rfl)
  have mm1 : (((w.alloc (.cells #[.int .i64 c.k0, .int .i64 c.k1, .int .i64 c.k2, .int .i64 c.a0, .int .i64 c.a1, .int .i64 c.a2, .slice c.ta c.tl c.tc, .int .i64 c.per, .int .i64 c.ret, .int .i64 c.age, .int .i64 c.dead] 25)).alloc (.cells #[.string p.id, .int .i64 p.prio, .bool p.crit, .int .i64 p.r0, .int .i64 p.r1, .int .i64 p.r2, .int .i64 p.l0, .int .i64 p.l1, .int .i64 p.l2, .string p.img, .int .i64 p.size] 29)).alloc (.cells #[.int .u16 ml0, .int .u16 ml1, .int .u16 ml2] 58)).cell? ⟨w.heap.size + 2, 1, none⟩ = some (.int .u16 ml1) := by first | (simp; done) | (rw [World.cell?_alloc_at _ _ _ _ (by simp)]; rfl) | (rw [World.cell?_alloc_past _ _ _ (by simp <;> omega), World.cell?_alloc_at _ _ _ _ (by simp)]; rfl) | (rw [World.cell?_alloc_past _ _ _ (by simp <;> omega), World.cell?_alloc_past _ _ _ (by simp <;> omega), World.cell?_alloc_at _ _ _ _ (by simp)]; rfl)
  have mm2 : (((w.alloc (.cells #[.int .i64 c.k0, .int .i64 c.k1, .int .i64 c.k2, .int .i64 c.a0, .int .i64 c.a1, .int .i64 c.a2, .slice c.ta c.tl c.tc, .int .i64 c.per, .int .i64 c.ret, .int .i64 c.age, .int .i64 c.dead] 25)).alloc (.cells #[.string p.id, .int .i64 p.prio, .bool p.crit, .int .i64 p.r0, .int .i64 p.r1, .int .i64 p.r2, .int .i64 p.l0, .int .i64 p.l1, .int .i64 p.l2, .string p.img, .int .i64 p.size] 29)).alloc (.cells #[.int .u16 ml0, .int .u16 ml1, .int .u16 ml2] 58)).cell? ⟨w.heap.size + 2, 2, none⟩ = some (.int .u16 ml2) := by first | (simp; done) | (rw [World.cell?_alloc_at _ _ _ _ (by simp)]; rfl) | (rw [World.cell?_alloc_past _ _ _ (by simp <;> omega), World.cell?_alloc_at _ _ _ _ (by simp)]; rfl) | (rw [World.cell?_alloc_past _ _ _ (by simp <;> omega), World.cell?_alloc_past _ _ _ (by simp <;> omega), World.cell?_alloc_at _ _ _ _ (by simp)]; rfl)
  have hb2 := (by repeat (first | exact hbel | refine belAlloc ?_ _ | refine belDrew ?_ | refine belSet ?_ _ _ (by simp)) : Below w.heap.size w (((w.alloc (.cells #[.int .i64 c.k0, .int .i64 c.k1, .int .i64 c.k2, .int .i64 c.a0, .int .i64 c.a1, .int .i64 c.a2, .slice c.ta c.tl c.tc, .int .i64 c.per, .int .i64 c.ret, .int .i64 c.age, .int .i64 c.dead] 25)).alloc (.cells #[.string p.id, .int .i64 p.prio, .bool p.crit, .int .i64 p.r0, .int .i64 p.r1, .int .i64 p.r2, .int .i64 p.l0, .int .i64 p.l1, .int .i64 p.l2, .string p.img, .int .i64 p.size] 29)).alloc (.cells #[.int .u16 ml0, .int .u16 ml1, .int .u16 ml2] 58)))
  replace hw := belStep hw hb2
  have ccB : Blk (((w.alloc (.cells #[.int .i64 c.k0, .int .i64 c.k1, .int .i64 c.k2, .int .i64 c.a0, .int .i64 c.a1, .int .i64 c.a2, .slice c.ta c.tl c.tc, .int .i64 c.per, .int .i64 c.ret, .int .i64 c.age, .int .i64 c.dead] 25)).alloc (.cells #[.string p.id, .int .i64 p.prio, .bool p.crit, .int .i64 p.r0, .int .i64 p.r1, .int .i64 p.r2, .int .i64 p.l0, .int .i64 p.l1, .int .i64 p.l2, .string p.img, .int .i64 p.size] 29)).alloc (.cells #[.int .u16 ml0, .int .u16 ml1, .int .u16 ml2] 58)) (w.heap.size) [.int .i64 c.k0, .int .i64 c.k1, .int .i64 c.k2, .int .i64 c.a0, .int .i64 c.a1, .int .i64 c.a2, .slice c.ta c.tl c.tc, .int .i64 c.per, .int .i64 c.ret, .int .i64 c.age, .int .i64 c.dead] 25 := (Blk.at (by simp) : Blk (w.alloc (.cells #[.int .i64 c.k0, .int .i64 c.k1, .int .i64 c.k2, .int .i64 c.a0, .int .i64 c.a1, .int .i64 c.a2, .slice c.ta c.tl c.tc, .int .i64 c.per, .int .i64 c.ret, .int .i64 c.age, .int .i64 c.dead] 25)) (w.heap.size) [.int .i64 c.k0, .int .i64 c.k1, .int .i64 c.k2, .int .i64 c.a0, .int .i64 c.a1, .int .i64 c.a2, .slice c.ta c.tl c.tc, .int .i64 c.per, .int .i64 c.ret, .int .i64 c.age, .int .i64 c.dead] 25).later (by repeat (first | exact Below.refl _ _ | refine belAlloc ?_ _))
  have ccF := Blk.keepF ccB
  replace ccB := Blk.keepB ccB
  have ppB : Blk (((w.alloc (.cells #[.int .i64 c.k0, .int .i64 c.k1, .int .i64 c.k2, .int .i64 c.a0, .int .i64 c.a1, .int .i64 c.a2, .slice c.ta c.tl c.tc, .int .i64 c.per, .int .i64 c.ret, .int .i64 c.age, .int .i64 c.dead] 25)).alloc (.cells #[.string p.id, .int .i64 p.prio, .bool p.crit, .int .i64 p.r0, .int .i64 p.r1, .int .i64 p.r2, .int .i64 p.l0, .int .i64 p.l1, .int .i64 p.l2, .string p.img, .int .i64 p.size] 29)).alloc (.cells #[.int .u16 ml0, .int .u16 ml1, .int .u16 ml2] 58)) (w.heap.size + 1) [.string p.id, .int .i64 p.prio, .bool p.crit, .int .i64 p.r0, .int .i64 p.r1, .int .i64 p.r2, .int .i64 p.l0, .int .i64 p.l1, .int .i64 p.l2, .string p.img, .int .i64 p.size] 29 := (Blk.at (by simp) : Blk ((w.alloc (.cells #[.int .i64 c.k0, .int .i64 c.k1, .int .i64 c.k2, .int .i64 c.a0, .int .i64 c.a1, .int .i64 c.a2, .slice c.ta c.tl c.tc, .int .i64 c.per, .int .i64 c.ret, .int .i64 c.age, .int .i64 c.dead] 25)).alloc (.cells #[.string p.id, .int .i64 p.prio, .bool p.crit, .int .i64 p.r0, .int .i64 p.r1, .int .i64 p.r2, .int .i64 p.l0, .int .i64 p.l1, .int .i64 p.l2, .string p.img, .int .i64 p.size] 29)) (w.heap.size + 1) [.string p.id, .int .i64 p.prio, .bool p.crit, .int .i64 p.r0, .int .i64 p.r1, .int .i64 p.r2, .int .i64 p.l0, .int .i64 p.l1, .int .i64 p.l2, .string p.img, .int .i64 p.size] 29).later (by repeat (first | exact Below.refl _ _ | refine belAlloc ?_ _))
  have ppF := Blk.keepF ppB
  replace ppB := Blk.keepB ppB
  have mmB : Blk (((w.alloc (.cells #[.int .i64 c.k0, .int .i64 c.k1, .int .i64 c.k2, .int .i64 c.a0, .int .i64 c.a1, .int .i64 c.a2, .slice c.ta c.tl c.tc, .int .i64 c.per, .int .i64 c.ret, .int .i64 c.age, .int .i64 c.dead] 25)).alloc (.cells #[.string p.id, .int .i64 p.prio, .bool p.crit, .int .i64 p.r0, .int .i64 p.r1, .int .i64 p.r2, .int .i64 p.l0, .int .i64 p.l1, .int .i64 p.l2, .string p.img, .int .i64 p.size] 29)).alloc (.cells #[.int .u16 ml0, .int .u16 ml1, .int .u16 ml2] 58)) (w.heap.size + 2) [.int .u16 ml0, .int .u16 ml1, .int .u16 ml2] 58 := (Blk.at (by simp) : Blk (((w.alloc (.cells #[.int .i64 c.k0, .int .i64 c.k1, .int .i64 c.k2, .int .i64 c.a0, .int .i64 c.a1, .int .i64 c.a2, .slice c.ta c.tl c.tc, .int .i64 c.per, .int .i64 c.ret, .int .i64 c.age, .int .i64 c.dead] 25)).alloc (.cells #[.string p.id, .int .i64 p.prio, .bool p.crit, .int .i64 p.r0, .int .i64 p.r1, .int .i64 p.r2, .int .i64 p.l0, .int .i64 p.l1, .int .i64 p.l2, .string p.img, .int .i64 p.size] 29)).alloc (.cells #[.int .u16 ml0, .int .u16 ml1, .int .u16 ml2] 58)) (w.heap.size + 2) [.int .u16 ml0, .int .u16 ml1, .int .u16 ml2] 58).later (by repeat (first | exact Below.refl _ _ | refine belAlloc ?_ _))
  have mmF := Blk.keepF mmB
  replace mmB := Blk.keepB mmB
  clear hb2 hbel
  generalize ((w.alloc (.cells #[.int .i64 c.k0, .int .i64 c.k1, .int .i64 c.k2, .int .i64 c.a0, .int .i64 c.a1, .int .i64 c.a2, .slice c.ta c.tl c.tc, .int .i64 c.per, .int .i64 c.ret, .int .i64 c.age, .int .i64 c.dead] 25)).alloc (.cells #[.string p.id, .int .i64 p.prio, .bool p.crit, .int .i64 p.r0, .int .i64 p.r1, .int .i64 p.r2, .int .i64 p.l0, .int .i64 p.l1, .int .i64 p.l2, .string p.img, .int .i64 p.size] 29)).alloc (.cells #[.int .u16 ml0, .int .u16 ml1, .int .u16 ml2] 58) = W1 at *
  replace cc0 := keep cc0
  replace cc1 := keep cc1
  replace cc2 := keep cc2
  replace cc3 := keep cc3
  replace cc4 := keep cc4
  replace cc5 := keep cc5
  replace cc6 := keep cc6
  replace cc7 := keep cc7
  replace cc8 := keep cc8
  replace cc9 := keep cc9
  replace cc10 := keep cc10
  replace pp0 := keep pp0
  replace pp1 := keep pp1
  replace pp2 := keep pp2
  replace pp3 := keep pp3
  replace pp4 := keep pp4
  replace pp5 := keep pp5
  replace pp6 := keep pp6
  replace pp7 := keep pp7
  replace pp8 := keep pp8
  replace pp9 := keep pp9
  replace pp10 := keep pp10
  replace mm0 := keep mm0
  replace mm1 := keep mm1
  replace mm2 := keep mm2
  have hbel : Below W1.heap.size W1 W1 := Below.refl _ _
  skip
  go_upto_region 3 with (first | (go_at_call 10; (with_reducible refine (awake23 _).mono ?_); rintro e w1 ⟨rfl, hb1⟩; replace hbel := belStep hbel hb1; clear hb1) | (go_at_call 11; (with_reducible refine (CRT.out _ (belStep hw hbel)).mono ?_); rintro e w2 ⟨⟨b, rfl, hq⟩, hb2⟩; replace hbel := belStep hbel hb2; clear hb2; have HC := Lib.hid hq; clear hq; rcases b with _ | _) | (go_at_call 12; (with_reducible refine (CFT.out _ (belStep hw hbel)).mono ?_); rintro e w3 ⟨⟨b, rfl, hq⟩, hb3⟩; replace hbel := belStep hbel hb3; clear hb3; have HT := Lib.hid hq; clear hq; rcases b with _ | _) | (go_at_call 13; (with_reducible refine (CSM.out _).mono ?_); rintro e w4 ⟨rfl, hb4⟩; replace hbel := belStep hbel hb4; clear hb4; rcases sm with _ | _))
  · go_ret
    exact ⟨rfl, belStep hw hbel⟩
  · go_ret
    exact ⟨rfl, belStep hw hbel⟩
  · go_ret
    exact ⟨rfl, belStep hw hbel⟩
  replace HC := Lib.hid (HC.out (by trivial))
  replace HT := Lib.hid (HT.out (by trivial))
  clear CRT CFT CSM
  have hlen : T.length ≤ 64 := HT.out.len
  have hpl : (podsOf T).length ≤ 64 := by rw [podsOf_len]; omega
  have HRO := Lib.hid (show 0 ≤ (⟨c.a0, c.a1, c.a2⟩ : Room).a ∧ 0 ≤ (⟨c.a0, c.a1, c.a2⟩ : Room).b ∧ 0 ≤ (⟨c.a0, c.a1, c.a2⟩ : Room).c from ⟨HC.out.caps.1.2, HC.out.caps.2.1.2, HC.out.caps.2.2.2⟩)
  obtain ⟨⟨⟨k1, g1, G1⟩, er1⟩, hD1⟩ : ∃ D, decideF ⟨c.a0, c.a1, c.a2⟩ T ⟨false, false, false⟩ p = D := ⟨_, rfl⟩
  have CD1 := Lib.hid (show ∀ u : World, Below w.heap.size w u → Calls Try.prog 14 #[.agg #[.int .i64 c.k0, .int .i64 c.k1, .int .i64 c.k2, .int .i64 c.a0, .int .i64 c.a1, .int .i64 c.a2, .slice c.ta c.tl c.tc, .int .i64 c.per, .int .i64 c.ret, .int .i64 c.age, .int .i64 c.dead], .slice a T.length cap, .agg #[.bool false, .bool false, .bool false], .agg #[.string p.id, .int .i64 p.prio, .bool p.crit, .int .i64 p.r0, .int .i64 p.r1, .int .i64 p.r2, .int .i64 p.l0, .int .i64 p.l1, .int .i64 p.l2, .string p.img, .int .i64 p.size]] u fun e w' => (∃ b n, e = .returned (.tuple #[.agg #[.int .i64 k1, .int .i64 g1, .slice b G1.length n], .int .i64 er1]) ∧ OwnS w' u.heap.size (.slice b G1.length n) G1) ∧ Below u.heap.size u w' from fun u hu => by have h := adm_Decide c ⟨false, false, false⟩ p a T.length cap T u rfl (HR.out.later hu) (by omega) HOK.out HT.out.dist (HPO.out); rw [hD1] at h; exact h)
  go_upto_region 4 with (go_at_call 14; (with_reducible refine (CD1.out _ (belStep hw hbel)).mono ?_); rintro e u1 ⟨⟨b1, m1, rfl, ho1⟩, hb1⟩; replace hbel := belStep hbel hb1)
  have HX1 := Lib.hid (row_of_owns ho1)
  clear ho1 hb1
  replace cc0 := keepOnP cc0 hbel
  replace cc1 := keepOnP cc1 hbel
  replace cc2 := keepOnP cc2 hbel
  replace cc3 := keepOnP cc3 hbel
  replace cc4 := keepOnP cc4 hbel
  replace cc5 := keepOnP cc5 hbel
  replace cc6 := keepOnP cc6 hbel
  replace cc7 := keepOnP cc7 hbel
  replace cc8 := keepOnP cc8 hbel
  replace cc9 := keepOnP cc9 hbel
  replace cc10 := keepOnP cc10 hbel
  replace pp0 := keepOnP pp0 hbel
  replace pp1 := keepOnP pp1 hbel
  replace pp2 := keepOnP pp2 hbel
  replace pp3 := keepOnP pp3 hbel
  replace pp4 := keepOnP pp4 hbel
  replace pp5 := keepOnP pp5 hbel
  replace pp6 := keepOnP pp6 hbel
  replace pp7 := keepOnP pp7 hbel
  replace pp8 := keepOnP pp8 hbel
  replace pp9 := keepOnP pp9 hbel
  replace pp10 := keepOnP pp10 hbel
  replace mm0 := keepOnP mm0 hbel
  replace mm1 := keepOnP mm1 hbel
  replace mm2 := keepOnP mm2 hbel
  replace ccF := keepOnP ccF hbel
  replace ccB := keepOnP ccB hbel
  replace ppF := keepOnP ppF hbel
  replace ppB := keepOnP ppB hbel
  replace mmF := keepOnP mmF hbel
  replace mmB := keepOnP mmB hbel
  replace hw := belStep hw hbel
  clear hbel
  generalize u1 = V1 at *
  have hbel : Below V1.heap.size V1 V1 := Below.refl _ _
  have HXN := Lib.hid (HX1.out.later (belAlloc (Below.refl _ _) (.cells #[.int .i64 k1, .int .i64 g1, .slice b1 G1.length m1] 36)))
  clear HX1
  have v10 : (V1.alloc (.cells #[.int .i64 k1, .int .i64 g1, .slice b1 G1.length m1] 36)).cell? ⟨V1.heap.size, 0, none⟩ = some (.int .i64 k1) := by first | (simp; done) | (rw [World.cell?_alloc_at _ _ _ _ (by simp)]; rfl) | (rw [World.cell?_alloc_past _ _ _ (by simp <;> omega), World.cell?_alloc_at _ _ _ _ (by simp)]; rfl) | (rw [World.cell?_alloc_past _ _ _ (by simp <;> omega), World.cell?_alloc_past _ _ _ (by simp <;> omega), World.cell?_alloc_at _ _ _ _ (by simp)]; rfl)
  have v11 : (V1.alloc (.cells #[.int .i64 k1, .int .i64 g1, .slice b1 G1.length m1] 36)).cell? ⟨V1.heap.size, 1, none⟩ = some (.int .i64 g1) := by first | (simp; done) | (rw [World.cell?_alloc_at _ _ _ _ (by simp)]; rfl) | (rw [World.cell?_alloc_past _ _ _ (by simp <;> omega), World.cell?_alloc_at _ _ _ _ (by simp)]; rfl) | (rw [World.cell?_alloc_past _ _ _ (by simp <;> omega), World.cell?_alloc_past _ _ _ (by simp <;> omega), World.cell?_alloc_at _ _ _ _ (by simp)]; rfl)
  have v12 : (V1.alloc (.cells #[.int .i64 k1, .int .i64 g1, .slice b1 G1.length m1] 36)).cell? ⟨V1.heap.size, 2, none⟩ = some (.slice b1 G1.length m1) := by first | (simp; done) | (rw [World.cell?_alloc_at _ _ _ _ (by simp)]; rfl) | (rw [World.cell?_alloc_past _ _ _ (by simp <;> omega), World.cell?_alloc_at _ _ _ _ (by simp)]; rfl) | (rw [World.cell?_alloc_past _ _ _ (by simp <;> omega), World.cell?_alloc_past _ _ _ (by simp <;> omega), World.cell?_alloc_at _ _ _ _ (by simp)]; rfl)
  have hb2 := (by repeat (first | exact hbel | refine belAlloc ?_ _ | refine belDrew ?_ | refine belSet ?_ _ _ (by simp)) : Below V1.heap.size V1 (V1.alloc (.cells #[.int .i64 k1, .int .i64 g1, .slice b1 G1.length m1] 36)))
  replace cc0 := keepOnP cc0 hb2
  replace cc1 := keepOnP cc1 hb2
  replace cc2 := keepOnP cc2 hb2
  replace cc3 := keepOnP cc3 hb2
  replace cc4 := keepOnP cc4 hb2
  replace cc5 := keepOnP cc5 hb2
  replace cc6 := keepOnP cc6 hb2
  replace cc7 := keepOnP cc7 hb2
  replace cc8 := keepOnP cc8 hb2
  replace cc9 := keepOnP cc9 hb2
  replace cc10 := keepOnP cc10 hb2
  replace pp0 := keepOnP pp0 hb2
  replace pp1 := keepOnP pp1 hb2
  replace pp2 := keepOnP pp2 hb2
  replace pp3 := keepOnP pp3 hb2
  replace pp4 := keepOnP pp4 hb2
  replace pp5 := keepOnP pp5 hb2
  replace pp6 := keepOnP pp6 hb2
  replace pp7 := keepOnP pp7 hb2
  replace pp8 := keepOnP pp8 hb2
  replace pp9 := keepOnP pp9 hb2
  replace pp10 := keepOnP pp10 hb2
  replace mm0 := keepOnP mm0 hb2
  replace mm1 := keepOnP mm1 hb2
  replace mm2 := keepOnP mm2 hb2
  replace ccF := keepOnP ccF hb2
  replace ccB := keepOnP ccB hb2
  replace ppF := keepOnP ppF hb2
  replace ppB := keepOnP ppB hb2
  replace mmF := keepOnP mmF hb2
  replace mmB := keepOnP mmB hb2
  replace hw := belStep hw hb2
  clear hb2 hbel
  generalize V1.alloc (.cells #[.int .i64 k1, .int .i64 g1, .slice b1 G1.length m1] 36) = W2 at *
  replace v10 := keep v10
  replace v11 := keep v11
  replace v12 := keep v12
  have hbel : Below W2.heap.size W2 W2 := Below.refl _ _
  skip
  have HX1 := Lib.hid HXN.out
  clear HXN
  clear HX1 CD1
  rcases dec_cases hD1 with ⟨her, hr, rfl, rfl, rfl⟩ | ⟨rfl, hr, s, hb, rfl, rfl, rfl⟩ | ⟨rfl, hr, hb, rfl, ⟨rfl, rfl, hc⟩ | ⟨rfl, rfl, hc⟩ | ⟨rfl, hl, hc⟩⟩
  · have hq : (er1 != 0) = true := by simp [her]
    clear hD1 her hr
    go_wp2
    go_ret
    exact ⟨rfl, belStep hw hbel⟩
  · clear hD1 hr hb
    go_wp2
    go_ret
    exact ⟨rfl, belStep hw hbel⟩
  · clear hD1 hr hb hc
    go_wp2
    go_ret
    exact ⟨rfl, belStep hw hbel⟩
  · simp only [List.length_nil]
    have hfi := ref0_fit (R := ⟨c.a0, c.a1, c.a2⟩) HRO.out HT.out hr
    have hpos := PodV.right_pos p hfi.rp
    have g0 := lessF_bd (m := ml0) hpos.1 hm0.1
    have g1 := lessF_bd (m := ml1) hpos.2.1 hm1.1
    have g2 := lessF_bd (m := ml2) hpos.2.2 hm2.1
    obtain ⟨q0, hq0⟩ : ∃ q, lessF p.r0 ml0 = q := ⟨_, rfl⟩
    rw [hq0] at g0
    have HQ0 := Lib.hid hq0
    obtain ⟨q1, hq1⟩ : ∃ q, lessF p.r1 ml1 = q := ⟨_, rfl⟩
    rw [hq1] at g1
    have HQ1 := Lib.hid hq1
    obtain ⟨q2, hq2⟩ : ∃ q, lessF p.r2 ml2 = q := ⟨_, rfl⟩
    rw [hq2] at g2
    have HQ2 := Lib.hid hq2
    have HD2 := Lib.hid (dec_less (R := ⟨c.a0, c.a1, c.a2⟩) HRO.out HT.out hr hc g0 g1 g2)
    have hin : InI p.r0 ∧ InI p.r1 ∧ InI p.r2 := by have h := HPO.out; unfold PodV.ok at h; exact ⟨h.2.2.2.1, h.2.2.2.2.1, h.2.2.2.2.2.1⟩
    have hpk : (lessP p q0 q1 q2).ok := by have h := HPO.out; unfold PodV.ok at h; unfold InI at hin; unfold PodV.ok lessP; exact ⟨h.1, h.2.1, h.2.2.1, by unfold InI; dsimp only; omega, by unfold InI; dsimp only; omega, by unfold InI; dsimp only; omega, h.2.2.2.2.2.2⟩
    have HPK := Lib.hid hpk
    have CD2 := Lib.hid (show ∀ u : World, Below w.heap.size w u → Calls Try.prog 14 #[.agg #[.int .i64 c.k0, .int .i64 c.k1, .int .i64 c.k2, .int .i64 c.a0, .int .i64 c.a1, .int .i64 c.a2, .slice c.ta c.tl c.tc, .int .i64 c.per, .int .i64 c.ret, .int .i64 c.age, .int .i64 c.dead], .slice a T.length cap, .agg #[.bool false, .bool false, .bool false], .agg #[.string p.id, .int .i64 p.prio, .bool p.crit, .int .i64 q0, .int .i64 q1, .int .i64 q2, .int .i64 p.l0, .int .i64 p.l1, .int .i64 p.l2, .string p.img, .int .i64 p.size]] u fun e w' => (∃ b n, e = .returned (.tuple #[.agg #[.int .i64 1, .int .i64 0, .slice b 0 n], .int .i64 0])) ∧ Below u.heap.size u w' from fun u hu => by have h := adm_Decide c ⟨false, false, false⟩ (lessP p q0 q1 q2) a T.length cap T u rfl (HR.out.later hu) (by omega) HOK.out HT.out.dist HPK.out; rw [HD2.out] at h; exact h.mono (fun e w' h => ⟨⟨h.1.choose, h.1.choose_spec.choose, h.1.choose_spec.choose_spec.1⟩, h.2⟩))
    unfold InI at hin
    have hP0 := Lib.hid (show Blk W2 (w.heap.size + 1) (pkC p q0 q1 q2 0) 29 from ppB _ hbel)
    have hM0 := Lib.hid (mmB _ hbel)
    have hC0 := Lib.hid (ccB _ hbel)
    have HB0 := Lib.hid (belStep hw hbel)
    clear hq0 hq1 hq2 hD1 hr hb hc hfi hpk
    go_wp2
    clear hbel hw cc0 cc1 cc2 cc3 cc4 cc5 cc6 cc7 cc8 cc9 cc10 pp0 pp1 pp2 pp3 pp4 pp5 pp6 pp7 pp8 pp9 pp10 mm0 mm1 mm2 v10 v11 v12 ppB ppF mmB mmF ccB ccF
    go_loopw [11] (fun i wr => ∃ k : Nat, k ≤ 3 ∧ i = .int .i64 k ∧ Hid (Blk wr (w.heap.size + 1) (pkC p q0 q1 q2 k) 29) ∧ Hid (Blk wr (w.heap.size + 2) [.int .u16 ml0, .int .u16 ml1, .int .u16 ml2] 58) ∧ Hid (Blk wr w.heap.size [.int .i64 c.k0, .int .i64 c.k1, .int .i64 c.k2, .int .i64 c.a0, .int .i64 c.a1, .int .i64 c.a2, .slice c.ta c.tl c.tc, .int .i64 c.per, .int .i64 c.ret, .int .i64 c.age, .int .i64 c.dead] 25) ∧ Below w.heap.size w wr) (fun i _ => 3 - (intOf i).toNat)
    case atStart => exact ⟨0, by omega, rfl, hP0, hM0, hC0, HB0.out⟩
    case round =>
      obtain ⟨k, hk, rfl, HP, HM, HCB, hbw⟩ := hrel
      clear hP0 hM0 hC0 HB0
      have HBW := Lib.hid hbw
      generalize wr = WR at *
      have hbel : Below WR.heap.size WR WR := Below.refl _ _
      clear hbw
      have key : k = 0 ∨ k = 1 ∨ k = 2 ∨ k = 3 := by omega
      clear hk
      rcases key with rfl | rfl | rfl | rfl
      · have y0 := keep (HP.out.cell (j := 3) rfl)
        have z0 := keep (HM.out.cell (j := 0) rfl)
        have u1 : IntKind.i64.wrap ml0 = ml0 := IntWalk.i64_in _ (by omega)
        by_cases hge : ml0 ≤ p.r0
        · have hE : q0 = p.r0 - ml0 := by rw [← HQ0.out]; exact if_pos hge
          have u2 : IntKind.i64.wrap (p.r0 - ml0) = q0 := by rw [hE]; exact IntWalk.i64_in _ (by omega)
          have hd2 : decide (ml0 ≤ p.r0) = true := decide_eq_true hge
          clear hE
          go_upto_region 9 with fail
          have kk := fun d os => belStep hbel (below_regrown _ d os)
          refine wp_region_quiet_below (by kernel_rfl) (by kernel_rfl) ?_
          repeat ((with_reducible refine wpQuiet_step (fun K hK => ?_)); go_simp; (try (rw [if_neg]; rotate_left; · decide)); first | ((with_reducible refine hK _ ?_); clear hK K) | (apply Exists.intro; refine ⟨fun _ => ?_, hK _ ?_⟩; (fail); clear hK K))
          refine wpQuiet_nil (fun w1 hw1 => ?_)
          replace hbel := belStep hbel (bel_of_class hw1)
          clear hw1 kk
          go_upto_region 10 with fail
          have hP1 := HP.out.later hbel
          have hM1 := HM.out.later hbel
          have hC1 := HCB.out.later hbel
          have hb1 := HBW.out.trans (hbel.mono HBW.out.size)
          clear hbel y0 z0 HP HM HCB HBW
          have y0 := hP1.cell (j := 3) rfl
          have z0 := hM1.cell (j := 0) rfl
          have HP1 := Lib.hid (show Blk (w1.drewN 1) _ _ _ from hP1)
          have HM1 := Lib.hid (show Blk (w1.drewN 1) _ _ _ from hM1)
          have HC1 := Lib.hid (show Blk (w1.drewN 1) _ _ _ from hC1)
          have HB1 := Lib.hid (belDrewN hb1 1)
          clear hP1 hM1 hC1 hb1
          go_still_tail 12, (by kernel_rfl)
          change wpList _ _ _ _ _ (w1.drewN 1)
          clear y0 z0
          generalize w1.drewN 1 = WS at *
          have y0 := HP1.out.cell (j := 3) rfl
          have yf := HP1.out.frozen
          go_wp2
          go_roundw
          case rel => exact ⟨1, by omega, rfl, Lib.hid (HP1.out.set 3 (.int .i64 q0)), Lib.hid (HM1.out.far (a := ⟨w.heap.size + 1, 3, none⟩) (show w.heap.size + 1 ≠ w.heap.size + 2 by omega) _), Lib.hid (HC1.out.far (a := ⟨w.heap.size + 1, 3, none⟩) (show w.heap.size + 1 ≠ w.heap.size by omega) _), belSet HB1.out ⟨w.heap.size + 1, 3, none⟩ _ (by dsimp only; omega)⟩
          case measure => simp [intOf]
        · have HE : Hid (q0 = p.r0) := Lib.hid (by rw [← HQ0.out]; exact if_neg hge)
          have hd2 : decide (ml0 ≤ p.r0) = false := decide_eq_false hge
          go_upto_region 9 with fail
          have kk := fun d os => belStep hbel (below_regrown _ d os)
          refine wp_region_quiet_below (by kernel_rfl) (by kernel_rfl) ?_
          repeat ((with_reducible refine wpQuiet_step (fun K hK => ?_)); go_simp; (try (rw [if_neg]; rotate_left; · decide)); first | ((with_reducible refine hK _ ?_); clear hK K) | (apply Exists.intro; refine ⟨fun _ => ?_, hK _ ?_⟩; (fail); clear hK K))
          refine wpQuiet_nil (fun w1 hw1 => ?_)
          replace hbel := belStep hbel (bel_of_class hw1)
          clear hw1 kk
          go_wp2
          go_roundw
          case rel => exact ⟨1, by omega, rfl, Lib.hid (by have h := HP.out.later hbel; unfold pkC at h ⊢; rw [HE.out]; exact h), Lib.hid (HM.out.later hbel), Lib.hid (HCB.out.later hbel), belStep HBW.out hbel⟩
          case measure => simp [intOf]
      · have y1 := keep (HP.out.cell (j := 4) rfl)
        have z1 := keep (HM.out.cell (j := 1) rfl)
        have u1 : IntKind.i64.wrap ml1 = ml1 := IntWalk.i64_in _ (by omega)
        by_cases hge : ml1 ≤ p.r1
        · have hE : q1 = p.r1 - ml1 := by rw [← HQ1.out]; exact if_pos hge
          have u2 : IntKind.i64.wrap (p.r1 - ml1) = q1 := by rw [hE]; exact IntWalk.i64_in _ (by omega)
          have hd2 : decide (ml1 ≤ p.r1) = true := decide_eq_true hge
          clear hE
          go_upto_region 9 with fail
          have kk := fun d os => belStep hbel (below_regrown _ d os)
          refine wp_region_quiet_below (by kernel_rfl) (by kernel_rfl) ?_
          repeat ((with_reducible refine wpQuiet_step (fun K hK => ?_)); go_simp; (try (rw [if_neg]; rotate_left; · decide)); first | ((with_reducible refine hK _ ?_); clear hK K) | (apply Exists.intro; refine ⟨fun _ => ?_, hK _ ?_⟩; (fail); clear hK K))
          refine wpQuiet_nil (fun w1 hw1 => ?_)
          replace hbel := belStep hbel (bel_of_class hw1)
          clear hw1 kk
          go_upto_region 10 with fail
          have hP1 := HP.out.later hbel
          have hM1 := HM.out.later hbel
          have hC1 := HCB.out.later hbel
          have hb1 := HBW.out.trans (hbel.mono HBW.out.size)
          clear hbel y1 z1 HP HM HCB HBW
          have y1 := hP1.cell (j := 4) rfl
          have z1 := hM1.cell (j := 1) rfl
          have HP1 := Lib.hid (show Blk (w1.drewN 1) _ _ _ from hP1)
          have HM1 := Lib.hid (show Blk (w1.drewN 1) _ _ _ from hM1)
          have HC1 := Lib.hid (show Blk (w1.drewN 1) _ _ _ from hC1)
          have HB1 := Lib.hid (belDrewN hb1 1)
          clear hP1 hM1 hC1 hb1
          go_still_tail 12, (by kernel_rfl)
          change wpList _ _ _ _ _ (w1.drewN 1)
          clear y1 z1
          generalize w1.drewN 1 = WS at *
          have y1 := HP1.out.cell (j := 4) rfl
          have yf := HP1.out.frozen
          go_wp2
          go_roundw
          case rel => exact ⟨2, by omega, rfl, Lib.hid (HP1.out.set 4 (.int .i64 q1)), Lib.hid (HM1.out.far (a := ⟨w.heap.size + 1, 4, none⟩) (show w.heap.size + 1 ≠ w.heap.size + 2 by omega) _), Lib.hid (HC1.out.far (a := ⟨w.heap.size + 1, 4, none⟩) (show w.heap.size + 1 ≠ w.heap.size by omega) _), belSet HB1.out ⟨w.heap.size + 1, 4, none⟩ _ (by dsimp only; omega)⟩
          case measure => simp [intOf]
        · have HE : Hid (q1 = p.r1) := Lib.hid (by rw [← HQ1.out]; exact if_neg hge)
          have hd2 : decide (ml1 ≤ p.r1) = false := decide_eq_false hge
          go_upto_region 9 with fail
          have kk := fun d os => belStep hbel (below_regrown _ d os)
          refine wp_region_quiet_below (by kernel_rfl) (by kernel_rfl) ?_
          repeat ((with_reducible refine wpQuiet_step (fun K hK => ?_)); go_simp; (try (rw [if_neg]; rotate_left; · decide)); first | ((with_reducible refine hK _ ?_); clear hK K) | (apply Exists.intro; refine ⟨fun _ => ?_, hK _ ?_⟩; (fail); clear hK K))
          refine wpQuiet_nil (fun w1 hw1 => ?_)
          replace hbel := belStep hbel (bel_of_class hw1)
          clear hw1 kk
          go_wp2
          go_roundw
          case rel => exact ⟨2, by omega, rfl, Lib.hid (by have h := HP.out.later hbel; unfold pkC at h ⊢; rw [HE.out]; exact h), Lib.hid (HM.out.later hbel), Lib.hid (HCB.out.later hbel), belStep HBW.out hbel⟩
          case measure => simp [intOf]
      · have y2 := keep (HP.out.cell (j := 5) rfl)
        have z2 := keep (HM.out.cell (j := 2) rfl)
        have u1 : IntKind.i64.wrap ml2 = ml2 := IntWalk.i64_in _ (by omega)
        by_cases hge : ml2 ≤ p.r2
        · have hE : q2 = p.r2 - ml2 := by rw [← HQ2.out]; exact if_pos hge
          have u2 : IntKind.i64.wrap (p.r2 - ml2) = q2 := by rw [hE]; exact IntWalk.i64_in _ (by omega)
          have hd2 : decide (ml2 ≤ p.r2) = true := decide_eq_true hge
          clear hE
          go_upto_region 9 with fail
          have kk := fun d os => belStep hbel (below_regrown _ d os)
          refine wp_region_quiet_below (by kernel_rfl) (by kernel_rfl) ?_
          repeat ((with_reducible refine wpQuiet_step (fun K hK => ?_)); go_simp; (try (rw [if_neg]; rotate_left; · decide)); first | ((with_reducible refine hK _ ?_); clear hK K) | (apply Exists.intro; refine ⟨fun _ => ?_, hK _ ?_⟩; (fail); clear hK K))
          refine wpQuiet_nil (fun w1 hw1 => ?_)
          replace hbel := belStep hbel (bel_of_class hw1)
          clear hw1 kk
          go_upto_region 10 with fail
          have hP1 := HP.out.later hbel
          have hM1 := HM.out.later hbel
          have hC1 := HCB.out.later hbel
          have hb1 := HBW.out.trans (hbel.mono HBW.out.size)
          clear hbel y2 z2 HP HM HCB HBW
          have y2 := hP1.cell (j := 5) rfl
          have z2 := hM1.cell (j := 2) rfl
          have HP1 := Lib.hid (show Blk (w1.drewN 1) _ _ _ from hP1)
          have HM1 := Lib.hid (show Blk (w1.drewN 1) _ _ _ from hM1)
          have HC1 := Lib.hid (show Blk (w1.drewN 1) _ _ _ from hC1)
          have HB1 := Lib.hid (belDrewN hb1 1)
          clear hP1 hM1 hC1 hb1
          go_still_tail 12, (by kernel_rfl)
          change wpList _ _ _ _ _ (w1.drewN 1)
          clear y2 z2
          generalize w1.drewN 1 = WS at *
          have y2 := HP1.out.cell (j := 5) rfl
          have yf := HP1.out.frozen
          go_wp2
          go_roundw
          case rel => exact ⟨3, by omega, rfl, Lib.hid (HP1.out.set 5 (.int .i64 q2)), Lib.hid (HM1.out.far (a := ⟨w.heap.size + 1, 5, none⟩) (show w.heap.size + 1 ≠ w.heap.size + 2 by omega) _), Lib.hid (HC1.out.far (a := ⟨w.heap.size + 1, 5, none⟩) (show w.heap.size + 1 ≠ w.heap.size by omega) _), belSet HB1.out ⟨w.heap.size + 1, 5, none⟩ _ (by dsimp only; omega)⟩
          case measure => simp [intOf]
        · have HE : Hid (q2 = p.r2) := Lib.hid (by rw [← HQ2.out]; exact if_neg hge)
          have hd2 : decide (ml2 ≤ p.r2) = false := decide_eq_false hge
          go_upto_region 9 with fail
          have kk := fun d os => belStep hbel (below_regrown _ d os)
          refine wp_region_quiet_below (by kernel_rfl) (by kernel_rfl) ?_
          repeat ((with_reducible refine wpQuiet_step (fun K hK => ?_)); go_simp; (try (rw [if_neg]; rotate_left; · decide)); first | ((with_reducible refine hK _ ?_); clear hK K) | (apply Exists.intro; refine ⟨fun _ => ?_, hK _ ?_⟩; (fail); clear hK K))
          refine wpQuiet_nil (fun w1 hw1 => ?_)
          replace hbel := belStep hbel (bel_of_class hw1)
          clear hw1 kk
          go_wp2
          go_roundw
          case rel => exact ⟨3, by omega, rfl, Lib.hid (by have h := HP.out.later hbel; unfold pkC at h ⊢; rw [HE.out]; exact h), Lib.hid (HM.out.later hbel), Lib.hid (HCB.out.later hbel), belStep HBW.out hbel⟩
          case measure => simp [intOf]
      · have cc0 := keep (HCB.out.cell (j := 0) rfl)
        have cc1 := keep (HCB.out.cell (j := 1) rfl)
        have cc2 := keep (HCB.out.cell (j := 2) rfl)
        have cc3 := keep (HCB.out.cell (j := 3) rfl)
        have cc4 := keep (HCB.out.cell (j := 4) rfl)
        have cc5 := keep (HCB.out.cell (j := 5) rfl)
        have cc6 := keep (HCB.out.cell (j := 6) rfl)
        have cc7 := keep (HCB.out.cell (j := 7) rfl)
        have cc8 := keep (HCB.out.cell (j := 8) rfl)
        have cc9 := keep (HCB.out.cell (j := 9) rfl)
        have cc10 := keep (HCB.out.cell (j := 10) rfl)
        have pp0 := keep (HP.out.cell (j := 0) rfl)
        have pp1 := keep (HP.out.cell (j := 1) rfl)
        have pp2 := keep (HP.out.cell (j := 2) rfl)
        have pp3 := keep (HP.out.cell (j := 3) rfl)
        have pp4 := keep (HP.out.cell (j := 4) rfl)
        have pp5 := keep (HP.out.cell (j := 5) rfl)
        have pp6 := keep (HP.out.cell (j := 6) rfl)
        have pp7 := keep (HP.out.cell (j := 7) rfl)
        have pp8 := keep (HP.out.cell (j := 8) rfl)
        have pp9 := keep (HP.out.cell (j := 9) rfl)
        have pp10 := keep (HP.out.cell (j := 10) rfl)
        clear HP HM HCB
        go_wp2_with (go_at_call 14; (with_reducible refine (CD2.out _ (belStep HBW.out hbel)).mono ?_); rintro e u2 ⟨⟨b2, n2, rfl⟩, hb2⟩; replace hbel := belStep hbel hb2)
        go_ret
        exact ⟨rfl, by repeat (first | exact belStep HBW.out hbel | refine belAlloc ?_ _)⟩
  · clear hD1 hr hb hc hl
    go_wp2
    go_ret
    exact ⟨rfl, belStep hw hbel⟩

set_option maxRecDepth 100000 in
theorem lifted (os : Os) (started : os.Started) (H : Type) (enc : TypeId × Value → H) :
    ReturnsInHanded {} Try.checked os 8 .any (Rows.admitLessSpec.pre6 enc Try.prog Try.f8 Rows.admitLessRow.domain false) (Rows.admitLessSpec.post enc Try.prog Try.f8 false true false false) := by
  refine returnsInHanded_of_change (C := Try.checked) own started (by kernel_rfl) Try.func8
    (ChangeSpec.witness6 (enc := enc) (C := Try.checked) false ⟨#[], #[.agg #[.int .i64 0, .int .i64 0, .int .i64 0, .int .i64 0, .int .i64 0, .int .i64 0, .slice none 0 0, .int .i64 0, .int .i64 0, .int .i64 0, .int .i64 0], .slice none 0 0, .agg #[.string ByteArray.empty, .int .i64 0, .bool false, .int .i64 0, .int .i64 0, .int .i64 0, .int .i64 0, .int .i64 0, .int .i64 0, .string ByteArray.empty, .int .i64 0], .agg #[.int .u16 0, .int .u16 0, .int .u16 0]], []⟩ 8 (by kernel_rfl) (by kernel_rfl) (by kernel_rfl) (by kernel_rfl)) ?_
  intro W base args ds gs before hval0 hW hcnd _
  have hval : ∀ (j : Nat) t v, Try.f8.params[j]? = some t → args[j]? = some v → Value.okWide Try.prog W .any base t v := hval0
  have hW' := hW
  obtain ⟨p, q, hA0, hV, rfl, hfz, hnd⟩ := hW
  have hA : DataW.TrodAll enc Try.prog W 0 (fun _ => true) true Try.f8.params.toList args.toList ds p := hA0
  rw [Try.params8] at hA hval
  obtain ⟨v0, vs0, d0, ds0, p0, q0, hargs, rfl, rfl, h0, r0⟩ := trodAll_cons hA
  obtain ⟨v1, vs1, d1, ds1, p1, q1, rfl, rfl, rfl, h1, r1⟩ := trodAll_cons r0
  obtain ⟨v2, vs2, d2, ds2, p2, q2, rfl, rfl, rfl, h2, r2⟩ := trodAll_cons r1
  obtain ⟨v3, vs3, d3, ds3, p3, q3, rfl, rfl, rfl, h3, r3⟩ := trodAll_cons r2
  obtain ⟨rfl, rfl, rfl⟩ := trodAll_nil r3
  obtain rfl : args = #[v0, v1, v2, v3] := by cases args; simp_all
  obtain ⟨rfl, rfl⟩ := trodVars_none hV
  have k0 := h0
  have lt0 : ∀ x ∈ p0, x.block < W.heap.size := by obtain ⟨m, hm⟩ := k0; exact DataW.trod_lt m _ _ _ hm
  have o0 : Value.okWide Try.prog W .any base 25 v0 := hval 0 25 v0 rfl rfl
  obtain ⟨c0, rfl, hc0⟩ := open_cfg o0 h0
  have k1 := h1
  have lt1 : ∀ x ∈ p1, x.block < W.heap.size := by obtain ⟨m, hm⟩ := k1; exact DataW.trod_lt m _ _ _ hm
  have o1 : Value.okWide Try.prog W .any base 26 v1 := hval 1 26 v1 rfl rfl
  obtain ⟨a1, len1, cap1, T1, rfl, f1, g1, i1⟩ := open_ents o1 h1
  have k2 := h2
  have lt2 : ∀ x ∈ p2, x.block < W.heap.size := by obtain ⟨m, hm⟩ := k2; exact DataW.trod_lt m _ _ _ hm
  have o2 : Value.okWide Try.prog W .any base 29 v2 := hval 2 29 v2 rfl rfl
  obtain ⟨p2, rfl, f2⟩ := open_pod o2 h2
  have k3 := h3
  have lt3 : ∀ x ∈ p3, x.block < W.heap.size := by obtain ⟨m, hm⟩ := k3; exact DataW.trod_lt m _ _ _ hm
  have o3 : Value.okWide Try.prog W .any base 58 v3 := hval 3 58 v3 rfl rfl
  obtain ⟨p3, q3, s3, rfl, k13, k23, k33⟩ := open_three16 o3 h3
  clear hA0 hval0
  refine (walk c0 a1 len1 cap1 T1 p2 p3 q3 s3 W hc0 f1 g1 i1 f2 k13 k23 k33).mono fun e W' ⟨he, bel⟩ => ?_
  subst he
  exact ⟨_, rfl, _, _, _, [], _, [], hW', trodAll_mk1 (shut_bool Try.underlying4 _), (trodAll_cons_mk (Below.trod laidOut (by kernel_rfl) (of_decide_eq_true (by kernel_rfl)) k0 bel lt0) (trodAll_cons_mk (Below.trod laidOut (by kernel_rfl) (of_decide_eq_true (by kernel_rfl)) k1 bel lt1) (trodAll_cons_mk (Below.trod laidOut (by kernel_rfl) (of_decide_eq_true (by kernel_rfl)) k2 bel lt2) (trodAll_cons_mk (Below.trod laidOut (by kernel_rfl) (of_decide_eq_true (by kernel_rfl)) k3 bel lt3) trodAll_mk0)))), rfl, bel.frame _, fun h => by cases h⟩

theorem over : Rows.admitLessRow.holds Try.pinned (OpenSpec.ofChange Rows.admitLessSpec) :=
  OpenClaim.holds_of_wide 8 Try.f8 rfl rfl rfl rfl rfl rfl rfl ⟨rfl, rfl, rfl, rfl, rfl⟩ rfl rfl rfl rfl rfl (by kernel_rfl) Try.func8 (by kernel_rfl)
    (of_decide_eq_true (by kernel_rfl)) (by unfold Func.isWrapper; first | (rw [if_pos (by decide +kernel)]; kernel_rfl) | (rw [if_neg (by decide +kernel)]; exact ⟨rfl, rfl⟩))
    (fun os started H enc _ => lifted os started H enc)

/-- The statement. -/
theorem proved : Rows.AdmitLessSaid := over
#print axioms proved

end Go.Proofs.Ytafojeeehehplaa.admitLess
