/- AdmitBars holds for all its arguments. No conditions. -/
import Derived.Test.YtafojeeehehplaaAdmLM
namespace Go.Proofs.Ytafojeeehehplaa.admitBars
open Go.ChangeShapes Go.WideShapes Go.ChangeAt Go.RowKit
open Go.ChangeMaps (open_string shut_string)
set_option linter.unusedVariables false
set_option linter.unusedSimpArgs false
theorem eq3_any (e : Nat) (a b c x y z : Int) (v : World) : (Op.equalIn (e + 2) 22 (.agg #[.int .i64 a, .int .i64 b, .int .i64 c]) (.agg #[.int .i64 x, .int .i64 y, .int .i64 z])).run Try.prog v = .ok (a == x && (b == y && c == z)) v := by
  rw [Op.equalIn]
  simp [run_underlying Try.underlying22, go_sem]
  rw [show List.range' 0 3 = [0, 1, 2] from rfl]
  rcases Int.decEq a x with h1 | h1 <;> rcases Int.decEq b y with h2 | h2 <;> rcases Int.decEq c z with h3 | h3 <;> simp [List.forIn_cons, go_sem, h1, h2, h3]
theorem class3 (p : PodV) : (classP p == 3) = ((p.r0 == 0 && (p.r1 == 0 && p.r2 == 0)) && (p.l0 == 0 && (p.l1 == 0 && p.l2 == 0))) := by
  unfold classP classI zeroes
  cases h0 : p.r0 == 0 <;> cases h1 : p.r1 == 0 <;> cases h2 : p.r2 == 0 <;> cases h3 : p.l0 == 0 <;> cases h4 : p.l1 == 0 <;> cases h5 : p.l2 == 0 <;> simp <;> split <;> omega
theorem bar0 (p : PodV) : barredF ⟨false, false, false⟩ p = none := by unfold barredF; cases p.crit <;> rfl
theorem room_kind (R : Room) (T : List EntV) (p : PodV) : (roomF R T p).kind ≠ 3 := by
  unfold roomF
  cases chooseF R (podsOf T) p with
  | none => simp
  | some G => by_cases h : G.length = 0 <;> simp [h]
set_option maxRecDepth 100000 in
set_option maxHeartbeats 16000000 in
theorem walk (c : CfgV) (a : Option Addr) (len cap : Nat) (T : List EntV) (p : PodV) (w : World) (hc : c.ok w) (hl : T.length = len) (hok : ∀ x ∈ T, x.ok) (hR : Row w a len cap 12 (T.flatMap EntV.cells)) (hp : p.ok) :
    Calls Try.prog 6 #[.agg #[.int .i64 c.k0, .int .i64 c.k1, .int .i64 c.k2, .int .i64 c.a0, .int .i64 c.a1, .int .i64 c.a2, .slice c.ta c.tl c.tc, .int .i64 c.per, .int .i64 c.ret, .int .i64 c.age, .int .i64 c.dead], .slice a len cap, p.v] w fun e w' => e = .returned (.bool true) ∧ Below w.heap.size w w' := by
  unfold PodV.v
  have hw : Below w.heap.size w w := Below.refl _ _
  have hbel := hw
  have hbd_t : len ≤ cap ∧ cap ≤ 9223372036854775807 := by obtain ⟨_, h1, h2, _⟩ := hR; unfold maxLen at h2; exact ⟨h1, h2⟩
  obtain ⟨hbd1_t, hbd2_t⟩ := hbd_t
  have HR := Lib.hid hR
  have HOK := Lib.hid hok
  have HPO := Lib.hid hp
  have HCO := Lib.hid hc
  subst hl
  have CRT := Lib.hid (fun v (hv : Below w.heap.size w v) => ref7_Right c v (hc.later hv))
  have CFT := Lib.hid (fun v (hv : Below w.heap.size w v) => rref_Fit a T.length cap T v rfl hok (HR.out.later hv))
  obtain ⟨sm, hsm⟩ : ∃ b, smallB p = b := ⟨_, rfl⟩
  have CSM := Lib.hid (fun v => hsm ▸ pref_Small p v hp)
  clear hsm hR hok hp hc
  go_enter Try.func6, Try.ntmps6
  go_upto_region 1 with fail
  have cc0 : ((w.alloc (.cells #[.int .i64 c.k0, .int .i64 c.k1, .int .i64 c.k2, .int .i64 c.a0, .int .i64 c.a1, .int .i64 c.a2, .slice c.ta c.tl c.tc, .int .i64 c.per, .int .i64 c.ret, .int .i64 c.age, .int .i64 c.dead] 25)).alloc (.cells #[.string p.id, .int .i64 p.prio, .bool p.crit, .int .i64 p.r0, .int .i64 p.r1, .int .i64 p.r2, .int .i64 p.l0, .int .i64 p.l1, .int .i64 p.l2, .string p.img, .int .i64 p.size] 29)).cell? ⟨w.heap.size, 0, none⟩ = some (.int .i64 c.k0) := by first | (simp; done) | (rw [World.cell?_alloc_at _ _ _ _ (by simp)]; rfl) | (rw [World.cell?_alloc_past _ _ _ (by simp <;> omega), World.cell?_alloc_at _ _ _ _ (by simp)]; rfl) | (rw [World.cell?_alloc_past _ _ _ (by simp <;> omega), World.cell?_alloc_past _ _ _ (by simp <;> omega), World.cell?_alloc_at _ _ _ _ (by simp)]; rfl)
  have cc1 : ((w.alloc (.cells #[.int .i64 c.k0, .int .i64 c.k1, .int .i64 c.k2, .int .i64 c.a0, .int .i64 c.a1, .int .i64 c.a2, .slice c.ta c.tl c.tc, .int .i64 c.per, .int .i64 c.ret, .int .i64 c.age, .int .i64 c.dead] 25)).alloc (.cells #[.string p.id, .int .i64 p.prio, .bool p.crit, .int .i64 p.r0, .int .i64 p.r1, .int .i64 p.r2, .int .i64 p.l0, .int .i64 p.l1, .int .i64 p.l2, .string p.img, .int .i64 p.size] 29)).cell? ⟨w.heap.size, 1, none⟩ = some (.int .i64 c.k1) := by first | (simp; done) | (rw [World.cell?_alloc_at _ _ _ _ (by simp)]; rfl) | (rw [World.cell?_alloc_past _ _ _ (by simp <;> omega), World.cell?_alloc_at _ _ _ _ (by simp)]; rfl) | (rw [World.cell?_alloc_past _ _ _ (by simp <;> omega), World.cell?_alloc_past _ _ _ (by simp <;> omega), World.cell?_alloc_at _ _ _ _ (by simp)]; rfl)
  have cc2 : ((w.alloc (.cells #[.int .i64 c.k0, .int .i64 c.k1, .int .i64 c.k2, .int .i64 c.a0, .int .i64 c.a1, .int .i64 c.a2, .slice c.ta c.tl c.tc, .int .i64 c.per, .int .i64 c.ret, .int .i64 c.age, .int .i64 c.dead] 25)).alloc (.cells #[.string p.id, .int .i64 p.prio, .bool p.crit, .int .i64 p.r0, .int .i64 p.r1, .int .i64 p.r2, .int .i64 p.l0, .int .i64 p.l1, .int .i64 p.l2, .string p.img, .int .i64 p.size] 29)).cell? ⟨w.heap.size, 2, none⟩ = some (.int .i64 c.k2) := by first | (simp; done) | (rw [World.cell?_alloc_at _ _ _ _ (by simp)]; rfl) | (rw [World.cell?_alloc_past _ _ _ (by simp <;> omega), World.cell?_alloc_at _ _ _ _ (by simp)]; rfl) | (rw [World.cell?_alloc_past _ _ _ (by simp <;> omega), World.cell?_alloc_past _ _ _ (by simp <;> omega), World.cell?_alloc_at _ _ _ _ (by simp)]; rfl)
  have cc3 : ((w.alloc (.cells #[.int .i64 c.k0, .int .i64 c.k1, .int .i64 c.k2, .int .i64 c.a0, .int .i64 c.a1, .int .i64 c.a2, .slice c.ta c.tl c.tc, .int .i64 c.per, .int .i64 c.ret, .int .i64 c.age, .int .i64 c.dead] 25)).alloc (.cells #[.string p.id, .int .i64 p.prio, .bool p.crit, .int .i64 p.r0, .int .i64 p.r1, .int .i64 p.r2, .int .i64 p.l0, .int .i64 p.l1, .int .i64 p.l2, .string p.img, .int .i64 p.size] 29)).cell? ⟨w.heap.size, 3, none⟩ = some (.int .i64 c.a0) := by first | (simp; done) | (rw [World.cell?_alloc_at _ _ _ _ (by simp)]; rfl) | (rw [World.cell?_alloc_past _ _ _ (by simp <;> omega), World.cell?_alloc_at _ _ _ _ (by simp)]; rfl) | (rw [World.cell?_alloc_past _ _ _ (by simp <;> omega), World.cell?_alloc_past _ _ _ (by simp <;> omega), World.cell?_alloc_at _ _ _ _ (by simp)]; rfl)
  have cc4 : ((w.alloc (.cells #[.int .i64 c.k0, .int .i64 c.k1, .int .i64 c.k2, .int .i64 c.a0, .int .i64 c.a1, .int .i64 c.a2, .slice c.ta c.tl c.tc, .int .i64 c.per, .int .i64 c.ret, .int .i64 c.age, .int .i64 c.dead] 25)).alloc (.cells #[.string p.id, .int .i64 p.prio, .bool p.crit, .int .i64 p.r0, .int .i64 p.r1, .int .i64 p.r2, .int .i64 p.l0, .int .i64 p.l1, .int .i64 p.l2, .string p.img, .int .i64 p.size] 29)).cell? ⟨w.heap.size, 4, none⟩ = some (.int .i64 c.a1) := by first | (simp; done) | (rw [World.cell?_alloc_at _ _ _ _ (by simp)]; rfl) | (rw [World.cell?_alloc_past _ _ _ (by simp <;> omega), World.cell?_alloc_at _ _ _ _ (by simp)]; rfl) | (rw [World.cell?_alloc_past _ _ _ (by simp <;> omega), World.cell?_alloc_past _ _ _ (by simp <;> omega), World.cell?_alloc_at _ _ _ _ (by simp)]; rfl)
  have cc5 : ((w.alloc (.cells #[.int .i64 c.k0, .int .i64 c.k1, .int .i64 c.k2, .int .i64 c.a0, .int .i64 c.a1, .int .i64 c.a2, .slice c.ta c.tl c.tc, .int .i64 c.per, .int .i64 c.ret, .int .i64 c.age, .int .i64 c.dead] 25)).alloc (.cells #[.string p.id, .int .i64 p.prio, .bool p.crit, .int .i64 p.r0, .int .i64 p.r1, .int .i64 p.r2, .int .i64 p.l0, .int .i64 p.l1, .int .i64 p.l2, .string p.img, .int .i64 p.size] 29)).cell? ⟨w.heap.size, 5, none⟩ = some (.int .i64 c.a2) := by first | (simp; done) | (rw [World.cell?_alloc_at _ _ _ _ (by simp)]; rfl) | (rw [World.cell?_alloc_past _ _ _ (by simp <;> omega), World.cell?_alloc_at _ _ _ _ (by simp)]; rfl) | (rw [World.cell?_alloc_past _ _ _ (by simp <;> omega), World.cell?_alloc_past _ _ _ (by simp <;> omega), World.cell?_alloc_at _ _ _ _ (by simp)]; rfl)
  have cc6 : ((w.alloc (.cells #[.int .i64 c.k0, .int .i64 c.k1, .int .i64 c.k2, .int .i64 c.a0, .int .i64 c.a1, .int .i64 c.a2, .slice c.ta c.tl c.tc, .int .i64 c.per, .int .i64 c.ret, .int .i64 c.age, .int .i64 c.dead] 25)).alloc (.cells #[.string p.id, .int .i64 p.prio, .bool p.crit, .int .i64 p.r0, .int .i64 p.r1, .int .i64 p.r2, .int .i64 p.l0, .int .i64 p.l1, .int .i64 p.l2, .string p.img, .int .i64 p.size] 29)).cell? ⟨w.heap.size, 6, none⟩ = some (.slice c.ta c.tl c.tc) := by first | (simp; done) | (rw [World.cell?_alloc_at _ _ _ _ (by simp)]; rfl) | (rw [World.cell?_alloc_past _ _ _ (by simp <;> omega), World.cell?_alloc_at _ _ _ _ (by simp)]; rfl) | (rw [World.cell?_alloc_past _ _ _ (by simp <;> omega), World.cell?_alloc_past _ _ _ (by simp <;> omega), World.cell?_alloc_at _ _ _ _ (by simp)]; rfl)
  have cc7 : ((w.alloc (.cells #[.int .i64 c.k0, .int .i64 c.k1, .int .i64 c.k2, .int .i64 c.a0, .int .i64 c.a1, .int .i64 c.a2, .slice c.ta c.tl c.tc, .int .i64 c.per, .int .i64 c.ret, .int .i64 c.age, .int .i64 c.dead] 25)).alloc (.cells #[.string p.id, .int .i64 p.prio, .bool p.crit, .int .i64 p.r0, .int .i64 p.r1, .int .i64 p.r2, .int .i64 p.l0, .int .i64 p.l1, .int .i64 p.l2, .string p.img, .int .i64 p.size] 29)).cell? ⟨w.heap.size, 7, none⟩ = some (.int .i64 c.per) := by first | (simp; done) | (rw [World.cell?_alloc_at _ _ _ _ (by simp)]; rfl) | (rw [World.cell?_alloc_past _ _ _ (by simp <;> omega), World.cell?_alloc_at _ _ _ _ (by simp)]; rfl) | (rw [World.cell?_alloc_past _ _ _ (by simp <;> omega), World.cell?_alloc_past _ _ _ (by simp <;> omega), World.cell?_alloc_at _ _ _ _ (by simp)]; rfl)
  have cc8 : ((w.alloc (.cells #[.int .i64 c.k0, .int .i64 c.k1, .int .i64 c.k2, .int .i64 c.a0, .int .i64 c.a1, .int .i64 c.a2, .slice c.ta c.tl c.tc, .int .i64 c.per, .int .i64 c.ret, .int .i64 c.age, .int .i64 c.dead] 25)).alloc (.cells #[.string p.id, .int .i64 p.prio, .bool p.crit, .int .i64 p.r0, .int .i64 p.r1, .int .i64 p.r2, .int .i64 p.l0, .int .i64 p.l1, .int .i64 p.l2, .string p.img, .int .i64 p.size] 29)).cell? ⟨w.heap.size, 8, none⟩ = some (.int .i64 c.ret) := by first | (simp; done) | (rw [World.cell?_alloc_at _ _ _ _ (by simp)]; rfl) | (rw [World.cell?_alloc_past _ _ _ (by simp <;> omega), World.cell?_alloc_at _ _ _ _ (by simp)]; rfl) | (rw [World.cell?_alloc_past _ _ _ (by simp <;> omega), World.cell?_alloc_past _ _ _ (by simp <;> omega), World.cell?_alloc_at _ _ _ _ (by simp)]; rfl)
  have cc9 : ((w.alloc (.cells #[.int .i64 c.k0, .int .i64 c.k1, .int .i64 c.k2, .int .i64 c.a0, .int .i64 c.a1, .int .i64 c.a2, .slice c.ta c.tl c.tc, .int .i64 c.per, .int .i64 c.ret, .int .i64 c.age, .int .i64 c.dead] 25)).alloc (.cells #[.string p.id, .int .i64 p.prio, .bool p.crit, .int .i64 p.r0, .int .i64 p.r1, .int .i64 p.r2, .int .i64 p.l0, .int .i64 p.l1, .int .i64 p.l2, .string p.img, .int .i64 p.size] 29)).cell? ⟨w.heap.size, 9, none⟩ = some (.int .i64 c.age) := by first | (simp; done) | (rw [World.cell?_alloc_at _ _ _ _ (by simp)]; rfl) | (rw [World.cell?_alloc_past _ _ _ (by simp <;> omega), World.cell?_alloc_at _ _ _ _ (by simp)]; rfl) | (rw [World.cell?_alloc_past _ _ _ (by simp <;> omega), World.cell?_alloc_past _ _ _ (by simp <;> omega), World.cell?_alloc_at _ _ _ _ (by simp)]; rfl)
  have cc10 : ((w.alloc (.cells #[.int .i64 c.k0, .int .i64 c.k1, .int .i64 c.k2, .int .i64 c.a0, .int .i64 c.a1, .int .i64 c.a2, .slice c.ta c.tl c.tc, .int .i64 c.per, .int .i64 c.ret, .int .i64 c.age, .int .i64 c.dead] 25)).alloc (.cells #[.string p.id, .int .i64 p.prio, .bool p.crit, .int .i64 p.r0, .int .i64 p.r1, .int .i64 p.r2, .int .i64 p.l0, .int .i64 p.l1, .int .i64 p.l2, .string p.img, .int .i64 p.size] 29)).cell? ⟨w.heap.size, 10, none⟩ = some (.int .i64 c.dead) := by first | (simp; done) | (rw [World.cell?_alloc_at _ _ _ _ (by simp)]; rfl) | (rw [World.cell?_alloc_past _ _ _ (by simp <;> omega), World.cell?_alloc_at _ _ _ _ (by simp)]; rfl) | (rw [World.cell?_alloc_past _ _ _ (by simp <;> omega), World.cell?_alloc_past _ _ _ (by simp <;> omega), World.cell?_alloc_at _ _ _ _ (by simp)]; rfl)
  have pp0 : ((w.alloc (.cells #[.int .i64 c.k0, .int .i64 c.k1, .int .i64 c.k2, .int .i64 c.a0, .int .i64 c.a1, .int .i64 c.a2, .slice c.ta c.tl c.tc, .int .i64 c.per, .int .i64 c.ret, .int .i64 c.age, .int .i64 c.dead] 25)).alloc (.cells #[.string p.id, .int .i64 p.prio, .bool p.crit, .int .i64 p.r0, .int .i64 p.r1, .int .i64 p.r2, .int .i64 p.l0, .int .i64 p.l1, .int .i64 p.l2, .string p.img, .int .i64 p.size] 29)).cell? ⟨w.heap.size + 1, 0, none⟩ = some (.string p.id) := by first | (simp; done) | (rw [World.cell?_alloc_at _ _ _ _ (by simp)]; rfl) | (rw [World.cell?_alloc_past _ _ _ (by simp <;> omega), World.cell?_alloc_at _ _ _ _ (by simp)]; rfl) | (rw [World.cell?_alloc_past _ _ _ (by simp <;> omega), World.cell?_alloc_past _ _ _ (by simp <;> omega), World.cell?_alloc_at _ _ _ _ (by simp)]; rfl)
  have pp1 : ((w.alloc (.cells #[.int .i64 c.k0, .int .i64 c.k1, .int .i64 c.k2, .int .i64 c.a0, .int .i64 c.a1, .int .i64 c.a2, .slice c.ta c.tl c.tc, .int .i64 c.per, .int .i64 c.ret, .int .i64 c.age, .int .i64 c.dead] 25)).alloc (.cells #[.string p.id, .int .i64 p.prio, .bool p.crit, .int .i64 p.r0, .int .i64 p.r1, .int .i64 p.r2, .int .i64 p.l0, .int .i64 p.l1, .int .i64 p.l2, .string p.img, .int .i64 p.size] 29)).cell? ⟨w.heap.size + 1, 1, none⟩ = some (.int .i64 p.prio) := by first | (simp; done) | (rw [World.cell?_alloc_at _ _ _ _ (by simp)]; rfl) | (rw [World.cell?_alloc_past _ _ _ (by simp <;> omega), World.cell?_alloc_at _ _ _ _ (by simp)]; rfl) | (rw [World.cell?_alloc_past _ _ _ (by simp <;> omega), World.cell?_alloc_past _ _ _ (by simp <;> omega), World.cell?_alloc_at _ _ _ _ (by simp)]; rfl)
  have pp2 : ((w.alloc (.cells #[.int .i64 c.k0, .int .i64 c.k1, .int .i64 c.k2, .int .i64 c.a0, .int .i64 c.a1, .int .i64 c.a2, .slice c.ta c.tl c.tc, .int .i64 c.per, .int .i64 c.ret, .int .i64 c.age, .int .i64 c.dead] 25)).alloc (.cells #[.string p.id, .int .i64 p.prio, .bool p.crit, .int .i64 p.r0, .int .i64 p.r1, .int .i64 p.r2, .int .i64 p.l0, .int .i64 p.l1, .int .i64 p.l2, .string p.img, .int .i64 p.size] 29)).cell? ⟨w.heap.size + 1, 2, none⟩ = some (.bool p.crit) := by first | (simp; done) | (rw [World.cell?_alloc_at _ _ _ _ (by simp)]; rfl) | (rw [World.cell?_alloc_past _ _ _ (by simp <;> omega), World.cell?_alloc_at _ _ _ _ (by simp)]; rfl) | (rw [World.cell?_alloc_past _ _ _ (by simp <;> omega), World.cell?_alloc_past _ _ _ (by simp <;> omega), World.cell?_alloc_at _ _ _ _ (by simp)]; rfl)
  have pp3 : ((w.alloc (.cells #[.int .i64 c.k0, .int .i64 c.k1, .int .i64 c.k2, .int .i64 c.a0, .int .i64 c.a1, .int .i64 c.a2, .slice c.ta c.tl c.tc, .int .i64 c.per, .int .i64 c.ret, .int .i64 c.age, .int .i64 c.dead] 25)).alloc (.cells #[.string p.id, .int .i64 p.prio, .bool p.crit, .int .i64 p.r0, .int .i64 p.r1, .int .i64 p.r2, .int .i64 p.l0, .int .i64 p.l1, .int .i64 p.l2, .string p.img, .int .i64 p.size] 29)).cell? ⟨w.heap.size + 1, 3, none⟩ = some (.int .i64 p.r0) := by first | (simp; done) | (rw [World.cell?_alloc_at _ _ _ _ (by simp)]; rfl) | (rw [World.cell?_alloc_past _ _ _ (by simp <;> omega), World.cell?_alloc_at _ _ _ _ (by simp)]; rfl) | (rw [World.cell?_alloc_past _ _ _ (by simp <;> omega), World.cell?_alloc_past _ _ _ (by simp <;> omega), World.cell?_alloc_at _ _ _ _ (by simp)]; rfl)
  have pp4 : ((w.alloc (.cells #[.int .i64 c.k0, .int .i64 c.k1, .int .i64 c.k2, .int .i64 c.a0, .int .i64 c.a1, .int .i64 c.a2, .slice c.ta c.tl c.tc, .int .i64 c.per, .int .i64 c.ret, .int .i64 c.age, .int .i64 c.dead] 25)).alloc (.cells #[.string p.id, .int .i64 p.prio, .bool p.crit, .int .i64 p.r0, .int .i64 p.r1, .int .i64 p.r2, .int .i64 p.l0, .int .i64 p.l1, .int .i64 p.l2, .string p.img, .int .i64 p.size] 29)).cell? ⟨w.heap.size + 1, 4, none⟩ = some (.int .i64 p.r1) := by first | (simp; done) | (rw [World.cell?_alloc_at _ _ _ _ (by simp)]; rfl) | (rw [World.cell?_alloc_past _ _ _ (by simp <;> omega), World.cell?_alloc_at _ _ _ _ (by simp)]; rfl) | (rw [World.cell?_alloc_past _ _ _ (by simp <;> omega), World.cell?_alloc_past _ _ _ (by simp <;> omega), World.cell?_alloc_at _ _ _ _ (by simp)]; rfl)
  have pp5 : ((w.alloc (.cells #[.int .i64 c.k0, .int .i64 c.k1, .int .i64 c.k2, .int .i64 c.a0, .int .i64 c.a1, .int .i64 c.a2, .slice c.ta c.tl c.tc, .int .i64 c.per, .int .i64 c.ret, .int .i64 c.age, .int .i64 c.dead] 25)).alloc (.cells #[.string p.id, .int .i64 p.prio, .bool p.crit, .int .i64 p.r0, .int .i64 p.r1, .int .i64 p.r2, .int .i64 p.l0, .int .i64 p.l1, .int .i64 p.l2, .string p.img, .int .i64 p.size] 29)).cell? ⟨w.heap.size + 1, 5, none⟩ = some (.int .i64 p.r2) := by first | (simp; done) | (rw [World.cell?_alloc_at _ _ _ _ (by simp)]; rfl) | (rw [World.cell?_alloc_past _ _ _ (by simp <;> omega), World.cell?_alloc_at _ _ _ _ (by simp)]; rfl) | (rw [World.cell?_alloc_past _ _ _ (by simp <;> omega), World.cell?_alloc_past _ _ _ (by simp <;> omega), World.cell?_alloc_at _ _ _ _ (by simp)]; rfl)
  have pp6 : ((w.alloc (.cells #[.int .i64 c.k0, .int .i64 c.k1, .int .i64 c.k2, .int .i64 c.a0, .int .i64 c.a1, .int .i64 c.a2, .slice c.ta c.tl c.tc, .int .i64 c.per, .int .i64 c.ret, .int .i64 c.age, .int .i64 c.dead] 25)).alloc (.cells #[.string p.id, .int .i64 p.prio, .bool p.crit, .int .i64 p.r0, .int .i64 p.r1, .int .i64 p.r2, .int .i64 p.l0, .int .i64 p.l1, .int .i64 p.l2, .string p.img, .int .i64 p.size] 29)).cell? ⟨w.heap.size + 1, 6, none⟩ = some (.int .i64 p.l0) := by first | (simp; done) | (rw [World.cell?_alloc_at _ _ _ _ (by simp)]; rfl) | (rw [World.cell?_alloc_past _ _ _ (by simp <;> omega), World.cell?_alloc_at _ _ _ _ (by simp)]; rfl) | (rw [World.cell?_alloc_past _ _ _ (by simp <;> omega), World.cell?_alloc_past _ _ _ (by simp <;> omega), World.cell?_alloc_at _ _ _ _ (by simp)]; rfl)
  have pp7 : ((w.alloc (.cells #[.int .i64 c.k0, .int .i64 c.k1, .int .i64 c.k2, .int .i64 c.a0, .int .i64 c.a1, .int .i64 c.a2, .slice c.ta c.tl c.tc, .int .i64 c.per, .int .i64 c.ret, .int .i64 c.age, .int .i64 c.dead] 25)).alloc (.cells #[.string p.id, .int .i64 p.prio, .bool p.crit, .int .i64 p.r0, .int .i64 p.r1, .int .i64 p.r2, .int .i64 p.l0, .int .i64 p.l1, .int .i64 p.l2, .string p.img, .int .i64 p.size] 29)).cell? ⟨w.heap.size + 1, 7, none⟩ = some (.int .i64 p.l1) := by first | (simp; done) | (rw [World.cell?_alloc_at _ _ _ _ (by simp)]; rfl) | (rw [World.cell?_alloc_past _ _ _ (by simp <;> omega), World.cell?_alloc_at _ _ _ _ (by simp)]; rfl) | (rw [World.cell?_alloc_past _ _ _ (by simp <;> omega), World.cell?_alloc_past _ _ _ (by simp <;> omega), World.cell?_alloc_at _ _ _ _ (by simp)]; rfl)
  have pp8 : ((w.alloc (.cells #[.int .i64 c.k0, .int .i64 c.k1, .int .i64 c.k2, .int .i64 c.a0, .int .i64 c.a1, .int .i64 c.a2, .slice c.ta c.tl c.tc, .int .i64 c.per, .int .i64 c.ret, .int .i64 c.age, .int .i64 c.dead] 25)).alloc (.cells #[.string p.id, .int .i64 p.prio, .bool p.crit, .int .i64 p.r0, .int .i64 p.r1, .int .i64 p.r2, .int .i64 p.l0, .int .i64 p.l1, .int .i64 p.l2, .string p.img, .int .i64 p.size] 29)).cell? ⟨w.heap.size + 1, 8, none⟩ = some (.int .i64 p.l2) := by first | (simp; done) | (rw [World.cell?_alloc_at _ _ _ _ (by simp)]; rfl) | (rw [World.cell?_alloc_past _ _ _ (by simp <;> omega), World.cell?_alloc_at _ _ _ _ (by simp)]; rfl) | (rw [World.cell?_alloc_past _ _ _ (by simp <;> omega), World.cell?_alloc_past _ _ _ (by simp <;> omega), World.cell?_alloc_at _ _ _ _ (by simp)]; rfl)
  have pp9 : ((w.alloc (.cells #[.int .i64 c.k0, .int .i64 c.k1, .int .i64 c.k2, .int .i64 c.a0, .int .i64 c.a1, .int .i64 c.a2, .slice c.ta c.tl c.tc, .int .i64 c.per, .int .i64 c.ret, .int .i64 c.age, .int .i64 c.dead] 25)).alloc (.cells #[.string p.id, .int .i64 p.prio, .bool p.crit, .int .i64 p.r0, .int .i64 p.r1, .int .i64 p.r2, .int .i64 p.l0, .int .i64 p.l1, .int .i64 p.l2, .string p.img, .int .i64 p.size] 29)).cell? ⟨w.heap.size + 1, 9, none⟩ = some (.string p.img) := by first | (simp; done) | (rw [World.cell?_alloc_at _ _ _ _ (by simp)]; rfl) | (rw [World.cell?_alloc_past _ _ _ (by simp <;> omega), World.cell?_alloc_at _ _ _ _ (by simp)]; rfl) | (rw [World.cell?_alloc_past _ _ _ (by simp <;> omega), World.cell?_alloc_past _ _ _ (by simp <;> omega), World.cell?_alloc_at _ _ _ _ (by simp)]; rfl)
  have pp10 : ((w.alloc (.cells #[.int .i64 c.k0, .int .i64 c.k1, .int .i64 c.k2, .int .i64 c.a0, .int .i64 c.a1, .int .i64 c.a2, .slice c.ta c.tl c.tc, .int .i64 c.per, .int .i64 c.ret, .int .i64 c.age, .int .i64 c.dead] 25)).alloc (.cells #[.string p.id, .int .i64 p.prio, .bool p.crit, .int .i64 p.r0, .int .i64 p.r1, .int .i64 p.r2, .int .i64 p.l0, .int .i64 p.l1, .int .i64 p.l2, .string p.img, .int .i64 p.size] 29)).cell? ⟨w.heap.size + 1, 10, none⟩ = some (.int .i64 p.size) := by first | (simp; done) | (rw [World.cell?_alloc_at _ _ _ _ (by simp)]; rfl) | (rw [World.cell?_alloc_past _ _ _ (by simp <;> omega), World.cell?_alloc_at _ _ _ _ (by simp)]; rfl) | (rw [World.cell?_alloc_past _ _ _ (by simp <;> omega), World.cell?_alloc_past _ _ _ (by simp <;> omega), World.cell?_alloc_at _ _ _ _ (by simp)]; rfl)
  have hb2 := (by repeat (first | exact hbel | refine belAlloc ?_ _ | refine belDrew ?_ | refine belSet ?_ _ _ (by simp)) : Below w.heap.size w ((w.alloc (.cells #[.int .i64 c.k0, .int .i64 c.k1, .int .i64 c.k2, .int .i64 c.a0, .int .i64 c.a1, .int .i64 c.a2, .slice c.ta c.tl c.tc, .int .i64 c.per, .int .i64 c.ret, .int .i64 c.age, .int .i64 c.dead] 25)).alloc (.cells #[.string p.id, .int .i64 p.prio, .bool p.crit, .int .i64 p.r0, .int .i64 p.r1, .int .i64 p.r2, .int .i64 p.l0, .int .i64 p.l1, .int .i64 p.l2, .string p.img, .int .i64 p.size] 29)))
  replace hw := belStep hw hb2
  clear hb2 hbel
  generalize (w.alloc (.cells #[.int .i64 c.k0, .int .i64 c.k1, .int .i64 c.k2, .int .i64 c.a0, .int .i64 c.a1, .int .i64 c.a2, .slice c.ta c.tl c.tc, .int .i64 c.per, .int .i64 c.ret, .int .i64 c.age, .int .i64 c.dead] 25)).alloc (.cells #[.string p.id, .int .i64 p.prio, .bool p.crit, .int .i64 p.r0, .int .i64 p.r1, .int .i64 p.r2, .int .i64 p.l0, .int .i64 p.l1, .int .i64 p.l2, .string p.img, .int .i64 p.size] 29) = W1 at *
  replace cc0 := keep cc0
  replace cc1 := keep cc1
  replace cc2 := keep cc2
  replace cc3 := keep cc3
  replace cc4 := keep cc4
  replace cc5 := keep cc5
  replace cc6 := keep cc6
  replace cc7 := keep cc7
  replace cc8 := keep cc8
  replace cc9 := keep cc9
  replace cc10 := keep cc10
  replace pp0 := keep pp0
  replace pp1 := keep pp1
  replace pp2 := keep pp2
  replace pp3 := keep pp3
  replace pp4 := keep pp4
  replace pp5 := keep pp5
  replace pp6 := keep pp6
  replace pp7 := keep pp7
  replace pp8 := keep pp8
  replace pp9 := keep pp9
  replace pp10 := keep pp10
  have hbel : Below W1.heap.size W1 W1 := Below.refl _ _
  skip
  go_upto_region 3 with (first | (go_at_call 10; (with_reducible refine (awake23 _).mono ?_); rintro e w1 ⟨rfl, hb1⟩; replace hbel := belStep hbel hb1; clear hb1) | (go_at_call 11; (with_reducible refine (CRT.out _ (belStep hw hbel)).mono ?_); rintro e w2 ⟨⟨b, rfl, hq⟩, hb2⟩; replace hbel := belStep hbel hb2; clear hb2; have HC := Lib.hid hq; clear hq; rcases b with _ | _) | (go_at_call 12; (with_reducible refine (CFT.out _ (belStep hw hbel)).mono ?_); rintro e w3 ⟨⟨b, rfl, hq⟩, hb3⟩; replace hbel := belStep hbel hb3; clear hb3; have HT := Lib.hid hq; clear hq; rcases b with _ | _) | (go_at_call 13; (with_reducible refine (CSM.out _).mono ?_); rintro e w4 ⟨rfl, hb4⟩; replace hbel := belStep hbel hb4; clear hb4; rcases sm with _ | _))
  · go_ret
    exact ⟨rfl, belStep hw hbel⟩
  · go_ret
    exact ⟨rfl, belStep hw hbel⟩
  · go_ret
    exact ⟨rfl, belStep hw hbel⟩
  replace HC := Lib.hid (HC.out (by trivial))
  replace HT := Lib.hid (HT.out (by trivial))
  clear CRT CFT CSM
  have hlen : T.length ≤ 64 := HT.out.len
  have hpl : (podsOf T).length ≤ 64 := by rw [podsOf_len]; omega
  have HRO := Lib.hid (show 0 ≤ (⟨c.a0, c.a1, c.a2⟩ : Room).a ∧ 0 ≤ (⟨c.a0, c.a1, c.a2⟩ : Room).b ∧ 0 ≤ (⟨c.a0, c.a1, c.a2⟩ : Room).c from ⟨HC.out.caps.1.2, HC.out.caps.2.1.2, HC.out.caps.2.2.2⟩)
  obtain ⟨zr, hzr⟩ : ∃ z, (p.r0 == 0 && (p.r1 == 0 && p.r2 == 0)) = z := ⟨_, rfl⟩
  obtain ⟨zl, hzl⟩ : ∃ z, (p.l0 == 0 && (p.l1 == 0 && p.l2 == 0)) = z := ⟨_, rfl⟩
  have HE1 : ∀ u, (Op.equalIn 10000 22 (.agg #[.int .i64 p.r0, .int .i64 p.r1, .int .i64 p.r2]) (.agg #[.int .i64 0, .int .i64 0, .int .i64 0])).run Try.prog u = .ok zr u := fun u => hzr ▸ eq3_any 9998 p.r0 p.r1 p.r2 0 0 0 u
  have HE2 : ∀ u, (Op.equalIn 10000 22 (.agg #[.int .i64 p.l0, .int .i64 p.l1, .int .i64 p.l2]) (.agg #[.int .i64 0, .int .i64 0, .int .i64 0])).run Try.prog u = .ok zl u := fun u => hzl ▸ eq3_any 9998 p.l0 p.l1 p.l2 0 0 0 u
  have HC3 := Lib.hid (show (classP p == 3) = (zr && zl) by rw [class3, hzr, hzl])
  clear hzr hzl
  obtain ⟨⟨⟨k1, g1, G1⟩, er1⟩, hD1⟩ : ∃ D, decideF ⟨c.a0, c.a1, c.a2⟩ T ⟨false, false, false⟩ p = D := ⟨_, rfl⟩
  have CD1 := Lib.hid (show ∀ u : World, Below w.heap.size w u → Calls Try.prog 14 #[.agg #[.int .i64 c.k0, .int .i64 c.k1, .int .i64 c.k2, .int .i64 c.a0, .int .i64 c.a1, .int .i64 c.a2, .slice c.ta c.tl c.tc, .int .i64 c.per, .int .i64 c.ret, .int .i64 c.age, .int .i64 c.dead], .slice a T.length cap, .agg #[.bool false, .bool false, .bool false], .agg #[.string p.id, .int .i64 p.prio, .bool p.crit, .int .i64 p.r0, .int .i64 p.r1, .int .i64 p.r2, .int .i64 p.l0, .int .i64 p.l1, .int .i64 p.l2, .string p.img, .int .i64 p.size]] u fun e w' => (∃ b n, e = .returned (.tuple #[.agg #[.int .i64 k1, .int .i64 g1, .slice b G1.length n], .int .i64 er1]) ∧ OwnS w' u.heap.size (.slice b G1.length n) G1) ∧ Below u.heap.size u w' from fun u hu => by have h := adm_Decide c ⟨false, false, false⟩ p a T.length cap T u rfl (HR.out.later hu) (by omega) HOK.out HT.out.dist (HPO.out); rw [hD1] at h; exact h)
  obtain ⟨⟨⟨k2, g2, G2⟩, er2⟩, hD2⟩ : ∃ D, decideF ⟨c.a0, c.a1, c.a2⟩ T ⟨true, true, true⟩ p = D := ⟨_, rfl⟩
  have CD2 := Lib.hid (show ∀ u : World, Below w.heap.size w u → Calls Try.prog 14 #[.agg #[.int .i64 c.k0, .int .i64 c.k1, .int .i64 c.k2, .int .i64 c.a0, .int .i64 c.a1, .int .i64 c.a2, .slice c.ta c.tl c.tc, .int .i64 c.per, .int .i64 c.ret, .int .i64 c.age, .int .i64 c.dead], .slice a T.length cap, .agg #[.bool true, .bool true, .bool true], .agg #[.string p.id, .int .i64 p.prio, .bool p.crit, .int .i64 p.r0, .int .i64 p.r1, .int .i64 p.r2, .int .i64 p.l0, .int .i64 p.l1, .int .i64 p.l2, .string p.img, .int .i64 p.size]] u fun e w' => (∃ b n, e = .returned (.tuple #[.agg #[.int .i64 k2, .int .i64 g2, .slice b G2.length n], .int .i64 er2]) ∧ OwnS w' u.heap.size (.slice b G2.length n) G2) ∧ Below u.heap.size u w' from fun u hu => by have h := adm_Decide c ⟨true, true, true⟩ p a T.length cap T u rfl (HR.out.later hu) (by omega) HOK.out HT.out.dist (HPO.out); rw [hD2] at h; exact h)
  obtain ⟨⟨⟨k3, g3, G3⟩, er3⟩, hD3⟩ : ∃ D, decideF ⟨c.a0, c.a1, c.a2⟩ T ⟨true, false, false⟩ p = D := ⟨_, rfl⟩
  have CD3 := Lib.hid (show ∀ u : World, Below w.heap.size w u → Calls Try.prog 14 #[.agg #[.int .i64 c.k0, .int .i64 c.k1, .int .i64 c.k2, .int .i64 c.a0, .int .i64 c.a1, .int .i64 c.a2, .slice c.ta c.tl c.tc, .int .i64 c.per, .int .i64 c.ret, .int .i64 c.age, .int .i64 c.dead], .slice a T.length cap, .agg #[.bool true, .bool false, .bool false], .agg #[.string p.id, .int .i64 p.prio, .bool p.crit, .int .i64 p.r0, .int .i64 p.r1, .int .i64 p.r2, .int .i64 p.l0, .int .i64 p.l1, .int .i64 p.l2, .string p.img, .int .i64 p.size]] u fun e w' => (∃ b n, e = .returned (.tuple #[.agg #[.int .i64 k3, .int .i64 g3, .slice b G3.length n], .int .i64 er3]) ∧ OwnS w' u.heap.size (.slice b G3.length n) G3) ∧ Below u.heap.size u w' from fun u hu => by have h := adm_Decide c ⟨true, false, false⟩ p a T.length cap T u rfl (HR.out.later hu) (by omega) HOK.out HT.out.dist (HPO.out); rw [hD3] at h; exact h)
  go_upto_region 4 with (go_at_call 14; (with_reducible refine (CD1.out _ (belStep hw hbel)).mono ?_); rintro e u1 ⟨⟨b1, m1, rfl, ho1⟩, hb1⟩; replace hbel := belStep hbel hb1)
  have HX1 := Lib.hid (row_of_owns ho1)
  clear ho1 hb1
  replace cc0 := keepOnP cc0 hbel
  replace cc1 := keepOnP cc1 hbel
  replace cc2 := keepOnP cc2 hbel
  replace cc3 := keepOnP cc3 hbel
  replace cc4 := keepOnP cc4 hbel
  replace cc5 := keepOnP cc5 hbel
  replace cc6 := keepOnP cc6 hbel
  replace cc7 := keepOnP cc7 hbel
  replace cc8 := keepOnP cc8 hbel
  replace cc9 := keepOnP cc9 hbel
  replace cc10 := keepOnP cc10 hbel
  replace pp0 := keepOnP pp0 hbel
  replace pp1 := keepOnP pp1 hbel
  replace pp2 := keepOnP pp2 hbel
  replace pp3 := keepOnP pp3 hbel
  replace pp4 := keepOnP pp4 hbel
  replace pp5 := keepOnP pp5 hbel
  replace pp6 := keepOnP pp6 hbel
  replace pp7 := keepOnP pp7 hbel
  replace pp8 := keepOnP pp8 hbel
  replace pp9 := keepOnP pp9 hbel
  replace pp10 := keepOnP pp10 hbel
  replace hw := belStep hw hbel
  clear hbel
  generalize u1 = V1 at *
  have hbel : Below V1.heap.size V1 V1 := Below.refl _ _
  have HXN := Lib.hid (HX1.out.later (belAlloc (Below.refl _ _) (.cells #[.int .i64 k1, .int .i64 g1, .slice b1 G1.length m1] 36)))
  clear HX1
  have v10 : (V1.alloc (.cells #[.int .i64 k1, .int .i64 g1, .slice b1 G1.length m1] 36)).cell? ⟨V1.heap.size, 0, none⟩ = some (.int .i64 k1) := by first | (simp; done) | (rw [World.cell?_alloc_at _ _ _ _ (by simp)]; rfl) | (rw [World.cell?_alloc_past _ _ _ (by simp <;> omega), World.cell?_alloc_at _ _ _ _ (by simp)]; rfl) | (rw [World.cell?_alloc_past _ _ _ (by simp <;> omega), World.cell?_alloc_past _ _ _ (by simp <;> omega), World.cell?_alloc_at _ _ _ _ (by simp)]; rfl)
  have v11 : (V1.alloc (.cells #[.int .i64 k1, .int .i64 g1, .slice b1 G1.length m1] 36)).cell? ⟨V1.heap.size, 1, none⟩ = some (.int .i64 g1) := by first | (simp; done) | (rw [World.cell?_alloc_at _ _ _ _ (by simp)]; rfl) | (rw [World.cell?_alloc_past _ _ _ (by simp <;> omega), World.cell?_alloc_at _ _ _ _ (by simp)]; rfl) | (rw [World.cell?_alloc_past _ _ _ (by simp <;> omega), World.cell?_alloc_past _ _ _ (by simp <;> omega), World.cell?_alloc_at _ _ _ _ (by simp)]; rfl)
  have v12 : (V1.alloc (.cells #[.int .i64 k1, .int .i64 g1, .slice b1 G1.length m1] 36)).cell? ⟨V1.heap.size, 2, none⟩ = some (.slice b1 G1.length m1) := by first | (simp; done) | (rw [World.cell?_alloc_at _ _ _ _ (by simp)]; rfl) | (rw [World.cell?_alloc_past _ _ _ (by simp <;> omega), World.cell?_alloc_at _ _ _ _ (by simp)]; rfl) | (rw [World.cell?_alloc_past _ _ _ (by simp <;> omega), World.cell?_alloc_past _ _ _ (by simp <;> omega), World.cell?_alloc_at _ _ _ _ (by simp)]; rfl)
  have hb2 := (by repeat (first | exact hbel | refine belAlloc ?_ _ | refine belDrew ?_ | refine belSet ?_ _ _ (by simp)) : Below V1.heap.size V1 (V1.alloc (.cells #[.int .i64 k1, .int .i64 g1, .slice b1 G1.length m1] 36)))
  replace cc0 := keepOnP cc0 hb2
  replace cc1 := keepOnP cc1 hb2
  replace cc2 := keepOnP cc2 hb2
  replace cc3 := keepOnP cc3 hb2
  replace cc4 := keepOnP cc4 hb2
  replace cc5 := keepOnP cc5 hb2
  replace cc6 := keepOnP cc6 hb2
  replace cc7 := keepOnP cc7 hb2
  replace cc8 := keepOnP cc8 hb2
  replace cc9 := keepOnP cc9 hb2
  replace cc10 := keepOnP cc10 hb2
  replace pp0 := keepOnP pp0 hb2
  replace pp1 := keepOnP pp1 hb2
  replace pp2 := keepOnP pp2 hb2
  replace pp3 := keepOnP pp3 hb2
  replace pp4 := keepOnP pp4 hb2
  replace pp5 := keepOnP pp5 hb2
  replace pp6 := keepOnP pp6 hb2
  replace pp7 := keepOnP pp7 hb2
  replace pp8 := keepOnP pp8 hb2
  replace pp9 := keepOnP pp9 hb2
  replace pp10 := keepOnP pp10 hb2
  replace hw := belStep hw hb2
  clear hb2 hbel
  generalize V1.alloc (.cells #[.int .i64 k1, .int .i64 g1, .slice b1 G1.length m1] 36) = W2 at *
  replace v10 := keep v10
  replace v11 := keep v11
  replace v12 := keep v12
  have hbel : Below W2.heap.size W2 W2 := Below.refl _ _
  skip
  have HX1 := Lib.hid HXN.out
  clear HXN
  go_upto_region 5 with (go_at_call 14; (with_reducible refine (CD2.out _ (belStep hw hbel)).mono ?_); rintro e u2 ⟨⟨b2, m2, rfl, ho2⟩, hb2⟩; replace hbel := belStep hbel hb2)
  have HX2 := Lib.hid (row_of_owns ho2)
  clear ho2 hb2
  have HBW2 := Lib.hid hbel
  replace cc0 := keepOnP cc0 hbel
  replace cc1 := keepOnP cc1 hbel
  replace cc2 := keepOnP cc2 hbel
  replace cc3 := keepOnP cc3 hbel
  replace cc4 := keepOnP cc4 hbel
  replace cc5 := keepOnP cc5 hbel
  replace cc6 := keepOnP cc6 hbel
  replace cc7 := keepOnP cc7 hbel
  replace cc8 := keepOnP cc8 hbel
  replace cc9 := keepOnP cc9 hbel
  replace cc10 := keepOnP cc10 hbel
  replace pp0 := keepOnP pp0 hbel
  replace pp1 := keepOnP pp1 hbel
  replace pp2 := keepOnP pp2 hbel
  replace pp3 := keepOnP pp3 hbel
  replace pp4 := keepOnP pp4 hbel
  replace pp5 := keepOnP pp5 hbel
  replace pp6 := keepOnP pp6 hbel
  replace pp7 := keepOnP pp7 hbel
  replace pp8 := keepOnP pp8 hbel
  replace pp9 := keepOnP pp9 hbel
  replace pp10 := keepOnP pp10 hbel
  replace v10 := keepOnP v10 hbel
  replace v11 := keepOnP v11 hbel
  replace v12 := keepOnP v12 hbel
  replace hw := belStep hw hbel
  clear hbel
  generalize u2 = V2 at *
  have hbel : Below V2.heap.size V2 V2 := Below.refl _ _
  have HXN := Lib.hid (HX2.out.later (belAlloc (Below.refl _ _) (.cells #[.int .i64 k2, .int .i64 g2, .slice b2 G2.length m2] 36)))
  clear HX2
  replace HBW2 := Lib.hid (belStep HBW2.out (belAlloc (Below.refl _ _) (.cells #[.int .i64 k2, .int .i64 g2, .slice b2 G2.length m2] 36)))
  have v20 : (V2.alloc (.cells #[.int .i64 k2, .int .i64 g2, .slice b2 G2.length m2] 36)).cell? ⟨V2.heap.size, 0, none⟩ = some (.int .i64 k2) := by first | (simp; done) | (rw [World.cell?_alloc_at _ _ _ _ (by simp)]; rfl) | (rw [World.cell?_alloc_past _ _ _ (by simp <;> omega), World.cell?_alloc_at _ _ _ _ (by simp)]; rfl) | (rw [World.cell?_alloc_past _ _ _ (by simp <;> omega), World.cell?_alloc_past _ _ _ (by simp <;> omega), World.cell?_alloc_at _ _ _ _ (by simp)]; rfl)
  have v21 : (V2.alloc (.cells #[.int .i64 k2, .int .i64 g2, .slice b2 G2.length m2] 36)).cell? ⟨V2.heap.size, 1, none⟩ = some (.int .i64 g2) := by first | (simp; done) | (rw [World.cell?_alloc_at _ _ _ _ (by simp)]; rfl) | (rw [World.cell?_alloc_past _ _ _ (by simp <;> omega), World.cell?_alloc_at _ _ _ _ (by simp)]; rfl) | (rw [World.cell?_alloc_past _ _ _ (by simp <;> omega), World.cell?_alloc_past _ _ _ (by simp <;> omega), World.cell?_alloc_at _ _ _ _ (by simp)]; rfl)
  have v22 : (V2.alloc (.cells #[.int .i64 k2, .int .i64 g2, .slice b2 G2.length m2] 36)).cell? ⟨V2.heap.size, 2, none⟩ = some (.slice b2 G2.length m2) := by first | (simp; done) | (rw [World.cell?_alloc_at _ _ _ _ (by simp)]; rfl) | (rw [World.cell?_alloc_past _ _ _ (by simp <;> omega), World.cell?_alloc_at _ _ _ _ (by simp)]; rfl) | (rw [World.cell?_alloc_past _ _ _ (by simp <;> omega), World.cell?_alloc_past _ _ _ (by simp <;> omega), World.cell?_alloc_at _ _ _ _ (by simp)]; rfl)
  have hb2 := (by repeat (first | exact hbel | refine belAlloc ?_ _ | refine belDrew ?_ | refine belSet ?_ _ _ (by simp)) : Below V2.heap.size V2 (V2.alloc (.cells #[.int .i64 k2, .int .i64 g2, .slice b2 G2.length m2] 36)))
  replace cc0 := keepOnP cc0 hb2
  replace cc1 := keepOnP cc1 hb2
  replace cc2 := keepOnP cc2 hb2
  replace cc3 := keepOnP cc3 hb2
  replace cc4 := keepOnP cc4 hb2
  replace cc5 := keepOnP cc5 hb2
  replace cc6 := keepOnP cc6 hb2
  replace cc7 := keepOnP cc7 hb2
  replace cc8 := keepOnP cc8 hb2
  replace cc9 := keepOnP cc9 hb2
  replace cc10 := keepOnP cc10 hb2
  replace pp0 := keepOnP pp0 hb2
  replace pp1 := keepOnP pp1 hb2
  replace pp2 := keepOnP pp2 hb2
  replace pp3 := keepOnP pp3 hb2
  replace pp4 := keepOnP pp4 hb2
  replace pp5 := keepOnP pp5 hb2
  replace pp6 := keepOnP pp6 hb2
  replace pp7 := keepOnP pp7 hb2
  replace pp8 := keepOnP pp8 hb2
  replace pp9 := keepOnP pp9 hb2
  replace pp10 := keepOnP pp10 hb2
  replace v10 := keepOnP v10 hb2
  replace v11 := keepOnP v11 hb2
  replace v12 := keepOnP v12 hb2
  replace hw := belStep hw hb2
  clear hb2 hbel
  generalize V2.alloc (.cells #[.int .i64 k2, .int .i64 g2, .slice b2 G2.length m2] 36) = W3 at *
  replace v20 := keep v20
  replace v21 := keep v21
  replace v22 := keep v22
  have hbel : Below W3.heap.size W3 W3 := Below.refl _ _
  skip
  have HX2 := Lib.hid HXN.out
  clear HXN
  go_upto_region 6 with (go_at_call 14; (with_reducible refine (CD3.out _ (belStep hw hbel)).mono ?_); rintro e u3 ⟨⟨b3, m3, rfl, ho3⟩, hb3⟩; replace hbel := belStep hbel hb3)
  have HX3 := Lib.hid (row_of_owns ho3)
  clear ho3 hb3
  have HBW3 := Lib.hid hbel
  replace cc0 := keepOnP cc0 hbel
  replace cc1 := keepOnP cc1 hbel
  replace cc2 := keepOnP cc2 hbel
  replace cc3 := keepOnP cc3 hbel
  replace cc4 := keepOnP cc4 hbel
  replace cc5 := keepOnP cc5 hbel
  replace cc6 := keepOnP cc6 hbel
  replace cc7 := keepOnP cc7 hbel
  replace cc8 := keepOnP cc8 hbel
  replace cc9 := keepOnP cc9 hbel
  replace cc10 := keepOnP cc10 hbel
  replace pp0 := keepOnP pp0 hbel
  replace pp1 := keepOnP pp1 hbel
  replace pp2 := keepOnP pp2 hbel
  replace pp3 := keepOnP pp3 hbel
  replace pp4 := keepOnP pp4 hbel
  replace pp5 := keepOnP pp5 hbel
  replace pp6 := keepOnP pp6 hbel
  replace pp7 := keepOnP pp7 hbel
  replace pp8 := keepOnP pp8 hbel
  replace pp9 := keepOnP pp9 hbel
  replace pp10 := keepOnP pp10 hbel
  replace v10 := keepOnP v10 hbel
  replace v11 := keepOnP v11 hbel
  replace v12 := keepOnP v12 hbel
  replace v20 := keepOnP v20 hbel
  replace v21 := keepOnP v21 hbel
  replace v22 := keepOnP v22 hbel
  replace hw := belStep hw hbel
  clear hbel
  generalize u3 = V3 at *
  have hbel : Below V3.heap.size V3 V3 := Below.refl _ _
  have HXN := Lib.hid (HX3.out.later (belAlloc (Below.refl _ _) (.cells #[.int .i64 k3, .int .i64 g3, .slice b3 G3.length m3] 36)))
  clear HX3
  replace HBW3 := Lib.hid (belStep HBW3.out (belAlloc (Below.refl _ _) (.cells #[.int .i64 k3, .int .i64 g3, .slice b3 G3.length m3] 36)))
  have v30 : (V3.alloc (.cells #[.int .i64 k3, .int .i64 g3, .slice b3 G3.length m3] 36)).cell? ⟨V3.heap.size, 0, none⟩ = some (.int .i64 k3) := by first | (simp; done) | (rw [World.cell?_alloc_at _ _ _ _ (by simp)]; rfl) | (rw [World.cell?_alloc_past _ _ _ (by simp <;> omega), World.cell?_alloc_at _ _ _ _ (by simp)]; rfl) | (rw [World.cell?_alloc_past _ _ _ (by simp <;> omega), World.cell?_alloc_past _ _ _ (by simp <;> omega), World.cell?_alloc_at _ _ _ _ (by simp)]; rfl)
  have v31 : (V3.alloc (.cells #[.int .i64 k3, .int .i64 g3, .slice b3 G3.length m3] 36)).cell? ⟨V3.heap.size, 1, none⟩ = some (.int .i64 g3) := by first | (simp; done) | (rw [World.cell?_alloc_at _ _ _ _ (by simp)]; rfl) | (rw [World.cell?_alloc_past _ _ _ (by simp <;> omega), World.cell?_alloc_at _ _ _ _ (by simp)]; rfl) | (rw [World.cell?_alloc_past _ _ _ (by simp <;> omega), World.cell?_alloc_past _ _ _ (by simp <;> omega), World.cell?_alloc_at _ _ _ _ (by simp)]; rfl)
  have v32 : (V3.alloc (.cells #[.int .i64 k3, .int .i64 g3, .slice b3 G3.length m3] 36)).cell? ⟨V3.heap.size, 2, none⟩ = some (.slice b3 G3.length m3) := by first | (simp; done) | (rw [World.cell?_alloc_at _ _ _ _ (by simp)]; rfl) | (rw [World.cell?_alloc_past _ _ _ (by simp <;> omega), World.cell?_alloc_at _ _ _ _ (by simp)]; rfl) | (rw [World.cell?_alloc_past _ _ _ (by simp <;> omega), World.cell?_alloc_past _ _ _ (by simp <;> omega), World.cell?_alloc_at _ _ _ _ (by simp)]; rfl)
  have hb2 := (by repeat (first | exact hbel | refine belAlloc ?_ _ | refine belDrew ?_ | refine belSet ?_ _ _ (by simp)) : Below V3.heap.size V3 (V3.alloc (.cells #[.int .i64 k3, .int .i64 g3, .slice b3 G3.length m3] 36)))
  replace cc0 := keepOnP cc0 hb2
  replace cc1 := keepOnP cc1 hb2
  replace cc2 := keepOnP cc2 hb2
  replace cc3 := keepOnP cc3 hb2
  replace cc4 := keepOnP cc4 hb2
  replace cc5 := keepOnP cc5 hb2
  replace cc6 := keepOnP cc6 hb2
  replace cc7 := keepOnP cc7 hb2
  replace cc8 := keepOnP cc8 hb2
  replace cc9 := keepOnP cc9 hb2
  replace cc10 := keepOnP cc10 hb2
  replace pp0 := keepOnP pp0 hb2
  replace pp1 := keepOnP pp1 hb2
  replace pp2 := keepOnP pp2 hb2
  replace pp3 := keepOnP pp3 hb2
  replace pp4 := keepOnP pp4 hb2
  replace pp5 := keepOnP pp5 hb2
  replace pp6 := keepOnP pp6 hb2
  replace pp7 := keepOnP pp7 hb2
  replace pp8 := keepOnP pp8 hb2
  replace pp9 := keepOnP pp9 hb2
  replace pp10 := keepOnP pp10 hb2
  replace v10 := keepOnP v10 hb2
  replace v11 := keepOnP v11 hb2
  replace v12 := keepOnP v12 hb2
  replace v20 := keepOnP v20 hb2
  replace v21 := keepOnP v21 hb2
  replace v22 := keepOnP v22 hb2
  replace hw := belStep hw hb2
  clear hb2 hbel
  generalize V3.alloc (.cells #[.int .i64 k3, .int .i64 g3, .slice b3 G3.length m3] 36) = W4 at *
  replace v30 := keep v30
  replace v31 := keep v31
  replace v32 := keep v32
  have hbel : Below W4.heap.size W4 W4 := Below.refl _ _
  skip
  have HX3 := Lib.hid HXN.out
  clear HXN
  have HY1 := Lib.hid (fun u (hu : Below W4.heap.size W4 u) => HX1.out.later (belStep (belStep HBW2.out HBW3.out) hu))
  have HY2 := Lib.hid (fun u (hu : Below W4.heap.size W4 u) => HX2.out.later (belStep HBW3.out hu))
  have HY3 := Lib.hid (fun u (hu : Below W4.heap.size W4 u) => HX3.out.later hu)
  clear HX1 HX2 HX3 CD1 CD2 CD3
  by_cases hr : refusedF T p = 0
  · have HD1 := Lib.hid (hD1.symm.trans (dec_room hr (bar0 p) rfl))
    have HK := Lib.hid (room_kind ⟨c.a0, c.a1, c.a2⟩ T p)
    cases hcr : p.crit with
    | true =>
      have hb2 : barredF ⟨true, true, true⟩ p = none := by unfold barredF; rw [hcr]; rfl
      have hb3 : barredF ⟨true, false, false⟩ p = none := by unfold barredF; rw [hcr]; rfl
      have e12 := (HD1.out).trans ((hD2.symm.trans (dec_room hr hb2 rfl)).symm)
      simp only [Prod.mk.injEq, VerdV.mk.injEq] at e12
      obtain ⟨⟨rfl, rfl, rfl⟩, rfl⟩ := e12
      have e13 := (HD1.out).trans ((hD3.symm.trans (dec_room hr hb3 rfl)).symm)
      simp only [Prod.mk.injEq, VerdV.mk.injEq] at e13
      obtain ⟨⟨rfl, rfl, rfl⟩, rfl⟩ := e13
      have ek : k1 ≠ 3 := by have h := HK.out; have h2 := congrArg (fun q => (Prod.fst q).kind) HD1.out; simp only at h2; rw [← h2] at h; exact h
      have hk3 : (k1 == 3) = false := by simp [ek]
      obtain rfl : er1 = 0 := congrArg Prod.snd HD1.out
      clear ek
      have CS12 := Lib.hid (fun u (hu : Below W4.heap.size W4 u) => (sameV_refl ⟨k1, g1, G1⟩) ▸ rref_Same ⟨k1, g1, G1⟩ ⟨k1, g1, G1⟩ b1 b2 m1 m2 u (HY1.out u hu) (HY2.out u hu))
      have CS13 := Lib.hid (fun u (hu : Below W4.heap.size W4 u) => (sameV_refl ⟨k1, g1, G1⟩) ▸ rref_Same ⟨k1, g1, G1⟩ ⟨k1, g1, G1⟩ b1 b3 m1 m3 u (HY1.out u hu) (HY3.out u hu))
      simp only [hcr] at pp2
      clear hb2 hb3 hcr hr hD1 hD2 hD3 HY1 HY2 HY3
      go_wp2_with (first | (go_at_call 19; (with_reducible refine (CS12.out _ hbel).mono ?_); rintro e w1 ⟨rfl, hb1⟩; replace hbel := belStep hbel hb1; clear hb1) | (go_at_call 19; (with_reducible refine (CS13.out _ hbel).mono ?_); rintro e w1 ⟨rfl, hb1⟩; replace hbel := belStep hbel hb1; clear hb1))
      go_ret
      exact ⟨rfl, belStep hw hbel⟩
    | false =>
      cases hz : (zr && zl) with
      | false =>
        have hb2 : barredF ⟨true, true, true⟩ p = some 1 := by unfold barredF; rw [hcr, HC3.out, hz]; rfl
        have hb3 : barredF ⟨true, false, false⟩ p = none := by unfold barredF; rw [hcr, HC3.out, hz]; rfl
        have e13 := (HD1.out).trans ((hD3.symm.trans (dec_room hr hb3 rfl)).symm)
        simp only [Prod.mk.injEq, VerdV.mk.injEq] at e13
        obtain ⟨⟨rfl, rfl, rfl⟩, rfl⟩ := e13
        have ek : k1 ≠ 3 := by have h := HK.out; have h2 := congrArg (fun q => (Prod.fst q).kind) HD1.out; simp only at h2; rw [← h2] at h; exact h
        have hk3 : (k1 == 3) = false := by simp [ek]
        obtain rfl : er1 = 0 := congrArg Prod.snd HD1.out
        clear ek
        have e2 := hD2.symm.trans (dec_bar hr hb2)
        simp only [Prod.mk.injEq, VerdV.mk.injEq] at e2
        obtain ⟨⟨rfl, rfl, rfl⟩, rfl⟩ := e2
        have CS13 := Lib.hid (fun u (hu : Below W4.heap.size W4 u) => (sameV_refl ⟨k1, g1, G1⟩) ▸ rref_Same ⟨k1, g1, G1⟩ ⟨k1, g1, G1⟩ b1 b3 m1 m3 u (HY1.out u hu) (HY3.out u hu))
        simp only [hcr] at pp2
        clear hb2 hb3 hcr hr hD1 hD2 hD3 HY1 HY2 HY3 HC3
        have hzz : (zr = false) ∨ (zr = true ∧ zl = false) := by cases zr <;> cases zl <;> simp_all
        clear hz
        rcases hzz with rfl | ⟨rfl, rfl⟩
        all_goals
          go_wp2_with (first | (go_at_call 19; (with_reducible refine (CS13.out _ hbel).mono ?_); rintro e w1 ⟨rfl, hb1⟩; replace hbel := belStep hbel hb1; clear hb1))
          go_ret
          exact ⟨rfl, belStep hw hbel⟩
      | true =>
        have hb2 : barredF ⟨true, true, true⟩ p = some 0 := by unfold barredF; rw [hcr, HC3.out, hz]; rfl
        have hb3 : barredF ⟨true, false, false⟩ p = some 0 := by unfold barredF; rw [hcr, HC3.out, hz]; rfl
        have ek : k1 ≠ 3 := by have h := HK.out; have h2 := congrArg (fun q => (Prod.fst q).kind) HD1.out; simp only at h2; rw [← h2] at h; exact h
        have hk3 : (k1 == 3) = false := by simp [ek]
        obtain rfl : er1 = 0 := congrArg Prod.snd HD1.out
        clear ek
        have e2 := hD2.symm.trans (dec_bar hr hb2)
        simp only [Prod.mk.injEq, VerdV.mk.injEq] at e2
        obtain ⟨⟨rfl, rfl, rfl⟩, rfl⟩ := e2
        have e3 := hD3.symm.trans (dec_bar hr hb3)
        simp only [Prod.mk.injEq, VerdV.mk.injEq] at e3
        obtain ⟨⟨rfl, rfl, rfl⟩, rfl⟩ := e3
        simp only [hcr] at pp2
        clear hb2 hb3 hcr hr hD1 hD2 hD3 HY1 HY2 HY3 HC3
        simp only [Bool.and_eq_true] at hz
        obtain ⟨rfl, rfl⟩ := hz
        go_wp2
        go_ret
        exact ⟨rfl, belStep hw hbel⟩
  · have e1 := hD1.symm.trans (dec_err rfl hr)
    simp only [Prod.mk.injEq, VerdV.mk.injEq] at e1
    have e2 := hD2.symm.trans (dec_err rfl hr)
    simp only [Prod.mk.injEq, VerdV.mk.injEq] at e2
    have e3 := hD3.symm.trans (dec_err rfl hr)
    simp only [Prod.mk.injEq, VerdV.mk.injEq] at e3
    obtain ⟨⟨rfl, rfl, rfl⟩, e1⟩ := e1
    obtain ⟨⟨rfl, rfl, rfl⟩, e2⟩ := e2
    obtain ⟨⟨rfl, rfl, rfl⟩, e3⟩ := e3
    rw [← e1] at e2 e3 hr
    subst e2 e3
    have hq : (er3 != 0) = true := by simp [hr]
    have hq2 : (er3 == 0) = false := by simp [hr]
    clear e1 hr hD1 hD2 hD3
    go_wp2
    go_ret
    exact ⟨rfl, belStep hw hbel⟩

set_option maxRecDepth 100000 in
theorem lifted (os : Os) (started : os.Started) (H : Type) (enc : TypeId × Value → H) :
    ReturnsInHanded {} Try.checked os 6 .any (Rows.admitBarsSpec.pre6 enc Try.prog Try.f6 Rows.admitBarsRow.domain false) (Rows.admitBarsSpec.post enc Try.prog Try.f6 false true false false) := by
  refine returnsInHanded_of_change (C := Try.checked) own started (by kernel_rfl) Try.func6
    (ChangeSpec.witness6 (enc := enc) (C := Try.checked) false ⟨#[], #[.agg #[.int .i64 0, .int .i64 0, .int .i64 0, .int .i64 0, .int .i64 0, .int .i64 0, .slice none 0 0, .int .i64 0, .int .i64 0, .int .i64 0, .int .i64 0], .slice none 0 0, .agg #[.string ByteArray.empty, .int .i64 0, .bool false, .int .i64 0, .int .i64 0, .int .i64 0, .int .i64 0, .int .i64 0, .int .i64 0, .string ByteArray.empty, .int .i64 0]], []⟩ 8 (by kernel_rfl) (by kernel_rfl) (by kernel_rfl) (by kernel_rfl)) ?_
  intro W base args ds gs before hval0 hW hcnd _
  have hval : ∀ (j : Nat) t v, Try.f6.params[j]? = some t → args[j]? = some v → Value.okWide Try.prog W .any base t v := hval0
  have hW' := hW
  obtain ⟨p, q, hA0, hV, rfl, hfz, hnd⟩ := hW
  have hA : DataW.TrodAll enc Try.prog W 0 (fun _ => true) true Try.f6.params.toList args.toList ds p := hA0
  rw [Try.params6] at hA hval
  obtain ⟨v0, vs0, d0, ds0, p0, q0, hargs, rfl, rfl, h0, r0⟩ := trodAll_cons hA
  obtain ⟨v1, vs1, d1, ds1, p1, q1, rfl, rfl, rfl, h1, r1⟩ := trodAll_cons r0
  obtain ⟨v2, vs2, d2, ds2, p2, q2, rfl, rfl, rfl, h2, r2⟩ := trodAll_cons r1
  obtain ⟨rfl, rfl, rfl⟩ := trodAll_nil r2
  obtain rfl : args = #[v0, v1, v2] := by cases args; simp_all
  obtain ⟨rfl, rfl⟩ := trodVars_none hV
  have k0 := h0
  have lt0 : ∀ x ∈ p0, x.block < W.heap.size := by obtain ⟨m, hm⟩ := k0; exact DataW.trod_lt m _ _ _ hm
  have o0 : Value.okWide Try.prog W .any base 25 v0 := hval 0 25 v0 rfl rfl
  obtain ⟨c0, rfl, hc0⟩ := open_cfg o0 h0
  have k1 := h1
  have lt1 : ∀ x ∈ p1, x.block < W.heap.size := by obtain ⟨m, hm⟩ := k1; exact DataW.trod_lt m _ _ _ hm
  have o1 : Value.okWide Try.prog W .any base 26 v1 := hval 1 26 v1 rfl rfl
  obtain ⟨a1, len1, cap1, T1, rfl, f1, g1, i1⟩ := open_ents o1 h1
  have k2 := h2
  have lt2 : ∀ x ∈ p2, x.block < W.heap.size := by obtain ⟨m, hm⟩ := k2; exact DataW.trod_lt m _ _ _ hm
  have o2 : Value.okWide Try.prog W .any base 29 v2 := hval 2 29 v2 rfl rfl
  obtain ⟨p2, rfl, f2⟩ := open_pod o2 h2
  clear hA0 hval0
  refine (walk c0 a1 len1 cap1 T1 p2 W hc0 f1 g1 i1 f2).mono fun e W' ⟨he, bel⟩ => ?_
  subst he
  exact ⟨_, rfl, _, _, _, [], _, [], hW', trodAll_mk1 (shut_bool Try.underlying4 _), (trodAll_cons_mk (Below.trod laidOut (by kernel_rfl) (of_decide_eq_true (by kernel_rfl)) k0 bel lt0) (trodAll_cons_mk (Below.trod laidOut (by kernel_rfl) (of_decide_eq_true (by kernel_rfl)) k1 bel lt1) (trodAll_cons_mk (Below.trod laidOut (by kernel_rfl) (of_decide_eq_true (by kernel_rfl)) k2 bel lt2) trodAll_mk0))), rfl, bel.frame _, fun h => by cases h⟩

theorem over : Rows.admitBarsRow.holds Try.pinned (OpenSpec.ofChange Rows.admitBarsSpec) :=
  OpenClaim.holds_of_wide 6 Try.f6 rfl rfl rfl rfl rfl rfl rfl ⟨rfl, rfl, rfl, rfl, rfl⟩ rfl rfl rfl rfl rfl (by kernel_rfl) Try.func6 (by kernel_rfl)
    (of_decide_eq_true (by kernel_rfl)) (by unfold Func.isWrapper; first | (rw [if_pos (by decide +kernel)]; kernel_rfl) | (rw [if_neg (by decide +kernel)]; exact ⟨rfl, rfl⟩))
    (fun os started H enc _ => lifted os started H enc)

/-- The statement. -/
theorem proved : Rows.AdmitBarsSaid := over
#print axioms proved

end Go.Proofs.Ytafojeeehehplaa.admitBars
