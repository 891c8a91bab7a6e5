
/- rank.keyOf: contract. -/
import Derived.Test.YtcgpmihjodolmaaRk1
namespace Go.Proofs.Ytcgpmihjodolmaa
open Go.RowKit
set_option linter.unusedVariables false
set_option linter.unusedSimpArgs false
theorem key_ret (W : World) (R : Nat) (tm : Array Value) (a b c : Int) (i : ByteArray) (Q : Ending → World → Prop) (h2 : tm.getD 6 undef = .pointer (some ⟨R, 0, none⟩)) (hb : Blk W R [.int .i64 a, .int .i64 b, .int .i64 c, .string i] 98) (hR : Q (.returned (.agg #[.int .i64 a, .int .i64 b, .int .i64 c, .string i])) W) :
    bodyPost Try.prog Try.f60 Q Exit.ret { tmps := tm, defers := [] } W := by
  have z0 := hb.cell (j := 0) rfl
  have z1 := hb.cell (j := 1) rfl
  have z2 := hb.cell (j := 2) rfl
  have z3 := hb.cell (j := 3) rfl
  refine bodyPost_ret (v := .agg #[.int .i64 a, .int .i64 b, .int .i64 c, .string i]) ?_ rfl hR
  simp only [Array.getD_eq_getD_getElem?] at h2
  simp [results, Try.results60, go_sem, h2, z0, z1, z2, z3]
set_option maxRecDepth 100000 in
set_option maxHeartbeats 16000000 in
theorem rk_keyOf (g : Nat) (G : Int) (p : PodV) (t x0 x1 x2 : Int) (a : Option Addr) (len cap : Nat) (U : List UseV) (w : World) (hg : g < 3) (hG : G = g) (hp : p.ok) (hpr : rightB p = true) (hU : ∀ u ∈ U, UseOK u) (hl : U.length = len) (hR : Row w a len cap 4 (U.flatMap UseV.cells)) :
    Calls Try.prog 60 #[.int .i64 G, .agg #[.string p.id, .int .i64 p.prio, .bool p.crit, .int .i64 p.r0, .int .i64 p.r1, .int .i64 p.r2, .int .i64 p.l0, .int .i64 p.l1, .int .i64 p.l2, .string p.img, .int .i64 p.size], .agg #[.int .i64 t, .int .i64 x0, .int .i64 x1, .int .i64 x2, .slice a len cap]] w fun e w' => e = .returned (keyF g p U).v ∧ Below w.heap.size w w' := by
  have hw : Below w.heap.size w w := Below.refl _ _
  have hbel := hw
  have hbd_a : len ≤ cap ∧ cap ≤ 9223372036854775807 := by obtain ⟨_, h1, h2, _⟩ := hR; unfold maxLen at h2; exact ⟨h1, h2⟩
  obtain ⟨hbd1_a, hbd2_a⟩ := hbd_a
  have HR := Lib.hid hR
  have hus := amt_bd (g := g) hU p.id
  have has := ask_bd (g := g) hp hpr
  obtain ⟨us, hus0⟩ : ∃ n, amt g (ofF U p.id) = n := ⟨_, rfl⟩
  obtain ⟨ak, has0⟩ : ∃ n, askF g p = n := ⟨_, rfl⟩
  rw [hus0] at hus
  rw [has0] at has
  obtain ⟨hu0, hu1⟩ := hus
  obtain ⟨ha0, ha1⟩ := has
  have HX := Lib.hid (show exF g p U = us - ak by unfold exF; rw [hus0, has0])
  have CA := Lib.hid (fun u => by have h := rk_Asked g G p u hg hG; rw [has0] at h; exact h)
  clear has0 hR
  subst hl
  have CO := Lib.hid (fun u (hu : Below w.heap.size w u) => smp_Of t x0 x1 x2 a U.length cap U p.id u rfl (HR.out.later hu))
  obtain ⟨o, ho⟩ : ∃ o, ofF U p.id = o := ⟨_, rfl⟩
  rw [ho] at CO hus0
  clear ho
  have hsub : IntKind.i64.wrap (us - ak) = us - ak := IntWalk.i64_in _ (by omega)
  have HSUB := Lib.hid hsub
  clear hsub
  have key : g = 0 ∨ g = 1 ∨ g = 2 := by omega
  clear hg
  rcases key with rfl | rfl | rfl
  · obtain rfl : G = 0 := hG
    have hix : ∀ u : World, (Instr.index 29 (.agg #[.int .i64 o.a, .int .i64 o.b, .int .i64 o.c]) (.int .i64 0)).run Try.prog u = .ok (.int .i64 us) u := fun u => by rw [← hus0]; kernel_rfl
    have HIX := Lib.hid hix
    clear hus0
    go_enter Try.func60, Try.ntmps60
    go_upto_region 1 with fail
    have pp0 : (((w.alloc (.cells #[.string p.id, .int .i64 p.prio, .bool p.crit, .int .i64 p.r0, .int .i64 p.r1, .int .i64 p.r2, .int .i64 p.l0, .int .i64 p.l1, .int .i64 p.l2, .string p.img, .int .i64 p.size] 62)).alloc (.cells #[.int .i64 t, .int .i64 x0, .int .i64 x1, .int .i64 x2, .slice a U.length cap] 32)).alloc (.cells #[.int .i64 0, .int .i64 0, .int .i64 0, .string ⟨#[]⟩] 98)).cell? ⟨w.heap.size, 0, none⟩ = some (.string p.id) := by first | (simp; done) | (rw [World.cell?_alloc_at _ _ _ _ (by simp)]; rfl) | (rw [World.cell?_alloc_past _ _ _ (by simp <;> omega), World.cell?_alloc_at _ _ _ _ (by simp)]; rfl) | (rw [World.cell?_alloc_past _ _ _ (by simp <;> omega), World.cell?_alloc_past _ _ _ (by simp <;> omega), World.cell?_alloc_at _ _ _ _ (by simp)]; rfl)
    have pp1 : (((w.alloc (.cells #[.string p.id, .int .i64 p.prio, .bool p.crit, .int .i64 p.r0, .int .i64 p.r1, .int .i64 p.r2, .int .i64 p.l0, .int .i64 p.l1, .int .i64 p.l2, .string p.img, .int .i64 p.size] 62)).alloc (.cells #[.int .i64 t, .int .i64 x0, .int .i64 x1, .int .i64 x2, .slice a U.length cap] 32)).alloc (.cells #[.int .i64 0, .int .i64 0, .int .i64 0, .string ⟨#[]⟩] 98)).cell? ⟨w.heap.size, 1, none⟩ = some (.int .i64 p.prio) := by first | (simp; done) | (rw [World.cell?_alloc_at _ _ _ _ (by simp)]; rfl) | (rw [World.cell?_alloc_past _ _ _ (by simp <;> omega), World.cell?_alloc_at _ _ _ _ (by simp)]; rfl) | (rw [World.cell?_alloc_past _ _ _ (by simp <;> omega), World.cell?_alloc_past _ _ _ (by simp <;> omega), World.cell?_alloc_at _ _ _ _ (by simp)]; rfl)
    have pp2 : (((w.alloc (.cells #[.string p.id, .int .i64 p.prio, .bool p.crit, .int .i64 p.r0, .int .i64 p.r1, .int .i64 p.r2, .int .i64 p.l0, .int .i64 p.l1, .int .i64 p.l2, .string p.img, .int .i64 p.size] 62)).alloc (.cells #[.int .i64 t, .int .i64 x0, .int .i64 x1, .int .i64 x2, .slice a U.length cap] 32)).alloc (.cells #[.int .i64 0, .int .i64 0, .int .i64 0, .string ⟨#[]⟩] 98)).cell? ⟨w.heap.size, 2, none⟩ = some (.bool p.crit) := by first | (simp; done) | (rw [World.cell?_alloc_at _ _ _ _ (by simp)]; rfl) | (rw [World.cell?_alloc_past _ _ _ (by simp <;> omega), World.cell?_alloc_at _ _ _ _ (by simp)]; rfl) | (rw [World.cell?_alloc_past _ _ _ (by simp <;> omega), World.cell?_alloc_past _ _ _ (by simp <;> omega), World.cell?_alloc_at _ _ _ _ (by simp)]; rfl)
    have pp3 : (((w.alloc (.cells #[.string p.id, .int .i64 p.prio, .bool p.crit, .int .i64 p.r0, .int .i64 p.r1, .int .i64 p.r2, .int .i64 p.l0, .int .i64 p.l1, .int .i64 p.l2, .string p.img, .int .i64 p.size] 62)).alloc (.cells #[.int .i64 t, .int .i64 x0, .int .i64 x1, .int .i64 x2, .slice a U.length cap] 32)).alloc (.cells #[.int .i64 0, .int .i64 0, .int .i64 0, .string ⟨#[]⟩] 98)).cell? ⟨w.heap.size, 3, none⟩ = some (.int .i64 p.r0) := by first | (simp; done) | (rw [World.cell?_alloc_at _ _ _ _ (by simp)]; rfl) | (rw [World.cell?_alloc_past _ _ _ (by simp <;> omega), World.cell?_alloc_at _ _ _ _ (by simp)]; rfl) | (rw [World.cell?_alloc_past _ _ _ (by simp <;> omega), World.cell?_alloc_past _ _ _ (by simp <;> omega), World.cell?_alloc_at _ _ _ _ (by simp)]; rfl)
    have pp4 : (((w.alloc (.cells #[.string p.id, .int .i64 p.prio, .bool p.crit, .int .i64 p.r0, .int .i64 p.r1, .int .i64 p.r2, .int .i64 p.l0, .int .i64 p.l1, .int .i64 p.l2, .string p.img, .int .i64 p.size] 62)).alloc (.cells #[.int .i64 t, .int .i64 x0, .int .i64 x1, .int .i64 x2, .slice a U.length cap] 32)).alloc (.cells #[.int .i64 0, .int .i64 0, .int .i64 0, .string ⟨#[]⟩] 98)).cell? ⟨w.heap.size, 4, none⟩ = some (.int .i64 p.r1) := by first | (simp; done) | (rw [World.cell?_alloc_at _ _ _ _ (by simp)]; rfl) | (rw [World.cell?_alloc_past _ _ _ (by simp <;> omega), World.cell?_alloc_at _ _ _ _ (by simp)]; rfl) | (rw [World.cell?_alloc_past _ _ _ (by simp <;> omega), World.cell?_alloc_past _ _ _ (by simp <;> omega), World.cell?_alloc_at _ _ _ _ (by simp)]; rfl)
    have pp5 : (((w.alloc (.cells #[.string p.id, .int .i64 p.prio, .bool p.crit, .int .i64 p.r0, .int .i64 p.r1, .int .i64 p.r2, .int .i64 p.l0, .int .i64 p.l1, .int .i64 p.l2, .string p.img, .int .i64 p.size] 62)).alloc (.cells #[.int .i64 t, .int .i64 x0, .int .i64 x1, .int .i64 x2, .slice a U.length cap] 32)).alloc (.cells #[.int .i64 0, .int .i64 0, .int .i64 0, .string ⟨#[]⟩] 98)).cell? ⟨w.heap.size, 5, none⟩ = some (.int .i64 p.r2) := by first | (simp; done) | (rw [World.cell?_alloc_at _ _ _ _ (by simp)]; rfl) | (rw [World.cell?_alloc_past _ _ _ (by simp <;> omega), World.cell?_alloc_at _ _ _ _ (by simp)]; rfl) | (rw [World.cell?_alloc_past _ _ _ (by simp <;> omega), World.cell?_alloc_past _ _ _ (by simp <;> omega), World.cell?_alloc_at _ _ _ _ (by simp)]; rfl)
    have pp6 : (((w.alloc (.cells #[.string p.id, .int .i64 p.prio, .bool p.crit, .int .i64 p.r0, .int .i64 p.r1, .int .i64 p.r2, .int .i64 p.l0, .int .i64 p.l1, .int .i64 p.l2, .string p.img, .int .i64 p.size] 62)).alloc (.cells #[.int .i64 t, .int .i64 x0, .int .i64 x1, .int .i64 x2, .slice a U.length cap] 32)).alloc (.cells #[.int .i64 0, .int .i64 0, .int .i64 0, .string ⟨#[]⟩] 98)).cell? ⟨w.heap.size, 6, none⟩ = some (.int .i64 p.l0) := by first | (simp; done) | (rw [World.cell?_alloc_at _ _ _ _ (by simp)]; rfl) | (rw [World.cell?_alloc_past _ _ _ (by simp <;> omega), World.cell?_alloc_at _ _ _ _ (by simp)]; rfl) | (rw [World.cell?_alloc_past _ _ _ (by simp <;> omega), World.cell?_alloc_past _ _ _ (by simp <;> omega), World.cell?_alloc_at _ _ _ _ (by simp)]; rfl)
    have pp7 : (((w.alloc (.cells #[.string p.id, .int .i64 p.prio, .bool p.crit, .int .i64 p.r0, .int .i64 p.r1, .int .i64 p.r2, .int .i64 p.l0, .int .i64 p.l1, .int .i64 p.l2, .string p.img, .int .i64 p.size] 62)).alloc (.cells #[.int .i64 t, .int .i64 x0, .int .i64 x1, .int .i64 x2, .slice a U.length cap] 32)).alloc (.cells #[.int .i64 0, .int .i64 0, .int .i64 0, .string ⟨#[]⟩] 98)).cell? ⟨w.heap.size, 7, none⟩ = some (.int .i64 p.l1) := by first | (simp; done) | (rw [World.cell?_alloc_at _ _ _ _ (by simp)]; rfl) | (rw [World.cell?_alloc_past _ _ _ (by simp <;> omega), World.cell?_alloc_at _ _ _ _ (by simp)]; rfl) | (rw [World.cell?_alloc_past _ _ _ (by simp <;> omega), World.cell?_alloc_past _ _ _ (by simp <;> omega), World.cell?_alloc_at _ _ _ _ (by simp)]; rfl)
    have pp8 : (((w.alloc (.cells #[.string p.id, .int .i64 p.prio, .bool p.crit, .int .i64 p.r0, .int .i64 p.r1, .int .i64 p.r2, .int .i64 p.l0, .int .i64 p.l1, .int .i64 p.l2, .string p.img, .int .i64 p.size] 62)).alloc (.cells #[.int .i64 t, .int .i64 x0, .int .i64 x1, .int .i64 x2, .slice a U.length cap] 32)).alloc (.cells #[.int .i64 0, .int .i64 0, .int .i64 0, .string ⟨#[]⟩] 98)).cell? ⟨w.heap.size, 8, none⟩ = some (.int .i64 p.l2) := by first | (simp; done) | (rw [World.cell?_alloc_at _ _ _ _ (by simp)]; rfl) | (rw [World.cell?_alloc_past _ _ _ (by simp <;> omega), World.cell?_alloc_at _ _ _ _ (by simp)]; rfl) | (rw [World.cell?_alloc_past _ _ _ (by simp <;> omega), World.cell?_alloc_past _ _ _ (by simp <;> omega), World.cell?_alloc_at _ _ _ _ (by simp)]; rfl)
    have pp9 : (((w.alloc (.cells #[.string p.id, .int .i64 p.prio, .bool p.crit, .int .i64 p.r0, .int .i64 p.r1, .int .i64 p.r2, .int .i64 p.l0, .int .i64 p.l1, .int .i64 p.l2, .string p.img, .int .i64 p.size] 62)).alloc (.cells #[.int .i64 t, .int .i64 x0, .int .i64 x1, .int .i64 x2, .slice a U.length cap] 32)).alloc (.cells #[.int .i64 0, .int .i64 0, .int .i64 0, .string ⟨#[]⟩] 98)).cell? ⟨w.heap.size, 9, none⟩ = some (.string p.img) := by first | (simp; done) | (rw [World.cell?_alloc_at _ _ _ _ (by simp)]; rfl) | (rw [World.cell?_alloc_past _ _ _ (by simp <;> omega), World.cell?_alloc_at _ _ _ _ (by simp)]; rfl) | (rw [World.cell?_alloc_past _ _ _ (by simp <;> omega), World.cell?_alloc_past _ _ _ (by simp <;> omega), World.cell?_alloc_at _ _ _ _ (by simp)]; rfl)
    have pp10 : (((w.alloc (.cells #[.string p.id, .int .i64 p.prio, .bool p.crit, .int .i64 p.r0, .int .i64 p.r1, .int .i64 p.r2, .int .i64 p.l0, .int .i64 p.l1, .int .i64 p.l2, .string p.img, .int .i64 p.size] 62)).alloc (.cells #[.int .i64 t, .int .i64 x0, .int .i64 x1, .int .i64 x2, .slice a U.length cap] 32)).alloc (.cells #[.int .i64 0, .int .i64 0, .int .i64 0, .string ⟨#[]⟩] 98)).cell? ⟨w.heap.size, 10, none⟩ = some (.int .i64 p.size) := by first | (simp; done) | (rw [World.cell?_alloc_at _ _ _ _ (by simp)]; rfl) | (rw [World.cell?_alloc_past _ _ _ (by simp <;> omega), World.cell?_alloc_at _ _ _ _ (by simp)]; rfl) | (rw [World.cell?_alloc_past _ _ _ (by simp <;> omega), World.cell?_alloc_past _ _ _ (by simp <;> omega), World.cell?_alloc_at _ _ _ _ (by simp)]; rfl)
    have sp0 : (((w.alloc (.cells #[.string p.id, .int .i64 p.prio, .bool p.crit, .int .i64 p.r0, .int .i64 p.r1, .int .i64 p.r2, .int .i64 p.l0, .int .i64 p.l1, .int .i64 p.l2, .string p.img, .int .i64 p.size] 62)).alloc (.cells #[.int .i64 t, .int .i64 x0, .int .i64 x1, .int .i64 x2, .slice a U.length cap] 32)).alloc (.cells #[.int .i64 0, .int .i64 0, .int .i64 0, .string ⟨#[]⟩] 98)).cell? ⟨w.heap.size + 1, 0, none⟩ = some (.int .i64 t) := by first | (simp; done) | (rw [World.cell?_alloc_at _ _ _ _ (by simp)]; rfl) | (rw [World.cell?_alloc_past _ _ _ (by simp <;> omega), World.cell?_alloc_at _ _ _ _ (by simp)]; rfl) | (rw [World.cell?_alloc_past _ _ _ (by simp <;> omega), World.cell?_alloc_past _ _ _ (by simp <;> omega), World.cell?_alloc_at _ _ _ _ (by simp)]; rfl)
    have sp1 : (((w.alloc (.cells #[.string p.id, .int .i64 p.prio, .bool p.crit, .int .i64 p.r0, .int .i64 p.r1, .int .i64 p.r2, .int .i64 p.l0, .int .i64 p.l1, .int .i64 p.l2, .string p.img, .int .i64 p.size] 62)).alloc (.cells #[.int .i64 t, .int .i64 x0, .int .i64 x1, .int .i64 x2, .slice a U.length cap] 32)).alloc (.cells #[.int .i64 0, .int .i64 0, .int .i64 0, .string ⟨#[]⟩] 98)).cell? ⟨w.heap.size + 1, 1, none⟩ = some (.int .i64 x0) := by first | (simp; done) | (rw [World.cell?_alloc_at _ _ _ _ (by simp)]; rfl) | (rw [World.cell?_alloc_past _ _ _ (by simp <;> omega), World.cell?_alloc_at _ _ _ _ (by simp)]; rfl) | (rw [World.cell?_alloc_past _ _ _ (by simp <;> omega), World.cell?_alloc_past _ _ _ (by simp <;> omega), World.cell?_alloc_at _ _ _ _ (by simp)]; rfl)
    have sp2 : (((w.alloc (.cells #[.string p.id, .int .i64 p.prio, .bool p.crit, .int .i64 p.r0, .int .i64 p.r1, .int .i64 p.r2, .int .i64 p.l0, .int .i64 p.l1, .int .i64 p.l2, .string p.img, .int .i64 p.size] 62)).alloc (.cells #[.int .i64 t, .int .i64 x0, .int .i64 x1, .int .i64 x2, .slice a U.length cap] 32)).alloc (.cells #[.int .i64 0, .int .i64 0, .int .i64 0, .string ⟨#[]⟩] 98)).cell? ⟨w.heap.size + 1, 2, none⟩ = some (.int .i64 x1) := by first | (simp; done) | (rw [World.cell?_alloc_at _ _ _ _ (by simp)]; rfl) | (rw [World.cell?_alloc_past _ _ _ (by simp <;> omega), World.cell?_alloc_at _ _ _ _ (by simp)]; rfl) | (rw [World.cell?_alloc_past _ _ _ (by simp <;> omega), World.cell?_alloc_past _ _ _ (by simp <;> omega), World.cell?_alloc_at _ _ _ _ (by simp)]; rfl)
    have sp3 : (((w.alloc (.cells #[.string p.id, .int .i64 p.prio, .bool p.crit, .int .i64 p.r0, .int .i64 p.r1, .int .i64 p.r2, .int .i64 p.l0, .int .i64 p.l1, .int .i64 p.l2, .string p.img, .int .i64 p.size] 62)).alloc (.cells #[.int .i64 t, .int .i64 x0, .int .i64 x1, .int .i64 x2, .slice a U.length cap] 32)).alloc (.cells #[.int .i64 0, .int .i64 0, .int .i64 0, .string ⟨#[]⟩] 98)).cell? ⟨w.heap.size + 1, 3, none⟩ = some (.int .i64 x2) := by first | (simp; done) | (rw [World.cell?_alloc_at _ _ _ _ (by simp)]; rfl) | (rw [World.cell?_alloc_past _ _ _ (by simp <;> omega), World.cell?_alloc_at _ _ _ _ (by simp)]; rfl) | (rw [World.cell?_alloc_past _ _ _ (by simp <;> omega), World.cell?_alloc_past _ _ _ (by simp <;> omega), World.cell?_alloc_at _ _ _ _ (by simp)]; rfl)
    have sp4 : (((w.alloc (.cells #[.string p.id, .int .i64 p.prio, .bool p.crit, .int .i64 p.r0, .int .i64 p.r1, .int .i64 p.r2, .int .i64 p.l0, .int .i64 p.l1, .int .i64 p.l2, .string p.img, .int .i64 p.size] 62)).alloc (.cells #[.int .i64 t, .int .i64 x0, .int .i64 x1, .int .i64 x2, .slice a U.length cap] 32)).alloc (.cells #[.int .i64 0, .int .i64 0, .int .i64 0, .string ⟨#[]⟩] 98)).cell? ⟨w.heap.size + 1, 4, none⟩ = some (.slice a U.length cap) := by first | (simp; done) | (rw [World.cell?_alloc_at _ _ _ _ (by simp)]; rfl) | (rw [World.cell?_alloc_past _ _ _ (by simp <;> omega), World.cell?_alloc_at _ _ _ _ (by simp)]; rfl) | (rw [World.cell?_alloc_past _ _ _ (by simp <;> omega), World.cell?_alloc_past _ _ _ (by simp <;> omega), World.cell?_alloc_at _ _ _ _ (by simp)]; rfl)
    have rr0 : (((w.alloc (.cells #[.string p.id, .int .i64 p.prio, .bool p.crit, .int .i64 p.r0, .int .i64 p.r1, .int .i64 p.r2, .int .i64 p.l0, .int .i64 p.l1, .int .i64 p.l2, .string p.img, .int .i64 p.size] 62)).alloc (.cells #[.int .i64 t, .int .i64 x0, .int .i64 x1, .int .i64 x2, .slice a U.length cap] 32)).alloc (.cells #[.int .i64 0, .int .i64 0, .int .i64 0, .string ⟨#[]⟩] 98)).cell? ⟨w.heap.size + 2, 0, none⟩ = some (.int .i64 0) := by first | (simp; done) | (rw [World.cell?_alloc_at _ _ _ _ (by simp)]; rfl) | (rw [World.cell?_alloc_past _ _ _ (by simp <;> omega), World.cell?_alloc_at _ _ _ _ (by simp)]; rfl) | (rw [World.cell?_alloc_past _ _ _ (by simp <;> omega), World.cell?_alloc_past _ _ _ (by simp <;> omega), World.cell?_alloc_at _ _ _ _ (by simp)]; rfl)
    have rr1 : (((w.alloc (.cells #[.string p.id, .int .i64 p.prio, .bool p.crit, .int .i64 p.r0, .int .i64 p.r1, .int .i64 p.r2, .int .i64 p.l0, .int .i64 p.l1, .int .i64 p.l2, .string p.img, .int .i64 p.size] 62)).alloc (.cells #[.int .i64 t, .int .i64 x0, .int .i64 x1, .int .i64 x2, .slice a U.length cap] 32)).alloc (.cells #[.int .i64 0, .int .i64 0, .int .i64 0, .string ⟨#[]⟩] 98)).cell? ⟨w.heap.size + 2, 1, none⟩ = some (.int .i64 0) := by first | (simp; done) | (rw [World.cell?_alloc_at _ _ _ _ (by simp)]; rfl) | (rw [World.cell?_alloc_past _ _ _ (by simp <;> omega), World.cell?_alloc_at _ _ _ _ (by simp)]; rfl) | (rw [World.cell?_alloc_past _ _ _ (by simp <;> omega), World.cell?_alloc_past _ _ _ (by simp <;> omega), World.cell?_alloc_at _ _ _ _ (by simp)]; rfl)
    have rr2 : (((w.alloc (.cells #[.string p.id, .int .i64 p.prio, .bool p.crit, .int .i64 p.r0, .int .i64 p.r1, .int .i64 p.r2, .int .i64 p.l0, .int .i64 p.l1, .int .i64 p.l2, .string p.img, .int .i64 p.size] 62)).alloc (.cells #[.int .i64 t, .int .i64 x0, .int .i64 x1, .int .i64 x2, .slice a U.length cap] 32)).alloc (.cells #[.int .i64 0, .int .i64 0, .int .i64 0, .string ⟨#[]⟩] 98)).cell? ⟨w.heap.size + 2, 2, none⟩ = some (.int .i64 0) := by first | (simp; done) | (rw [World.cell?_alloc_at _ _ _ _ (by simp)]; rfl) | (rw [World.cell?_alloc_past _ _ _ (by simp <;> omega), World.cell?_alloc_at _ _ _ _ (by simp)]; rfl) | (rw [World.cell?_alloc_past _ _ _ (by simp <;> omega), World.cell?_alloc_past _ _ _ (by simp <;> omega), World.cell?_alloc_at _ _ _ _ (by simp)]; rfl)
    have rr3 : (((w.alloc (.cells #[.string p.id, .int .i64 p.prio, .bool p.crit, .int .i64 p.r0, .int .i64 p.r1, .int .i64 p.r2, .int .i64 p.l0, .int .i64 p.l1, .int .i64 p.l2, .string p.img, .int .i64 p.size] 62)).alloc (.cells #[.int .i64 t, .int .i64 x0, .int .i64 x1, .int .i64 x2, .slice a U.length cap] 32)).alloc (.cells #[.int .i64 0, .int .i64 0, .int .i64 0, .string ⟨#[]⟩] 98)).cell? ⟨w.heap.size + 2, 3, none⟩ = some (.string ⟨#[]⟩) := by first | (simp; done) | (rw [World.cell?_alloc_at _ _ _ _ (by simp)]; rfl) | (rw [World.cell?_alloc_past _ _ _ (by simp <;> omega), World.cell?_alloc_at _ _ _ _ (by simp)]; rfl) | (rw [World.cell?_alloc_past _ _ _ (by simp <;> omega), World.cell?_alloc_past _ _ _ (by simp <;> omega), World.cell?_alloc_at _ _ _ _ (by simp)]; rfl)
    have hb2 := (by repeat (first | exact hbel | refine belAlloc ?_ _ | refine belDrew ?_ | refine belSet ?_ _ _ (by simp)) : Below w.heap.size w (((w.alloc (.cells #[.string p.id, .int .i64 p.prio, .bool p.crit, .int .i64 p.r0, .int .i64 p.r1, .int .i64 p.r2, .int .i64 p.l0, .int .i64 p.l1, .int .i64 p.l2, .string p.img, .int .i64 p.size] 62)).alloc (.cells #[.int .i64 t, .int .i64 x0, .int .i64 x1, .int .i64 x2, .slice a U.length cap] 32)).alloc (.cells #[.int .i64 0, .int .i64 0, .int .i64 0, .string ⟨#[]⟩] 98)))
    replace hw := belStep hw hb2
    have rrB : Blk (((w.alloc (.cells #[.string p.id, .int .i64 p.prio, .bool p.crit, .int .i64 p.r0, .int .i64 p.r1, .int .i64 p.r2, .int .i64 p.l0, .int .i64 p.l1, .int .i64 p.l2, .string p.img, .int .i64 p.size] 62)).alloc (.cells #[.int .i64 t, .int .i64 x0, .int .i64 x1, .int .i64 x2, .slice a U.length cap] 32)).alloc (.cells #[.int .i64 0, .int .i64 0, .int .i64 0, .string ⟨#[]⟩] 98)) (w.heap.size + 2) [.int .i64 0, .int .i64 0, .int .i64 0, .string ⟨#[]⟩] 98 := (Blk.at (by simp) : Blk (((w.alloc (.cells #[.string p.id, .int .i64 p.prio, .bool p.crit, .int .i64 p.r0, .int .i64 p.r1, .int .i64 p.r2, .int .i64 p.l0, .int .i64 p.l1, .int .i64 p.l2, .string p.img, .int .i64 p.size] 62)).alloc (.cells #[.int .i64 t, .int .i64 x0, .int .i64 x1, .int .i64 x2, .slice a U.length cap] 32)).alloc (.cells #[.int .i64 0, .int .i64 0, .int .i64 0, .string ⟨#[]⟩] 98)) (w.heap.size + 2) [.int .i64 0, .int .i64 0, .int .i64 0, .string ⟨#[]⟩] 98).later (by repeat (first | exact Below.refl _ _ | refine belAlloc ?_ _))
    have rrF := Blk.keepF rrB
    replace rrB := Blk.keepB rrB
    clear hb2 hbel
    generalize ((w.alloc (.cells #[.string p.id, .int .i64 p.prio, .bool p.crit, .int .i64 p.r0, .int .i64 p.r1, .int .i64 p.r2, .int .i64 p.l0, .int .i64 p.l1, .int .i64 p.l2, .string p.img, .int .i64 p.size] 62)).alloc (.cells #[.int .i64 t, .int .i64 x0, .int .i64 x1, .int .i64 x2, .slice a U.length cap] 32)).alloc (.cells #[.int .i64 0, .int .i64 0, .int .i64 0, .string ⟨#[]⟩] 98) = W1 at *
    replace pp0 := keep pp0
    replace pp1 := keep pp1
    replace pp2 := keep pp2
    replace pp3 := keep pp3
    replace pp4 := keep pp4
    replace pp5 := keep pp5
    replace pp6 := keep pp6
    replace pp7 := keep pp7
    replace pp8 := keep pp8
    replace pp9 := keep pp9
    replace pp10 := keep pp10
    replace sp0 := keep sp0
    replace sp1 := keep sp1
    replace sp2 := keep sp2
    replace sp3 := keep sp3
    replace sp4 := keep sp4
    replace rr0 := keep rr0
    replace rr1 := keep rr1
    replace rr2 := keep rr2
    replace rr3 := keep rr3
    have hbel : Below W1.heap.size W1 W1 := Below.refl _ _
    skip
    have hz1 : w.heap.size + 2 < W1.heap.size := (rrB _ hbel).lt
    have hix := HIX.out
    go_upto_region 4 with (first | (go_at_call 25; (with_reducible refine (CO.out _ (belStep hw hbel)).mono ?_); rintro e w1 ⟨rfl, hb1⟩; replace hbel := belStep hbel hb1; clear hb1))
    clear hix
    replace pp0 := keepOnP pp0 hbel
    replace pp1 := keepOnP pp1 hbel
    replace pp2 := keepOnP pp2 hbel
    replace pp3 := keepOnP pp3 hbel
    replace pp4 := keepOnP pp4 hbel
    replace pp5 := keepOnP pp5 hbel
    replace pp6 := keepOnP pp6 hbel
    replace pp7 := keepOnP pp7 hbel
    replace pp8 := keepOnP pp8 hbel
    replace pp9 := keepOnP pp9 hbel
    replace pp10 := keepOnP pp10 hbel
    replace sp0 := keepOnP sp0 hbel
    replace sp1 := keepOnP sp1 hbel
    replace sp2 := keepOnP sp2 hbel
    replace sp3 := keepOnP sp3 hbel
    replace sp4 := keepOnP sp4 hbel
    replace rr0 := keepOnP rr0 hbel
    replace rr1 := keepOnP rr1 hbel
    replace rr2 := keepOnP rr2 hbel
    replace rr3 := keepOnP rr3 hbel
    replace rrF := keepOnP rrF hbel
    replace rrB := keepOnP rrB hbel
    replace hw := belStep hw hbel
    clear hbel
    generalize w1 = W2 at *
    have hbel : Below W2.heap.size W2 W2 := Below.refl _ _
    have hz2 : w.heap.size + 2 < W2.heap.size := (rrB _ (Below.refl _ _)).lt
    have hsub := HSUB.out
    refine wp_region_held_drew (S := fun u => Below W2.heap.size W2 u) (by kernel_rfl) (by exact (show Below W2.heap.size W2 _ by repeat (first | assumption | exact Below.refl _ _ | refine belDrew ?_ | refine belAlloc ?_ _ | refine belStep ?_ (by assumption)))) (fun hHeld => ?_)
    refine wpAnyH_take (i := 0) (oi := ?oi_k2) (v := ?v_k2) ?hi_k2 (by kernel_rfl) ?hf_k2 ?hr_k2 ?hQ_k2 (Or.inl ⟨?hw_k2, ?hy_k2⟩) (by assumption) ?rest_k2
    case hi_k2 => ((simp only [List.getElem?_toArray, List.getElem?_cons_succ, List.getElem?_cons_zero]); rfl)
    case hf_k2 => kernel_rfl
    case hr_k2 => kernel_rfl
    case hQ_k2 => exact fun _ _ _ h => h
    case hw_k2 => rfl
    case hy_k2 => ((intro w hSw; (try dsimp only at hSw); go_simp); all_goals (with_reducible rfl))
    try simp only [Act.put, List.setIfInBounds_toArray, List.set_cons_zero, List.set_cons_succ]
    refine wpAnyH_take (i := 1) (oi := ?oi_k3) (v := ?v_k3) ?hi_k3 (by kernel_rfl) ?hf_k3 ?hr_k3 ?hQ_k3 (Or.inl ⟨?hw_k3, ?hy_k3⟩) (by assumption) ?rest_k3
    case hi_k3 => ((simp only [List.getElem?_toArray, List.getElem?_cons_succ, List.getElem?_cons_zero]); rfl)
    case hf_k3 => kernel_rfl
    case hr_k3 => kernel_rfl
    case hQ_k3 => exact fun _ _ _ h => h
    case hw_k3 => rfl
    case hy_k3 => ((intro w hSw; (try dsimp only at hSw); go_simp); all_goals (with_reducible rfl))
    try simp only [Act.put, List.setIfInBounds_toArray, List.set_cons_zero, List.set_cons_succ]
    refine wpAnyH_take (i := 2) (oi := ?oi_k4) (v := ?v_k4) ?hi_k4 (by kernel_rfl) ?hf_k4 ?hr_k4 ?hQ_k4 (Or.inl ⟨?hw_k4, ?hy_k4⟩) (by assumption) ?rest_k4
    case hi_k4 => ((simp only [List.getElem?_toArray, List.getElem?_cons_succ, List.getElem?_cons_zero]); rfl)
    case hf_k4 => kernel_rfl
    case hr_k4 => kernel_rfl
    case hQ_k4 => exact fun _ _ _ h => h
    case hw_k4 => rfl
    case hy_k4 => ((intro w hSw; (try dsimp only at hSw); go_simp); all_goals (with_reducible rfl))
    try simp only [Act.put, List.setIfInBounds_toArray, List.set_cons_zero, List.set_cons_succ]
    refine wpAnyH_take (i := 3) (oi := ?oi_k5) (v := ?v_k5) ?hi_k5 (by kernel_rfl) ?hf_k5 ?hr_k5 ?hQ_k5 (Or.inl ⟨?hw_k5, ?hy_k5⟩) (by assumption) ?rest_k5
    case hi_k5 => ((simp only [List.getElem?_toArray, List.getElem?_cons_succ, List.getElem?_cons_zero]); rfl)
    case hf_k5 => kernel_rfl
    case hr_k5 => kernel_rfl
    case hQ_k5 => exact fun _ _ _ h => h
    case hw_k5 => rfl
    case hy_k5 => ((intro w hSw; (try dsimp only at hSw); go_simp); all_goals (with_reducible rfl))
    try simp only [Act.put, List.setIfInBounds_toArray, List.set_cons_zero, List.set_cons_succ]
    refine wpAnyH_take (i := 4) (oi := ?oi_k6) (v := ?v_k6) ?hi_k6 (by kernel_rfl) ?hf_k6 ?hr_k6 ?hQ_k6 (Or.inl ⟨?hw_k6, ?hy_k6⟩) (by assumption) ?rest_k6
    case hi_k6 => ((simp only [List.getElem?_toArray, List.getElem?_cons_succ, List.getElem?_cons_zero]); rfl)
    case hf_k6 => kernel_rfl
    case hr_k6 => kernel_rfl
    case hQ_k6 => exact fun _ _ _ h => h
    case hw_k6 => rfl
    case hy_k6 => ((intro w hSw; (try dsimp only at hSw); go_simp); all_goals (with_reducible rfl))
    try simp only [Act.put, List.setIfInBounds_toArray, List.set_cons_zero, List.set_cons_succ]
    refine wpAnyH_take (i := 7) (oi := ?oi_k7) (v := ?v_k7) ?hi_k7 (by kernel_rfl) ?hf_k7 ?hr_k7 ?hQ_k7 (Or.inl ⟨?hw_k7, ?hy_k7⟩) (by assumption) ?rest_k7
    case hi_k7 => ((simp only [List.getElem?_toArray, List.getElem?_cons_succ, List.getElem?_cons_zero]); rfl)
    case hf_k7 => kernel_rfl
    case hr_k7 => kernel_rfl
    case hQ_k7 => exact fun _ _ _ h => h
    case hw_k7 => rfl
    case hy_k7 => ((intro w hSw; (try dsimp only at hSw); go_simp); all_goals (with_reducible rfl))
    try simp only [Act.put, List.setIfInBounds_toArray, List.set_cons_zero, List.set_cons_succ]
    refine wpAnyH_take (i := 8) (oi := ?oi_k8) (v := ?v_k8) ?hi_k8 (by kernel_rfl) ?hf_k8 ?hr_k8 ?hQ_k8 (Or.inl ⟨?hw_k8, ?hy_k8⟩) (by assumption) ?rest_k8
    case hi_k8 => ((simp only [List.getElem?_toArray, List.getElem?_cons_succ, List.getElem?_cons_zero]); rfl)
    case hf_k8 => kernel_rfl
    case hr_k8 => kernel_rfl
    case hQ_k8 => exact fun _ _ _ h => h
    case hw_k8 => rfl
    case hy_k8 => ((intro w hSw; (try dsimp only at hSw); go_simp); all_goals (with_reducible rfl))
    try simp only [Act.put, List.setIfInBounds_toArray, List.set_cons_zero, List.set_cons_succ]
    refine krip (fun u u' => Below u.heap.size u u') [26, 27, 30, 8] [[], [], [], [], [], [], [5], [], [], [5, 6], [], [5, 6, 9, 10]] [[], [], [], [], [], [26], [27], [], [], [30], [8], []] [5, 6, 9, 10] (krF [(5, fun t u => t 26 = .int .i64 ak), (6, fun t u => t 27 = .int .i64 (us - ak)), (9, fun t u => t 30 = .agg #[.int .i64 1, .int .i64 p.prio, .int .i64 (us - ak), .string p.id]), (10, fun t u => ∃ P : Nat, t 8 = .pointer (some ⟨P, 0, none⟩) ∧ Blk u P [.int .i64 0, .int .i64 0, .int .i64 0, .string ⟨#[]⟩] 98 ∧ W2.heap.size ≤ P)]) 1 #[true, true, true, true, true, true, true, true, true, true, true, false] (by kernel_rfl) (by kernel_rfl) (by kernel_rfl) (by assumption) (AllL.cons ?s_5_q9 (AllL.cons ?s_6_q9 (AllL.cons ?s_9_q9 (AllL.cons ?s_10_q9 AllL.nil)))) (AllL.cons ?o_5_q9 (AllL.cons ?o_6_q9 (AllL.cons ?o_9_q9 (AllL.cons ?o_10_q9 AllL.nil)))) ?e_q9
    case s_5_q9 => exact fun t u u' hle h => h
    case s_6_q9 => exact fun t u u' hle h => h
    case s_9_q9 => exact fun t u u' hle h => h
    case s_10_q9 => exact fun t u u' hle ⟨P, e, hb, hp⟩ => ⟨P, e, hb.later hle, hp⟩
    case o_5_q9 =>
      refine KrOp.of (o := ?oo_5_q9) ?hi_5_q9 (fun t u hHeld hF K hK => ?rr_5_q9)
      case hi_5_q9 => ((simp only [List.getElem?_toArray, List.getElem?_cons_succ, List.getElem?_cons_zero]); rfl)
      case rr_5_q9 =>
        clear hF
        simp only [setl, List.foldl_cons, List.foldl_nil, Act.put, List.setIfInBounds_toArray, List.set_cons_zero, List.set_cons_succ] at hK ⊢
        go_simp
        (go_at_call 39; (with_reducible refine (CA.out _).mono ?_); rintro e wq ⟨rfl, hbq⟩)
        try go_simp
        refine hK.out _ _ (by exact (by repeat (first | assumption | exact Below.refl _ _ | refine belDrew ?_ | refine belAlloc ?_ _ | refine belStep ?_ (by assumption)))) (by exact (show Below W2.heap.size W2 _ by repeat (first | assumption | exact Below.refl _ _ | refine belDrew ?_ | refine belAlloc ?_ _ | refine belStep ?_ (by assumption)))) ?_
        exact rfl
    case o_6_q9 =>
      refine KrOp.of (o := ?oo_6_q9) ?hi_6_q9 (fun t u hHeld hF K hK => ?rr_6_q9)
      case hi_6_q9 => ((simp only [List.getElem?_toArray, List.getElem?_cons_succ, List.getElem?_cons_zero]); rfl)
      case rr_6_q9 =>
        have h5 : t 26 = .int .i64 ak := hF 5 rfl rfl
        clear hF
        simp only [setl, List.foldl_cons, List.foldl_nil, Act.put, List.setIfInBounds_toArray, List.set_cons_zero, List.set_cons_succ] at hK ⊢
        generalize t 26 = x26 at *
        subst h5
        go_simp
        refine hK.out _ _ (by exact (by repeat (first | assumption | exact Below.refl _ _ | refine belDrew ?_ | refine belAlloc ?_ _ | refine belStep ?_ (by assumption)))) (by exact (show Below W2.heap.size W2 _ by repeat (first | assumption | exact Below.refl _ _ | refine belDrew ?_ | refine belAlloc ?_ _ | refine belStep ?_ (by assumption)))) ?_
        exact rfl
    case o_9_q9 =>
      refine KrOp.of (o := ?oo_9_q9) ?hi_9_q9 (fun t u hHeld hF K hK => ?rr_9_q9)
      case hi_9_q9 => ((simp only [List.getElem?_toArray, List.getElem?_cons_succ, List.getElem?_cons_zero]); rfl)
      case rr_9_q9 =>
        have h5 : t 26 = .int .i64 ak := hF 5 rfl rfl
        have h6 : t 27 = .int .i64 (us - ak) := hF 6 rfl rfl
        clear hF
        simp only [setl, List.foldl_cons, List.foldl_nil, Act.put, List.setIfInBounds_toArray, List.set_cons_zero, List.set_cons_succ] at hK ⊢
        generalize t 26 = x26 at *
        generalize t 27 = x27 at *
        subst h6
        subst h5
        go_simp
        refine hK.out _ _ (by exact (by repeat (first | assumption | exact Below.refl _ _ | refine belDrew ?_ | refine belAlloc ?_ _ | refine belStep ?_ (by assumption)))) (by exact (show Below W2.heap.size W2 _ by repeat (first | assumption | exact Below.refl _ _ | refine belDrew ?_ | refine belAlloc ?_ _ | refine belStep ?_ (by assumption)))) ?_
        exact rfl
    case o_10_q9 =>
      refine KrOp.of (o := ?oo_10_q9) ?hi_10_q9 (fun t u hHeld hF K hK => ?rr_10_q9)
      case hi_10_q9 => ((simp only [List.getElem?_toArray, List.getElem?_cons_succ, List.getElem?_cons_zero]); rfl)
      case rr_10_q9 =>
        clear hF
        simp only [setl, List.foldl_cons, List.foldl_nil, Act.put, List.setIfInBounds_toArray, List.set_cons_zero, List.set_cons_succ] at hK ⊢
        go_simp
        refine hK.out _ _ (by exact (by repeat (first | assumption | exact Below.refl _ _ | refine belDrew ?_ | refine belAlloc ?_ _ | refine belStep ?_ (by assumption)))) (by exact (show Below W2.heap.size W2 _ by repeat (first | assumption | exact Below.refl _ _ | refine belDrew ?_ | refine belAlloc ?_ _ | refine belStep ?_ (by assumption)))) ?_
        exact ⟨_, rfl, Blk.new _ [.int .i64 0, .int .i64 0, .int .i64 0, .string ⟨#[]⟩] 98, (Below.size hHeld)⟩
    case e_q9 =>
      intro t u hHeld hF
      have h5 : t 26 = .int .i64 ak := hF 5 rfl
      have h6 : t 27 = .int .i64 (us - ak) := hF 6 rfl
      have h9 : t 30 = .agg #[.int .i64 1, .int .i64 p.prio, .int .i64 (us - ak), .string p.id] := hF 9 rfl
      have h10 : ∃ P : Nat, t 8 = .pointer (some ⟨P, 0, none⟩) ∧ Blk u P [.int .i64 0, .int .i64 0, .int .i64 0, .string ⟨#[]⟩] 98 ∧ W2.heap.size ≤ P := hF 10 rfl
      clear hF
      simp only [setl, List.foldl_cons, List.foldl_nil, Act.put, List.setIfInBounds_toArray, List.set_cons_zero, List.set_cons_succ]
      generalize t 26 = x26 at *
      generalize t 27 = x27 at *
      generalize t 30 = x30 at *
      generalize t 8 = x8 at *
      obtain ⟨Kb, rfl, hP, hPW⟩ := h10
      subst h9
      subst h6
      subst h5
      have y0 := hP.cell (j := 0) rfl
      have y1 := hP.cell (j := 1) rfl
      have y2 := hP.cell (j := 2) rfl
      have y3 := hP.cell (j := 3) rfl
      have yf := hP.frozen
      refine wpAnyH_ready (rs := [11]) (by kernel_rfl) (by simp) ?_
      refine AllReadyH.cons (o := ?o1_k1) ?hi_k1 (fun K hK => ?rest_k1) AllReadyH.nil
      case hi_k1 => ((simp only [List.getElem?_toArray, List.getElem?_cons_succ, List.getElem?_cons_zero]); rfl)
      go_simp
      have hbN := (belSet (belSet (belSet (belSet hHeld ⟨Kb, 0, none⟩ (.int .i64 1) hPW) ⟨Kb, 1, none⟩ (.int .i64 p.prio) hPW) ⟨Kb, 2, none⟩ (.int .i64 (us - ak)) hPW) ⟨Kb, 3, none⟩ (.string p.id) hPW)
      have hRN := ((((hP.set 0 (.int .i64 1)).set 1 (.int .i64 p.prio)).set 2 (.int .i64 (us - ak))).set 3 (.string p.id))
      generalize ((((u.setCell ⟨Kb, 0, none⟩ (.int .i64 1)).setCell ⟨Kb, 1, none⟩ (.int .i64 p.prio)).setCell ⟨Kb, 2, none⟩ (.int .i64 (us - ak))).setCell ⟨Kb, 3, none⟩ (.string p.id)) = W3 at hbN hRN ⊢
      refine hK.out _ _ (by exact (show Below W2.heap.size W2 _ by repeat (first | assumption | exact Below.refl _ _ | refine belDrew ?_ | refine belAlloc ?_ _ | refine belStep ?_ (by assumption)))) (fun hHeld => ?_)
      clear hK K
      try simp only [Act.put, List.setIfInBounds_toArray, List.set_cons_zero, List.set_cons_succ]
      refine wpAnyH_done (by kernel_rfl) ?_ _
      clear hHeld hP yf y0 y1 y2 y3
      clear hbel hsub
      obtain ⟨E, hE⟩ : ∃ E, us - ak = E := ⟨_, rfl⟩
      rw [hE] at hRN
      have HX2 := Lib.hid (HX.out.trans hE)
      simp only [hE]
      clear hE hu0 hu1 ha0 ha1 HX HSUB CA CO HIX
      have hKW := hPW
      have HK3 := Lib.hid hRN
      have hbel := hbN
      have y0 := hRN.cell (j := 0) rfl
      have y1 := hRN.cell (j := 1) rfl
      have y2 := hRN.cell (j := 2) rfl
      have y3 := hRN.cell (j := 3) rfl
      have yf := hRN.frozen
      clear hbN hRN hPW
      by_cases hx : 0 < E
      · have HV := Lib.hid (show keyF 0 p U = ⟨0, p.prio, E, p.id⟩ by unfold keyF; rw [HX2.out, if_pos hx])
        go_upto_region 7 with fail
        have hb4 := belSet hbel ⟨Kb, 0, none⟩ (.int .i64 0) hKW
        have hK4 := HK3.out.set 0 (.int .i64 0)
        clear y0 y1 y2 y3 yf hbel
        generalize W3.setCell ⟨Kb, 0, none⟩ (.int .i64 0) = W4 at *
        have hbel := hb4
        have y0 := hK4.cell (j := 0) rfl
        have y1 := hK4.cell (j := 1) rfl
        have y2 := hK4.cell (j := 2) rfl
        have y3 := hK4.cell (j := 3) rfl
        clear hb4 hK4
        go_wp2
        exact key_ret _ _ _ 0 p.prio E p.id _ rfl (((((rrB _ hbel).set 0 _).set 1 _).set 2 _).set 3 _) ⟨by rw [HV.out] <;> rfl, by repeat (first | exact belStep hw hbel | refine belSet ?_ _ _ (by dsimp only; omega))⟩
      · have HV := Lib.hid (show keyF 0 p U = ⟨1, p.prio, E, p.id⟩ by unfold keyF; rw [HX2.out, if_neg hx])
        go_wp2
        exact key_ret _ _ _ 1 p.prio E p.id _ rfl (((((rrB _ hbel).set 0 _).set 1 _).set 2 _).set 3 _) ⟨by rw [HV.out] <;> rfl, by repeat (first | exact belStep hw hbel | refine belSet ?_ _ _ (by dsimp only; omega))⟩
  · obtain rfl : G = 1 := hG
    have hix : ∀ u : World, (Instr.index 29 (.agg #[.int .i64 o.a, .int .i64 o.b, .int .i64 o.c]) (.int .i64 1)).run Try.prog u = .ok (.int .i64 us) u := fun u => by rw [← hus0]; kernel_rfl
    have HIX := Lib.hid hix
    clear hus0
    go_enter Try.func60, Try.ntmps60
    go_upto_region 1 with fail
    have pp0 : (((w.alloc (.cells #[.string p.id, .int .i64 p.prio, .bool p.crit, .int .i64 p.r0, .int .i64 p.r1, .int .i64 p.r2, .int .i64 p.l0, .int .i64 p.l1, .int .i64 p.l2, .string p.img, .int .i64 p.size] 62)).alloc (.cells #[.int .i64 t, .int .i64 x0, .int .i64 x1, .int .i64 x2, .slice a U.length cap] 32)).alloc (.cells #[.int .i64 0, .int .i64 0, .int .i64 0, .string ⟨#[]⟩] 98)).cell? ⟨w.heap.size, 0, none⟩ = some (.string p.id) := by first | (simp; done) | (rw [World.cell?_alloc_at _ _ _ _ (by simp)]; rfl) | (rw [World.cell?_alloc_past _ _ _ (by simp <;> omega), World.cell?_alloc_at _ _ _ _ (by simp)]; rfl) | (rw [World.cell?_alloc_past _ _ _ (by simp <;> omega), World.cell?_alloc_past _ _ _ (by simp <;> omega), World.cell?_alloc_at _ _ _ _ (by simp)]; rfl)
    have pp1 : (((w.alloc (.cells #[.string p.id, .int .i64 p.prio, .bool p.crit, .int .i64 p.r0, .int .i64 p.r1, .int .i64 p.r2, .int .i64 p.l0, .int .i64 p.l1, .int .i64 p.l2, .string p.img, .int .i64 p.size] 62)).alloc (.cells #[.int .i64 t, .int .i64 x0, .int .i64 x1, .int .i64 x2, .slice a U.length cap] 32)).alloc (.cells #[.int .i64 0, .int .i64 0, .int .i64 0, .string ⟨#[]⟩] 98)).cell? ⟨w.heap.size, 1, none⟩ = some (.int .i64 p.prio) := by first | (simp; done) | (rw [World.cell?_alloc_at _ _ _ _ (by simp)]; rfl) | (rw [World.cell?_alloc_past _ _ _ (by simp <;> omega), World.cell?_alloc_at _ _ _ _ (by simp)]; rfl) | (rw [World.cell?_alloc_past _ _ _ (by simp <;> omega), World.cell?_alloc_past _ _ _ (by simp <;> omega), World.cell?_alloc_at _ _ _ _ (by simp)]; rfl)
    have pp2 : (((w.alloc (.cells #[.string p.id, .int .i64 p.prio, .bool p.crit, .int .i64 p.r0, .int .i64 p.r1, .int .i64 p.r2, .int .i64 p.l0, .int .i64 p.l1, .int .i64 p.l2, .string p.img, .int .i64 p.size] 62)).alloc (.cells #[.int .i64 t, .int .i64 x0, .int .i64 x1, .int .i64 x2, .slice a U.length cap] 32)).alloc (.cells #[.int .i64 0, .int .i64 0, .int .i64 0, .string ⟨#[]⟩] 98)).cell? ⟨w.heap.size, 2, none⟩ = some (.bool p.crit) := by first | (simp; done) | (rw [World.cell?_alloc_at _ _ _ _ (by simp)]; rfl) | (rw [World.cell?_alloc_past _ _ _ (by simp <;> omega), World.cell?_alloc_at _ _ _ _ (by simp)]; rfl) | (rw [World.cell?_alloc_past _ _ _ (by simp <;> omega), World.cell?_alloc_past _ _ _ (by simp <;> omega), World.cell?_alloc_at _ _ _ _ (by simp)]; rfl)
    have pp3 : (((w.alloc (.cells #[.string p.id, .int .i64 p.prio, .bool p.crit, .int .i64 p.r0, .int .i64 p.r1, .int .i64 p.r2, .int .i64 p.l0, .int .i64 p.l1, .int .i64 p.l2, .string p.img, .int .i64 p.size] 62)).alloc (.cells #[.int .i64 t, .int .i64 x0, .int .i64 x1, .int .i64 x2, .slice a U.length cap] 32)).alloc (.cells #[.int .i64 0, .int .i64 0, .int .i64 0, .string ⟨#[]⟩] 98)).cell? ⟨w.heap.size, 3, none⟩ = some (.int .i64 p.r0) := by first | (simp; done) | (rw [World.cell?_alloc_at _ _ _ _ (by simp)]; rfl) | (rw [World.cell?_alloc_past _ _ _ (by simp <;> omega), World.cell?_alloc_at _ _ _ _ (by simp)]; rfl) | (rw [World.cell?_alloc_past _ _ _ (by simp <;> omega), World.cell?_alloc_past _ _ _ (by simp <;> omega), World.cell?_alloc_at _ _ _ _ (by simp)]; rfl)
    have pp4 : (((w.alloc (.cells #[.string p.id, .int .i64 p.prio, .bool p.crit, .int .i64 p.r0, .int .i64 p.r1, .int .i64 p.r2, .int .i64 p.l0, .int .i64 p.l1, .int .i64 p.l2, .string p.img, .int .i64 p.size] 62)).alloc (.cells #[.int .i64 t, .int .i64 x0, .int .i64 x1, .int .i64 x2, .slice a U.length cap] 32)).alloc (.cells #[.int .i64 0, .int .i64 0, .int .i64 0, .string ⟨#[]⟩] 98)).cell? ⟨w.heap.size, 4, none⟩ = some (.int .i64 p.r1) := by first | (simp; done) | (rw [World.cell?_alloc_at _ _ _ _ (by simp)]; rfl) | (rw [World.cell?_alloc_past _ _ _ (by simp <;> omega), World.cell?_alloc_at _ _ _ _ (by simp)]; rfl) | (rw [World.cell?_alloc_past _ _ _ (by simp <;> omega), World.cell?_alloc_past _ _ _ (by simp <;> omega), World.cell?_alloc_at _ _ _ _ (by simp)]; rfl)
    have pp5 : (((w.alloc (.cells #[.string p.id, .int .i64 p.prio, .bool p.crit, .int .i64 p.r0, .int .i64 p.r1, .int .i64 p.r2, .int .i64 p.l0, .int .i64 p.l1, .int .i64 p.l2, .string p.img, .int .i64 p.size] 62)).alloc (.cells #[.int .i64 t, .int .i64 x0, .int .i64 x1, .int .i64 x2, .slice a U.length cap] 32)).alloc (.cells #[.int .i64 0, .int .i64 0, .int .i64 0, .string ⟨#[]⟩] 98)).cell? ⟨w.heap.size, 5, none⟩ = some (.int .i64 p.r2) := by first | (simp; done) | (rw [World.cell?_alloc_at _ _ _ _ (by simp)]; rfl) | (rw [World.cell?_alloc_past _ _ _ (by simp <;> omega), World.cell?_alloc_at _ _ _ _ (by simp)]; rfl) | (rw [World.cell?_alloc_past _ _ _ (by simp <;> omega), World.cell?_alloc_past _ _ _ (by simp <;> omega), World.cell?_alloc_at _ _ _ _ (by simp)]; rfl)
    have pp6 : (((w.alloc (.cells #[.string p.id, .int .i64 p.prio, .bool p.crit, .int .i64 p.r0, .int .i64 p.r1, .int .i64 p.r2, .int .i64 p.l0, .int .i64 p.l1, .int .i64 p.l2, .string p.img, .int .i64 p.size] 62)).alloc (.cells #[.int .i64 t, .int .i64 x0, .int .i64 x1, .int .i64 x2, .slice a U.length cap] 32)).alloc (.cells #[.int .i64 0, .int .i64 0, .int .i64 0, .string ⟨#[]⟩] 98)).cell? ⟨w.heap.size, 6, none⟩ = some (.int .i64 p.l0) := by first | (simp; done) | (rw [World.cell?_alloc_at _ _ _ _ (by simp)]; rfl) | (rw [World.cell?_alloc_past _ _ _ (by simp <;> omega), World.cell?_alloc_at _ _ _ _ (by simp)]; rfl) | (rw [World.cell?_alloc_past _ _ _ (by simp <;> omega), World.cell?_alloc_past _ _ _ (by simp <;> omega), World.cell?_alloc_at _ _ _ _ (by simp)]; rfl)
    have pp7 : (((w.alloc (.cells #[.string p.id, .int .i64 p.prio, .bool p.crit, .int .i64 p.r0, .int .i64 p.r1, .int .i64 p.r2, .int .i64 p.l0, .int .i64 p.l1, .int .i64 p.l2, .string p.img, .int .i64 p.size] 62)).alloc (.cells #[.int .i64 t, .int .i64 x0, .int .i64 x1, .int .i64 x2, .slice a U.length cap] 32)).alloc (.cells #[.int .i64 0, .int .i64 0, .int .i64 0, .string ⟨#[]⟩] 98)).cell? ⟨w.heap.size, 7, none⟩ = some (.int .i64 p.l1) := by first | (simp; done) | (rw [World.cell?_alloc_at _ _ _ _ (by simp)]; rfl) | (rw [World.cell?_alloc_past _ _ _ (by simp <;> omega), World.cell?_alloc_at _ _ _ _ (by simp)]; rfl) | (rw [World.cell?_alloc_past _ _ _ (by simp <;> omega), World.cell?_alloc_past _ _ _ (by simp <;> omega), World.cell?_alloc_at _ _ _ _ (by simp)]; rfl)
    have pp8 : (((w.alloc (.cells #[.string p.id, .int .i64 p.prio, .bool p.crit, .int .i64 p.r0, .int .i64 p.r1, .int .i64 p.r2, .int .i64 p.l0, .int .i64 p.l1, .int .i64 p.l2, .string p.img, .int .i64 p.size] 62)).alloc (.cells #[.int .i64 t, .int .i64 x0, .int .i64 x1, .int .i64 x2, .slice a U.length cap] 32)).alloc (.cells #[.int .i64 0, .int .i64 0, .int .i64 0, .string ⟨#[]⟩] 98)).cell? ⟨w.heap.size, 8, none⟩ = some (.int .i64 p.l2) := by first | (simp; done) | (rw [World.cell?_alloc_at _ _ _ _ (by simp)]; rfl) | (rw [World.cell?_alloc_past _ _ _ (by simp <;> omega), World.cell?_alloc_at _ _ _ _ (by simp)]; rfl) | (rw [World.cell?_alloc_past _ _ _ (by simp <;> omega), World.cell?_alloc_past _ _ _ (by simp <;> omega), World.cell?_alloc_at _ _ _ _ (by simp)]; rfl)
    have pp9 : (((w.alloc (.cells #[.string p.id, .int .i64 p.prio, .bool p.crit, .int .i64 p.r0, .int .i64 p.r1, .int .i64 p.r2, .int .i64 p.l0, .int .i64 p.l1, .int .i64 p.l2, .string p.img, .int .i64 p.size] 62)).alloc (.cells #[.int .i64 t, .int .i64 x0, .int .i64 x1, .int .i64 x2, .slice a U.length cap] 32)).alloc (.cells #[.int .i64 0, .int .i64 0, .int .i64 0, .string ⟨#[]⟩] 98)).cell? ⟨w.heap.size, 9, none⟩ = some (.string p.img) := by first | (simp; done) | (rw [World.cell?_alloc_at _ _ _ _ (by simp)]; rfl) | (rw [World.cell?_alloc_past _ _ _ (by simp <;> omega), World.cell?_alloc_at _ _ _ _ (by simp)]; rfl) | (rw [World.cell?_alloc_past _ _ _ (by simp <;> omega), World.cell?_alloc_past _ _ _ (by simp <;> omega), World.cell?_alloc_at _ _ _ _ (by simp)]; rfl)
    have pp10 : (((w.alloc (.cells #[.string p.id, .int .i64 p.prio, .bool p.crit, .int .i64 p.r0, .int .i64 p.r1, .int .i64 p.r2, .int .i64 p.l0, .int .i64 p.l1, .int .i64 p.l2, .string p.img, .int .i64 p.size] 62)).alloc (.cells #[.int .i64 t, .int .i64 x0, .int .i64 x1, .int .i64 x2, .slice a U.length cap] 32)).alloc (.cells #[.int .i64 0, .int .i64 0, .int .i64 0, .string ⟨#[]⟩] 98)).cell? ⟨w.heap.size, 10, none⟩ = some (.int .i64 p.size) := by first | (simp; done) | (rw [World.cell?_alloc_at _ _ _ _ (by simp)]; rfl) | (rw [World.cell?_alloc_past _ _ _ (by simp <;> omega), World.cell?_alloc_at _ _ _ _ (by simp)]; rfl) | (rw [World.cell?_alloc_past _ _ _ (by simp <;> omega), World.cell?_alloc_past _ _ _ (by simp <;> omega), World.cell?_alloc_at _ _ _ _ (by simp)]; rfl)
    have sp0 : (((w.alloc (.cells #[.string p.id, .int .i64 p.prio, .bool p.crit, .int .i64 p.r0, .int .i64 p.r1, .int .i64 p.r2, .int .i64 p.l0, .int .i64 p.l1, .int .i64 p.l2, .string p.img, .int .i64 p.size] 62)).alloc (.cells #[.int .i64 t, .int .i64 x0, .int .i64 x1, .int .i64 x2, .slice a U.length cap] 32)).alloc (.cells #[.int .i64 0, .int .i64 0, .int .i64 0, .string ⟨#[]⟩] 98)).cell? ⟨w.heap.size + 1, 0, none⟩ = some (.int .i64 t) := by first | (simp; done) | (rw [World.cell?_alloc_at _ _ _ _ (by simp)]; rfl) | (rw [World.cell?_alloc_past _ _ _ (by simp <;> omega), World.cell?_alloc_at _ _ _ _ (by simp)]; rfl) | (rw [World.cell?_alloc_past _ _ _ (by simp <;> omega), World.cell?_alloc_past _ _ _ (by simp <;> omega), World.cell?_alloc_at _ _ _ _ (by simp)]; rfl)
    have sp1 : (((w.alloc (.cells #[.string p.id, .int .i64 p.prio, .bool p.crit, .int .i64 p.r0, .int .i64 p.r1, .int .i64 p.r2, .int .i64 p.l0, .int .i64 p.l1, .int .i64 p.l2, .string p.img, .int .i64 p.size] 62)).alloc (.cells #[.int .i64 t, .int .i64 x0, .int .i64 x1, .int .i64 x2, .slice a U.length cap] 32)).alloc (.cells #[.int .i64 0, .int .i64 0, .int .i64 0, .string ⟨#[]⟩] 98)).cell? ⟨w.heap.size + 1, 1, none⟩ = some (.int .i64 x0) := by first | (simp; done) | (rw [World.cell?_alloc_at _ _ _ _ (by simp)]; rfl) | (rw [World.cell?_alloc_past _ _ _ (by simp <;> omega), World.cell?_alloc_at _ _ _ _ (by simp)]; rfl) | (rw [World.cell?_alloc_past _ _ _ (by simp <;> omega), World.cell?_alloc_past _ _ _ (by simp <;> omega), World.cell?_alloc_at _ _ _ _ (by simp)]; rfl)
    have sp2 : (((w.alloc (.cells #[.string p.id, .int .i64 p.prio, .bool p.crit, .int .i64 p.r0, .int .i64 p.r1, .int .i64 p.r2, .int .i64 p.l0, .int .i64 p.l1, .int .i64 p.l2, .string p.img, .int .i64 p.size] 62)).alloc (.cells #[.int .i64 t, .int .i64 x0, .int .i64 x1, .int .i64 x2, .slice a U.length cap] 32)).alloc (.cells #[.int .i64 0, .int .i64 0, .int .i64 0, .string ⟨#[]⟩] 98)).cell? ⟨w.heap.size + 1, 2, none⟩ = some (.int .i64 x1) := by first | (simp; done) | (rw [World.cell?_alloc_at _ _ _ _ (by simp)]; rfl) | (rw [World.cell?_alloc_past _ _ _ (by simp <;> omega), World.cell?_alloc_at _ _ _ _ (by simp)]; rfl) | (rw [World.cell?_alloc_past _ _ _ (by simp <;> omega), World.cell?_alloc_past _ _ _ (by simp <;> omega), World.cell?_alloc_at _ _ _ _ (by simp)]; rfl)
    have sp3 : (((w.alloc (.cells #[.string p.id, .int .i64 p.prio, .bool p.crit, .int .i64 p.r0, .int .i64 p.r1, .int .i64 p.r2, .int .i64 p.l0, .int .i64 p.l1, .int .i64 p.l2, .string p.img, .int .i64 p.size] 62)).alloc (.cells #[.int .i64 t, .int .i64 x0, .int .i64 x1, .int .i64 x2, .slice a U.length cap] 32)).alloc (.cells #[.int .i64 0, .int .i64 0, .int .i64 0, .string ⟨#[]⟩] 98)).cell? ⟨w.heap.size + 1, 3, none⟩ = some (.int .i64 x2) := by first | (simp; done) | (rw [World.cell?_alloc_at _ _ _ _ (by simp)]; rfl) | (rw [World.cell?_alloc_past _ _ _ (by simp <;> omega), World.cell?_alloc_at _ _ _ _ (by simp)]; rfl) | (rw [World.cell?_alloc_past _ _ _ (by simp <;> omega), World.cell?_alloc_past _ _ _ (by simp <;> omega), World.cell?_alloc_at _ _ _ _ (by simp)]; rfl)
    have sp4 : (((w.alloc (.cells #[.string p.id, .int .i64 p.prio, .bool p.crit, .int .i64 p.r0, .int .i64 p.r1, .int .i64 p.r2, .int .i64 p.l0, .int .i64 p.l1, .int .i64 p.l2, .string p.img, .int .i64 p.size] 62)).alloc (.cells #[.int .i64 t, .int .i64 x0, .int .i64 x1, .int .i64 x2, .slice a U.length cap] 32)).alloc (.cells #[.int .i64 0, .int .i64 0, .int .i64 0, .string ⟨#[]⟩] 98)).cell? ⟨w.heap.size + 1, 4, none⟩ = some (.slice a U.length cap) := by first | (simp; done) | (rw [World.cell?_alloc_at _ _ _ _ (by simp)]; rfl) | (rw [World.cell?_alloc_past _ _ _ (by simp <;> omega), World.cell?_alloc_at _ _ _ _ (by simp)]; rfl) | (rw [World.cell?_alloc_past _ _ _ (by simp <;> omega), World.cell?_alloc_past _ _ _ (by simp <;> omega), World.cell?_alloc_at _ _ _ _ (by simp)]; rfl)
    have rr0 : (((w.alloc (.cells #[.string p.id, .int .i64 p.prio, .bool p.crit, .int .i64 p.r0, .int .i64 p.r1, .int .i64 p.r2, .int .i64 p.l0, .int .i64 p.l1, .int .i64 p.l2, .string p.img, .int .i64 p.size] 62)).alloc (.cells #[.int .i64 t, .int .i64 x0, .int .i64 x1, .int .i64 x2, .slice a U.length cap] 32)).alloc (.cells #[.int .i64 0, .int .i64 0, .int .i64 0, .string ⟨#[]⟩] 98)).cell? ⟨w.heap.size + 2, 0, none⟩ = some (.int .i64 0) := by first | (simp; done) | (rw [World.cell?_alloc_at _ _ _ _ (by simp)]; rfl) | (rw [World.cell?_alloc_past _ _ _ (by simp <;> omega), World.cell?_alloc_at _ _ _ _ (by simp)]; rfl) | (rw [World.cell?_alloc_past _ _ _ (by simp <;> omega), World.cell?_alloc_past _ _ _ (by simp <;> omega), World.cell?_alloc_at _ _ _ _ (by simp)]; rfl)
    have rr1 : (((w.alloc (.cells #[.string p.id, .int .i64 p.prio, .bool p.crit, .int .i64 p.r0, .int .i64 p.r1, .int .i64 p.r2, .int .i64 p.l0, .int .i64 p.l1, .int .i64 p.l2, .string p.img, .int .i64 p.size] 62)).alloc (.cells #[.int .i64 t, .int .i64 x0, .int .i64 x1, .int .i64 x2, .slice a U.length cap] 32)).alloc (.cells #[.int .i64 0, .int .i64 0, .int .i64 0, .string ⟨#[]⟩] 98)).cell? ⟨w.heap.size + 2, 1, none⟩ = some (.int .i64 0) := by first | (simp; done) | (rw [World.cell?_alloc_at _ _ _ _ (by simp)]; rfl) | (rw [World.cell?_alloc_past _ _ _ (by simp <;> omega), World.cell?_alloc_at _ _ _ _ (by simp)]; rfl) | (rw [World.cell?_alloc_past _ _ _ (by simp <;> omega), World.cell?_alloc_past _ _ _ (by simp <;> omega), World.cell?_alloc_at _ _ _ _ (by simp)]; rfl)
    have rr2 : (((w.alloc (.cells #[.string p.id, .int .i64 p.prio, .bool p.crit, .int .i64 p.r0, .int .i64 p.r1, .int .i64 p.r2, .int .i64 p.l0, .int .i64 p.l1, .int .i64 p.l2, .string p.img, .int .i64 p.size] 62)).alloc (.cells #[.int .i64 t, .int .i64 x0, .int .i64 x1, .int .i64 x2, .slice a U.length cap] 32)).alloc (.cells #[.int .i64 0, .int .i64 0, .int .i64 0, .string ⟨#[]⟩] 98)).cell? ⟨w.heap.size + 2, 2, none⟩ = some (.int .i64 0) := by first | (simp; done) | (rw [World.cell?_alloc_at _ _ _ _ (by simp)]; rfl) | (rw [World.cell?_alloc_past _ _ _ (by simp <;> omega), World.cell?_alloc_at _ _ _ _ (by simp)]; rfl) | (rw [World.cell?_alloc_past _ _ _ (by simp <;> omega), World.cell?_alloc_past _ _ _ (by simp <;> omega), World.cell?_alloc_at _ _ _ _ (by simp)]; rfl)
    have rr3 : (((w.alloc (.cells #[.string p.id, .int .i64 p.prio, .bool p.crit, .int .i64 p.r0, .int .i64 p.r1, .int .i64 p.r2, .int .i64 p.l0, .int .i64 p.l1, .int .i64 p.l2, .string p.img, .int .i64 p.size] 62)).alloc (.cells #[.int .i64 t, .int .i64 x0, .int .i64 x1, .int .i64 x2, .slice a U.length cap] 32)).alloc (.cells #[.int .i64 0, .int .i64 0, .int .i64 0, .string ⟨#[]⟩] 98)).cell? ⟨w.heap.size + 2, 3, none⟩ = some (.string ⟨#[]⟩) := by first | (simp; done) | (rw [World.cell?_alloc_at _ _ _ _ (by simp)]; rfl) | (rw [World.cell?_alloc_past _ _ _ (by simp <;> omega), World.cell?_alloc_at _ _ _ _ (by simp)]; rfl) | (rw [World.cell?_alloc_past _ _ _ (by simp <;> omega), World.cell?_alloc_past _ _ _ (by simp <;> omega), World.cell?_alloc_at _ _ _ _ (by simp)]; rfl)
    have hb2 := (by repeat (first | exact hbel | refine belAlloc ?_ _ | refine belDrew ?_ | refine belSet ?_ _ _ (by simp)) : Below w.heap.size w (((w.alloc (.cells #[.string p.id, .int .i64 p.prio, .bool p.crit, .int .i64 p.r0, .int .i64 p.r1, .int .i64 p.r2, .int .i64 p.l0, .int .i64 p.l1, .int .i64 p.l2, .string p.img, .int .i64 p.size] 62)).alloc (.cells #[.int .i64 t, .int .i64 x0, .int .i64 x1, .int .i64 x2, .slice a U.length cap] 32)).alloc (.cells #[.int .i64 0, .int .i64 0, .int .i64 0, .string ⟨#[]⟩] 98)))
    replace hw := belStep hw hb2
    have rrB : Blk (((w.alloc (.cells #[.string p.id, .int .i64 p.prio, .bool p.crit, .int .i64 p.r0, .int .i64 p.r1, .int .i64 p.r2, .int .i64 p.l0, .int .i64 p.l1, .int .i64 p.l2, .string p.img, .int .i64 p.size] 62)).alloc (.cells #[.int .i64 t, .int .i64 x0, .int .i64 x1, .int .i64 x2, .slice a U.length cap] 32)).alloc (.cells #[.int .i64 0, .int .i64 0, .int .i64 0, .string ⟨#[]⟩] 98)) (w.heap.size + 2) [.int .i64 0, .int .i64 0, .int .i64 0, .string ⟨#[]⟩] 98 := (Blk.at (by simp) : Blk (((w.alloc (.cells #[.string p.id, .int .i64 p.prio, .bool p.crit, .int .i64 p.r0, .int .i64 p.r1, .int .i64 p.r2, .int .i64 p.l0, .int .i64 p.l1, .int .i64 p.l2, .string p.img, .int .i64 p.size] 62)).alloc (.cells #[.int .i64 t, .int .i64 x0, .int .i64 x1, .int .i64 x2, .slice a U.length cap] 32)).alloc (.cells #[.int .i64 0, .int .i64 0, .int .i64 0, .string ⟨#[]⟩] 98)) (w.heap.size + 2) [.int .i64 0, .int .i64 0, .int .i64 0, .string ⟨#[]⟩] 98).later (by repeat (first | exact Below.refl _ _ | refine belAlloc ?_ _))
    have rrF := Blk.keepF rrB
    replace rrB := Blk.keepB rrB
    clear hb2 hbel
    generalize ((w.alloc (.cells #[.string p.id, .int .i64 p.prio, .bool p.crit, .int .i64 p.r0, .int .i64 p.r1, .int .i64 p.r2, .int .i64 p.l0, .int .i64 p.l1, .int .i64 p.l2, .string p.img, .int .i64 p.size] 62)).alloc (.cells #[.int .i64 t, .int .i64 x0, .int .i64 x1, .int .i64 x2, .slice a U.length cap] 32)).alloc (.cells #[.int .i64 0, .int .i64 0, .int .i64 0, .string ⟨#[]⟩] 98) = W1 at *
    replace pp0 := keep pp0
    replace pp1 := keep pp1
    replace pp2 := keep pp2
    replace pp3 := keep pp3
    replace pp4 := keep pp4
    replace pp5 := keep pp5
    replace pp6 := keep pp6
    replace pp7 := keep pp7
    replace pp8 := keep pp8
    replace pp9 := keep pp9
    replace pp10 := keep pp10
    replace sp0 := keep sp0
    replace sp1 := keep sp1
    replace sp2 := keep sp2
    replace sp3 := keep sp3
    replace sp4 := keep sp4
    replace rr0 := keep rr0
    replace rr1 := keep rr1
    replace rr2 := keep rr2
    replace rr3 := keep rr3
    have hbel : Below W1.heap.size W1 W1 := Below.refl _ _
    skip
    have hz1 : w.heap.size + 2 < W1.heap.size := (rrB _ hbel).lt
    have hix := HIX.out
    go_upto_region 4 with (first | (go_at_call 25; (with_reducible refine (CO.out _ (belStep hw hbel)).mono ?_); rintro e w1 ⟨rfl, hb1⟩; replace hbel := belStep hbel hb1; clear hb1))
    clear hix
    replace pp0 := keepOnP pp0 hbel
    replace pp1 := keepOnP pp1 hbel
    replace pp2 := keepOnP pp2 hbel
    replace pp3 := keepOnP pp3 hbel
    replace pp4 := keepOnP pp4 hbel
    replace pp5 := keepOnP pp5 hbel
    replace pp6 := keepOnP pp6 hbel
    replace pp7 := keepOnP pp7 hbel
    replace pp8 := keepOnP pp8 hbel
    replace pp9 := keepOnP pp9 hbel
    replace pp10 := keepOnP pp10 hbel
    replace sp0 := keepOnP sp0 hbel
    replace sp1 := keepOnP sp1 hbel
    replace sp2 := keepOnP sp2 hbel
    replace sp3 := keepOnP sp3 hbel
    replace sp4 := keepOnP sp4 hbel
    replace rr0 := keepOnP rr0 hbel
    replace rr1 := keepOnP rr1 hbel
    replace rr2 := keepOnP rr2 hbel
    replace rr3 := keepOnP rr3 hbel
    replace rrF := keepOnP rrF hbel
    replace rrB := keepOnP rrB hbel
    replace hw := belStep hw hbel
    clear hbel
    generalize w1 = W2 at *
    have hbel : Below W2.heap.size W2 W2 := Below.refl _ _
    have hz2 : w.heap.size + 2 < W2.heap.size := (rrB _ (Below.refl _ _)).lt
    have hsub := HSUB.out
    refine wp_region_held_drew (S := fun u => Below W2.heap.size W2 u) (by kernel_rfl) (by exact (show Below W2.heap.size W2 _ by repeat (first | assumption | exact Below.refl _ _ | refine belDrew ?_ | refine belAlloc ?_ _ | refine belStep ?_ (by assumption)))) (fun hHeld => ?_)
    refine wpAnyH_take (i := 0) (oi := ?oi_k11) (v := ?v_k11) ?hi_k11 (by kernel_rfl) ?hf_k11 ?hr_k11 ?hQ_k11 (Or.inl ⟨?hw_k11, ?hy_k11⟩) (by assumption) ?rest_k11
    case hi_k11 => ((simp only [List.getElem?_toArray, List.getElem?_cons_succ, List.getElem?_cons_zero]); rfl)
    case hf_k11 => kernel_rfl
    case hr_k11 => kernel_rfl
    case hQ_k11 => exact fun _ _ _ h => h
    case hw_k11 => rfl
    case hy_k11 => ((intro w hSw; (try dsimp only at hSw); go_simp); all_goals (with_reducible rfl))
    try simp only [Act.put, List.setIfInBounds_toArray, List.set_cons_zero, List.set_cons_succ]
    refine wpAnyH_take (i := 1) (oi := ?oi_k12) (v := ?v_k12) ?hi_k12 (by kernel_rfl) ?hf_k12 ?hr_k12 ?hQ_k12 (Or.inl ⟨?hw_k12, ?hy_k12⟩) (by assumption) ?rest_k12
    case hi_k12 => ((simp only [List.getElem?_toArray, List.getElem?_cons_succ, List.getElem?_cons_zero]); rfl)
    case hf_k12 => kernel_rfl
    case hr_k12 => kernel_rfl
    case hQ_k12 => exact fun _ _ _ h => h
    case hw_k12 => rfl
    case hy_k12 => ((intro w hSw; (try dsimp only at hSw); go_simp); all_goals (with_reducible rfl))
    try simp only [Act.put, List.setIfInBounds_toArray, List.set_cons_zero, List.set_cons_succ]
    refine wpAnyH_take (i := 2) (oi := ?oi_k13) (v := ?v_k13) ?hi_k13 (by kernel_rfl) ?hf_k13 ?hr_k13 ?hQ_k13 (Or.inl ⟨?hw_k13, ?hy_k13⟩) (by assumption) ?rest_k13
    case hi_k13 => ((simp only [List.getElem?_toArray, List.getElem?_cons_succ, List.getElem?_cons_zero]); rfl)
    case hf_k13 => kernel_rfl
    case hr_k13 => kernel_rfl
    case hQ_k13 => exact fun _ _ _ h => h
    case hw_k13 => rfl
    case hy_k13 => ((intro w hSw; (try dsimp only at hSw); go_simp); all_goals (with_reducible rfl))
    try simp only [Act.put, List.setIfInBounds_toArray, List.set_cons_zero, List.set_cons_succ]
    refine wpAnyH_take (i := 3) (oi := ?oi_k14) (v := ?v_k14) ?hi_k14 (by kernel_rfl) ?hf_k14 ?hr_k14 ?hQ_k14 (Or.inl ⟨?hw_k14, ?hy_k14⟩) (by assumption) ?rest_k14
    case hi_k14 => ((simp only [List.getElem?_toArray, List.getElem?_cons_succ, List.getElem?_cons_zero]); rfl)
    case hf_k14 => kernel_rfl
    case hr_k14 => kernel_rfl
    case hQ_k14 => exact fun _ _ _ h => h
    case hw_k14 => rfl
    case hy_k14 => ((intro w hSw; (try dsimp only at hSw); go_simp); all_goals (with_reducible rfl))
    try simp only [Act.put, List.setIfInBounds_toArray, List.set_cons_zero, List.set_cons_succ]
    refine wpAnyH_take (i := 4) (oi := ?oi_k15) (v := ?v_k15) ?hi_k15 (by kernel_rfl) ?hf_k15 ?hr_k15 ?hQ_k15 (Or.inl ⟨?hw_k15, ?hy_k15⟩) (by assumption) ?rest_k15
    case hi_k15 => ((simp only [List.getElem?_toArray, List.getElem?_cons_succ, List.getElem?_cons_zero]); rfl)
    case hf_k15 => kernel_rfl
    case hr_k15 => kernel_rfl
    case hQ_k15 => exact fun _ _ _ h => h
    case hw_k15 => rfl
    case hy_k15 => ((intro w hSw; (try dsimp only at hSw); go_simp); all_goals (with_reducible rfl))
    try simp only [Act.put, List.setIfInBounds_toArray, List.set_cons_zero, List.set_cons_succ]
    refine wpAnyH_take (i := 7) (oi := ?oi_k16) (v := ?v_k16) ?hi_k16 (by kernel_rfl) ?hf_k16 ?hr_k16 ?hQ_k16 (Or.inl ⟨?hw_k16, ?hy_k16⟩) (by assumption) ?rest_k16
    case hi_k16 => ((simp only [List.getElem?_toArray, List.getElem?_cons_succ, List.getElem?_cons_zero]); rfl)
    case hf_k16 => kernel_rfl
    case hr_k16 => kernel_rfl
    case hQ_k16 => exact fun _ _ _ h => h
    case hw_k16 => rfl
    case hy_k16 => ((intro w hSw; (try dsimp only at hSw); go_simp); all_goals (with_reducible rfl))
    try simp only [Act.put, List.setIfInBounds_toArray, List.set_cons_zero, List.set_cons_succ]
    refine wpAnyH_take (i := 8) (oi := ?oi_k17) (v := ?v_k17) ?hi_k17 (by kernel_rfl) ?hf_k17 ?hr_k17 ?hQ_k17 (Or.inl ⟨?hw_k17, ?hy_k17⟩) (by assumption) ?rest_k17
    case hi_k17 => ((simp only [List.getElem?_toArray, List.getElem?_cons_succ, List.getElem?_cons_zero]); rfl)
    case hf_k17 => kernel_rfl
    case hr_k17 => kernel_rfl
    case hQ_k17 => exact fun _ _ _ h => h
    case hw_k17 => rfl
    case hy_k17 => ((intro w hSw; (try dsimp only at hSw); go_simp); all_goals (with_reducible rfl))
    try simp only [Act.put, List.setIfInBounds_toArray, List.set_cons_zero, List.set_cons_succ]
    refine krip (fun u u' => Below u.heap.size u u') [26, 27, 30, 8] [[], [], [], [], [], [], [5], [], [], [5, 6], [], [5, 6, 9, 10]] [[], [], [], [], [], [26], [27], [], [], [30], [8], []] [5, 6, 9, 10] (krF [(5, fun t u => t 26 = .int .i64 ak), (6, fun t u => t 27 = .int .i64 (us - ak)), (9, fun t u => t 30 = .agg #[.int .i64 1, .int .i64 p.prio, .int .i64 (us - ak), .string p.id]), (10, fun t u => ∃ P : Nat, t 8 = .pointer (some ⟨P, 0, none⟩) ∧ Blk u P [.int .i64 0, .int .i64 0, .int .i64 0, .string ⟨#[]⟩] 98 ∧ W2.heap.size ≤ P)]) 1 #[true, true, true, true, true, true, true, true, true, true, true, false] (by kernel_rfl) (by kernel_rfl) (by kernel_rfl) (by assumption) (AllL.cons ?s_5_q18 (AllL.cons ?s_6_q18 (AllL.cons ?s_9_q18 (AllL.cons ?s_10_q18 AllL.nil)))) (AllL.cons ?o_5_q18 (AllL.cons ?o_6_q18 (AllL.cons ?o_9_q18 (AllL.cons ?o_10_q18 AllL.nil)))) ?e_q18
    case s_5_q18 => exact fun t u u' hle h => h
    case s_6_q18 => exact fun t u u' hle h => h
    case s_9_q18 => exact fun t u u' hle h => h
    case s_10_q18 => exact fun t u u' hle ⟨P, e, hb, hp⟩ => ⟨P, e, hb.later hle, hp⟩
    case o_5_q18 =>
      refine KrOp.of (o := ?oo_5_q18) ?hi_5_q18 (fun t u hHeld hF K hK => ?rr_5_q18)
      case hi_5_q18 => ((simp only [List.getElem?_toArray, List.getElem?_cons_succ, List.getElem?_cons_zero]); rfl)
      case rr_5_q18 =>
        clear hF
        simp only [setl, List.foldl_cons, List.foldl_nil, Act.put, List.setIfInBounds_toArray, List.set_cons_zero, List.set_cons_succ] at hK ⊢
        go_simp
        (go_at_call 39; (with_reducible refine (CA.out _).mono ?_); rintro e wq ⟨rfl, hbq⟩)
        try go_simp
        refine hK.out _ _ (by exact (by repeat (first | assumption | exact Below.refl _ _ | refine belDrew ?_ | refine belAlloc ?_ _ | refine belStep ?_ (by assumption)))) (by exact (show Below W2.heap.size W2 _ by repeat (first | assumption | exact Below.refl _ _ | refine belDrew ?_ | refine belAlloc ?_ _ | refine belStep ?_ (by assumption)))) ?_
        exact rfl
    case o_6_q18 =>
      refine KrOp.of (o := ?oo_6_q18) ?hi_6_q18 (fun t u hHeld hF K hK => ?rr_6_q18)
      case hi_6_q18 => ((simp only [List.getElem?_toArray, List.getElem?_cons_succ, List.getElem?_cons_zero]); rfl)
      case rr_6_q18 =>
        have h5 : t 26 = .int .i64 ak := hF 5 rfl rfl
        clear hF
        simp only [setl, List.foldl_cons, List.foldl_nil, Act.put, List.setIfInBounds_toArray, List.set_cons_zero, List.set_cons_succ] at hK ⊢
        generalize t 26 = x26 at *
        subst h5
        go_simp
        refine hK.out _ _ (by exact (by repeat (first | assumption | exact Below.refl _ _ | refine belDrew ?_ | refine belAlloc ?_ _ | refine belStep ?_ (by assumption)))) (by exact (show Below W2.heap.size W2 _ by repeat (first | assumption | exact Below.refl _ _ | refine belDrew ?_ | refine belAlloc ?_ _ | refine belStep ?_ (by assumption)))) ?_
        exact rfl
    case o_9_q18 =>
      refine KrOp.of (o := ?oo_9_q18) ?hi_9_q18 (fun t u hHeld hF K hK => ?rr_9_q18)
      case hi_9_q18 => ((simp only [List.getElem?_toArray, List.getElem?_cons_succ, List.getElem?_cons_zero]); rfl)
      case rr_9_q18 =>
        have h5 : t 26 = .int .i64 ak := hF 5 rfl rfl
        have h6 : t 27 = .int .i64 (us - ak) := hF 6 rfl rfl
        clear hF
        simp only [setl, List.foldl_cons, List.foldl_nil, Act.put, List.setIfInBounds_toArray, List.set_cons_zero, List.set_cons_succ] at hK ⊢
        generalize t 26 = x26 at *
        generalize t 27 = x27 at *
        subst h6
        subst h5
        go_simp
        refine hK.out _ _ (by exact (by repeat (first | assumption | exact Below.refl _ _ | refine belDrew ?_ | refine belAlloc ?_ _ | refine belStep ?_ (by assumption)))) (by exact (show Below W2.heap.size W2 _ by repeat (first | assumption | exact Below.refl _ _ | refine belDrew ?_ | refine belAlloc ?_ _ | refine belStep ?_ (by assumption)))) ?_
        exact rfl
    case o_10_q18 =>
      refine KrOp.of (o := ?oo_10_q18) ?hi_10_q18 (fun t u hHeld hF K hK => ?rr_10_q18)
      case hi_10_q18 => ((simp only [List.getElem?_toArray, List.getElem?_cons_succ, List.getElem?_cons_zero]); rfl)
      case rr_10_q18 =>
        clear hF
        simp only [setl, List.foldl_cons, List.foldl_nil, Act.put, List.setIfInBounds_toArray, List.set_cons_zero, List.set_cons_succ] at hK ⊢
        go_simp
        refine hK.out _ _ (by exact (by repeat (first | assumption | exact Below.refl _ _ | refine belDrew ?_ | refine belAlloc ?_ _ | refine belStep ?_ (by assumption)))) (by exact (show Below W2.heap.size W2 _ by repeat (first | assumption | exact Below.refl _ _ | refine belDrew ?_ | refine belAlloc ?_ _ | refine belStep ?_ (by assumption)))) ?_
        exact ⟨_, rfl, Blk.new _ [.int .i64 0, .int .i64 0, .int .i64 0, .string ⟨#[]⟩] 98, (Below.size hHeld)⟩
    case e_q18 =>
      intro t u hHeld hF
      have h5 : t 26 = .int .i64 ak := hF 5 rfl
      have h6 : t 27 = .int .i64 (us - ak) := hF 6 rfl
      have h9 : t 30 = .agg #[.int .i64 1, .int .i64 p.prio, .int .i64 (us - ak), .string p.id] := hF 9 rfl
      have h10 : ∃ P : Nat, t 8 = .pointer (some ⟨P, 0, none⟩) ∧ Blk u P [.int .i64 0, .int .i64 0, .int .i64 0, .string ⟨#[]⟩] 98 ∧ W2.heap.size ≤ P := hF 10 rfl
      clear hF
      simp only [setl, List.foldl_cons, List.foldl_nil, Act.put, List.setIfInBounds_toArray, List.set_cons_zero, List.set_cons_succ]
      generalize t 26 = x26 at *
      generalize t 27 = x27 at *
      generalize t 30 = x30 at *
      generalize t 8 = x8 at *
      obtain ⟨Kb, rfl, hP, hPW⟩ := h10
      subst h9
      subst h6
      subst h5
      have y0 := hP.cell (j := 0) rfl
      have y1 := hP.cell (j := 1) rfl
      have y2 := hP.cell (j := 2) rfl
      have y3 := hP.cell (j := 3) rfl
      have yf := hP.frozen
      refine wpAnyH_ready (rs := [11]) (by kernel_rfl) (by simp) ?_
      refine AllReadyH.cons (o := ?o1_k10) ?hi_k10 (fun K hK => ?rest_k10) AllReadyH.nil
      case hi_k10 => ((simp only [List.getElem?_toArray, List.getElem?_cons_succ, List.getElem?_cons_zero]); rfl)
      go_simp
      have hbN := (belSet (belSet (belSet (belSet hHeld ⟨Kb, 0, none⟩ (.int .i64 1) hPW) ⟨Kb, 1, none⟩ (.int .i64 p.prio) hPW) ⟨Kb, 2, none⟩ (.int .i64 (us - ak)) hPW) ⟨Kb, 3, none⟩ (.string p.id) hPW)
      have hRN := ((((hP.set 0 (.int .i64 1)).set 1 (.int .i64 p.prio)).set 2 (.int .i64 (us - ak))).set 3 (.string p.id))
      generalize ((((u.setCell ⟨Kb, 0, none⟩ (.int .i64 1)).setCell ⟨Kb, 1, none⟩ (.int .i64 p.prio)).setCell ⟨Kb, 2, none⟩ (.int .i64 (us - ak))).setCell ⟨Kb, 3, none⟩ (.string p.id)) = W3 at hbN hRN ⊢
      refine hK.out _ _ (by exact (show Below W2.heap.size W2 _ by repeat (first | assumption | exact Below.refl _ _ | refine belDrew ?_ | refine belAlloc ?_ _ | refine belStep ?_ (by assumption)))) (fun hHeld => ?_)
      clear hK K
      try simp only [Act.put, List.setIfInBounds_toArray, List.set_cons_zero, List.set_cons_succ]
      refine wpAnyH_done (by kernel_rfl) ?_ _
      clear hHeld hP yf y0 y1 y2 y3
      clear hbel hsub
      obtain ⟨E, hE⟩ : ∃ E, us - ak = E := ⟨_, rfl⟩
      rw [hE] at hRN
      have HX2 := Lib.hid (HX.out.trans hE)
      simp only [hE]
      clear hE hu0 hu1 ha0 ha1 HX HSUB CA CO HIX
      have hKW := hPW
      have HK3 := Lib.hid hRN
      have hbel := hbN
      have y0 := hRN.cell (j := 0) rfl
      have y1 := hRN.cell (j := 1) rfl
      have y2 := hRN.cell (j := 2) rfl
      have y3 := hRN.cell (j := 3) rfl
      have yf := hRN.frozen
      clear hbN hRN hPW
      by_cases hx : 0 < E
      · have HV := Lib.hid (show keyF 1 p U = ⟨0, p.prio, E, p.id⟩ by unfold keyF; rw [HX2.out, if_pos hx])
        go_upto_region 7 with fail
        have hb4 := belSet hbel ⟨Kb, 0, none⟩ (.int .i64 0) hKW
        have hK4 := HK3.out.set 0 (.int .i64 0)
        clear y0 y1 y2 y3 yf hbel
        generalize W3.setCell ⟨Kb, 0, none⟩ (.int .i64 0) = W4 at *
        have hbel := hb4
        have y0 := hK4.cell (j := 0) rfl
        have y1 := hK4.cell (j := 1) rfl
        have y2 := hK4.cell (j := 2) rfl
        have y3 := hK4.cell (j := 3) rfl
        clear hb4 hK4
        go_wp2
        exact key_ret _ _ _ 0 p.prio E p.id _ rfl (((((rrB _ hbel).set 0 _).set 1 _).set 2 _).set 3 _) ⟨by rw [HV.out] <;> rfl, by repeat (first | exact belStep hw hbel | refine belSet ?_ _ _ (by dsimp only; omega))⟩
      · have HV := Lib.hid (show keyF 1 p U = ⟨1, p.prio, E, p.id⟩ by unfold keyF; rw [HX2.out, if_neg hx])
        go_wp2
        exact key_ret _ _ _ 1 p.prio E p.id _ rfl (((((rrB _ hbel).set 0 _).set 1 _).set 2 _).set 3 _) ⟨by rw [HV.out] <;> rfl, by repeat (first | exact belStep hw hbel | refine belSet ?_ _ _ (by dsimp only; omega))⟩
  · obtain rfl : G = 2 := hG
    have hix : ∀ u : World, (Instr.index 29 (.agg #[.int .i64 o.a, .int .i64 o.b, .int .i64 o.c]) (.int .i64 2)).run Try.prog u = .ok (.int .i64 us) u := fun u => by rw [← hus0]; kernel_rfl
    have HIX := Lib.hid hix
    clear hus0
    go_enter Try.func60, Try.ntmps60
    go_upto_region 1 with fail
    have pp0 : (((w.alloc (.cells #[.string p.id, .int .i64 p.prio, .bool p.crit, .int .i64 p.r0, .int .i64 p.r1, .int .i64 p.r2, .int .i64 p.l0, .int .i64 p.l1, .int .i64 p.l2, .string p.img, .int .i64 p.size] 62)).alloc (.cells #[.int .i64 t, .int .i64 x0, .int .i64 x1, .int .i64 x2, .slice a U.length cap] 32)).alloc (.cells #[.int .i64 0, .int .i64 0, .int .i64 0, .string ⟨#[]⟩] 98)).cell? ⟨w.heap.size, 0, none⟩ = some (.string p.id) := by first | (simp; done) | (rw [World.cell?_alloc_at _ _ _ _ (by simp)]; rfl) | (rw [World.cell?_alloc_past _ _ _ (by simp <;> omega), World.cell?_alloc_at _ _ _ _ (by simp)]; rfl) | (rw [World.cell?_alloc_past _ _ _ (by simp <;> omega), World.cell?_alloc_past _ _ _ (by simp <;> omega), World.cell?_alloc_at _ _ _ _ (by simp)]; rfl)
    have pp1 : (((w.alloc (.cells #[.string p.id, .int .i64 p.prio, .bool p.crit, .int .i64 p.r0, .int .i64 p.r1, .int .i64 p.r2, .int .i64 p.l0, .int .i64 p.l1, .int .i64 p.l2, .string p.img, .int .i64 p.size] 62)).alloc (.cells #[.int .i64 t, .int .i64 x0, .int .i64 x1, .int .i64 x2, .slice a U.length cap] 32)).alloc (.cells #[.int .i64 0, .int .i64 0, .int .i64 0, .string ⟨#[]⟩] 98)).cell? ⟨w.heap.size, 1, none⟩ = some (.int .i64 p.prio) := by first | (simp; done) | (rw [World.cell?_alloc_at _ _ _ _ (by simp)]; rfl) | (rw [World.cell?_alloc_past _ _ _ (by simp <;> omega), World.cell?_alloc_at _ _ _ _ (by simp)]; rfl) | (rw [World.cell?_alloc_past _ _ _ (by simp <;> omega), World.cell?_alloc_past _ _ _ (by simp <;> omega), World.cell?_alloc_at _ _ _ _ (by simp)]; rfl)
    have pp2 : (((w.alloc (.cells #[.string p.id, .int .i64 p.prio, .bool p.crit, .int .i64 p.r0, .int .i64 p.r1, .int .i64 p.r2, .int .i64 p.l0, .int .i64 p.l1, .int .i64 p.l2, .string p.img, .int .i64 p.size] 62)).alloc (.cells #[.int .i64 t, .int .i64 x0, .int .i64 x1, .int .i64 x2, .slice a U.length cap] 32)).alloc (.cells #[.int .i64 0, .int .i64 0, .int .i64 0, .string ⟨#[]⟩] 98)).cell? ⟨w.heap.size, 2, none⟩ = some (.bool p.crit) := by first | (simp; done) | (rw [World.cell?_alloc_at _ _ _ _ (by simp)]; rfl) | (rw [World.cell?_alloc_past _ _ _ (by simp <;> omega), World.cell?_alloc_at _ _ _ _ (by simp)]; rfl) | (rw [World.cell?_alloc_past _ _ _ (by simp <;> omega), World.cell?_alloc_past _ _ _ (by simp <;> omega), World.cell?_alloc_at _ _ _ _ (by simp)]; rfl)
    have pp3 : (((w.alloc (.cells #[.string p.id, .int .i64 p.prio, .bool p.crit, .int .i64 p.r0, .int .i64 p.r1, .int .i64 p.r2, .int .i64 p.l0, .int .i64 p.l1, .int .i64 p.l2, .string p.img, .int .i64 p.size] 62)).alloc (.cells #[.int .i64 t, .int .i64 x0, .int .i64 x1, .int .i64 x2, .slice a U.length cap] 32)).alloc (.cells #[.int .i64 0, .int .i64 0, .int .i64 0, .string ⟨#[]⟩] 98)).cell? ⟨w.heap.size, 3, none⟩ = some (.int .i64 p.r0) := by first | (simp; done) | (rw [World.cell?_alloc_at _ _ _ _ (by simp)]; rfl) | (rw [World.cell?_alloc_past _ _ _ (by simp <;> omega), World.cell?_alloc_at _ _ _ _ (by simp)]; rfl) | (rw [World.cell?_alloc_past _ _ _ (by simp <;> omega), World.cell?_alloc_past _ _ _ (by simp <;> omega), World.cell?_alloc_at _ _ _ _ (by simp)]; rfl)
    have pp4 : (((w.alloc (.cells #[.string p.id, .int .i64 p.prio, .bool p.crit, .int .i64 p.r0, .int .i64 p.r1, .int .i64 p.r2, .int .i64 p.l0, .int .i64 p.l1, .int .i64 p.l2, .string p.img, .int .i64 p.size] 62)).alloc (.cells #[.int .i64 t, .int .i64 x0, .int .i64 x1, .int .i64 x2, .slice a U.length cap] 32)).alloc (.cells #[.int .i64 0, .int .i64 0, .int .i64 0, .string ⟨#[]⟩] 98)).cell? ⟨w.heap.size, 4, none⟩ = some (.int .i64 p.r1) := by first | (simp; done) | (rw [World.cell?_alloc_at _ _ _ _ (by simp)]; rfl) | (rw [World.cell?_alloc_past _ _ _ (by simp <;> omega), World.cell?_alloc_at _ _ _ _ (by simp)]; rfl) | (rw [World.cell?_alloc_past _ _ _ (by simp <;> omega), World.cell?_alloc_past _ _ _ (by simp <;> omega), World.cell?_alloc_at _ _ _ _ (by simp)]; rfl)
    have pp5 : (((w.alloc (.cells #[.string p.id, .int .i64 p.prio, .bool p.crit, .int .i64 p.r0, .int .i64 p.r1, .int .i64 p.r2, .int .i64 p.l0, .int .i64 p.l1, .int .i64 p.l2, .string p.img, .int .i64 p.size] 62)).alloc (.cells #[.int .i64 t, .int .i64 x0, .int .i64 x1, .int .i64 x2, .slice a U.length cap] 32)).alloc (.cells #[.int .i64 0, .int .i64 0, .int .i64 0, .string ⟨#[]⟩] 98)).cell? ⟨w.heap.size, 5, none⟩ = some (.int .i64 p.r2) := by first | (simp; done) | (rw [World.cell?_alloc_at _ _ _ _ (by simp)]; rfl) | (rw [World.cell?_alloc_past _ _ _ (by simp <;> omega), World.cell?_alloc_at _ _ _ _ (by simp)]; rfl) | (rw [World.cell?_alloc_past _ _ _ (by simp <;> omega), World.cell?_alloc_past _ _ _ (by simp <;> omega), World.cell?_alloc_at _ _ _ _ (by simp)]; rfl)
    have pp6 : (((w.alloc (.cells #[.string p.id, .int .i64 p.prio, .bool p.crit, .int .i64 p.r0, .int .i64 p.r1, .int .i64 p.r2, .int .i64 p.l0, .int .i64 p.l1, .int .i64 p.l2, .string p.img, .int .i64 p.size] 62)).alloc (.cells #[.int .i64 t, .int .i64 x0, .int .i64 x1, .int .i64 x2, .slice a U.length cap] 32)).alloc (.cells #[.int .i64 0, .int .i64 0, .int .i64 0, .string ⟨#[]⟩] 98)).cell? ⟨w.heap.size, 6, none⟩ = some (.int .i64 p.l0) := by first | (simp; done) | (rw [World.cell?_alloc_at _ _ _ _ (by simp)]; rfl) | (rw [World.cell?_alloc_past _ _ _ (by simp <;> omega), World.cell?_alloc_at _ _ _ _ (by simp)]; rfl) | (rw [World.cell?_alloc_past _ _ _ (by simp <;> omega), World.cell?_alloc_past _ _ _ (by simp <;> omega), World.cell?_alloc_at _ _ _ _ (by simp)]; rfl)
    have pp7 : (((w.alloc (.cells #[.string p.id, .int .i64 p.prio, .bool p.crit, .int .i64 p.r0, .int .i64 p.r1, .int .i64 p.r2, .int .i64 p.l0, .int .i64 p.l1, .int .i64 p.l2, .string p.img, .int .i64 p.size] 62)).alloc (.cells #[.int .i64 t, .int .i64 x0, .int .i64 x1, .int .i64 x2, .slice a U.length cap] 32)).alloc (.cells #[.int .i64 0, .int .i64 0, .int .i64 0, .string ⟨#[]⟩] 98)).cell? ⟨w.heap.size, 7, none⟩ = some (.int .i64 p.l1) := by first | (simp; done) | (rw [World.cell?_alloc_at _ _ _ _ (by simp)]; rfl) | (rw [World.cell?_alloc_past _ _ _ (by simp <;> omega), World.cell?_alloc_at _ _ _ _ (by simp)]; rfl) | (rw [World.cell?_alloc_past _ _ _ (by simp <;> omega), World.cell?_alloc_past _ _ _ (by simp <;> omega), World.cell?_alloc_at _ _ _ _ (by simp)]; rfl)
    have pp8 : (((w.alloc (.cells #[.string p.id, .int .i64 p.prio, .bool p.crit, .int .i64 p.r0, .int .i64 p.r1, .int .i64 p.r2, .int .i64 p.l0, .int .i64 p.l1, .int .i64 p.l2, .string p.img, .int .i64 p.size] 62)).alloc (.cells #[.int .i64 t, .int .i64 x0, .int .i64 x1, .int .i64 x2, .slice a U.length cap] 32)).alloc (.cells #[.int .i64 0, .int .i64 0, .int .i64 0, .string ⟨#[]⟩] 98)).cell? ⟨w.heap.size, 8, none⟩ = some (.int .i64 p.l2) := by first | (simp; done) | (rw [World.cell?_alloc_at _ _ _ _ (by simp)]; rfl) | (rw [World.cell?_alloc_past _ _ _ (by simp <;> omega), World.cell?_alloc_at _ _ _ _ (by simp)]; rfl) | (rw [World.cell?_alloc_past _ _ _ (by simp <;> omega), World.cell?_alloc_past _ _ _ (by simp <;> omega), World.cell?_alloc_at _ _ _ _ (by simp)]; rfl)
    have pp9 : (((w.alloc (.cells #[.string p.id, .int .i64 p.prio, .bool p.crit, .int .i64 p.r0, .int .i64 p.r1, .int .i64 p.r2, .int .i64 p.l0, .int .i64 p.l1, .int .i64 p.l2, .string p.img, .int .i64 p.size] 62)).alloc (.cells #[.int .i64 t, .int .i64 x0, .int .i64 x1, .int .i64 x2, .slice a U.length cap] 32)).alloc (.cells #[.int .i64 0, .int .i64 0, .int .i64 0, .string ⟨#[]⟩] 98)).cell? ⟨w.heap.size, 9, none⟩ = some (.string p.img) := by first | (simp; done) | (rw [World.cell?_alloc_at _ _ _ _ (by simp)]; rfl) | (rw [World.cell?_alloc_past _ _ _ (by simp <;> omega), World.cell?_alloc_at _ _ _ _ (by simp)]; rfl) | (rw [World.cell?_alloc_past _ _ _ (by simp <;> omega), World.cell?_alloc_past _ _ _ (by simp <;> omega), World.cell?_alloc_at _ _ _ _ (by simp)]; rfl)
    have pp10 : (((w.alloc (.cells #[.string p.id, .int .i64 p.prio, .bool p.crit, .int .i64 p.r0, .int .i64 p.r1, .int .i64 p.r2, .int .i64 p.l0, .int .i64 p.l1, .int .i64 p.l2, .string p.img, .int .i64 p.size] 62)).alloc (.cells #[.int .i64 t, .int .i64 x0, .int .i64 x1, .int .i64 x2, .slice a U.length cap] 32)).alloc (.cells #[.int .i64 0, .int .i64 0, .int .i64 0, .string ⟨#[]⟩] 98)).cell? ⟨w.heap.size, 10, none⟩ = some (.int .i64 p.size) := by first | (simp; done) | (rw [World.cell?_alloc_at _ _ _ _ (by simp)]; rfl) | (rw [World.cell?_alloc_past _ _ _ (by simp <;> omega), World.cell?_alloc_at _ _ _ _ (by simp)]; rfl) | (rw [World.cell?_alloc_past _ _ _ (by simp <;> omega), World.cell?_alloc_past _ _ _ (by simp <;> omega), World.cell?_alloc_at _ _ _ _ (by simp)]; rfl)
    have sp0 : (((w.alloc (.cells #[.string p.id, .int .i64 p.prio, .bool p.crit, .int .i64 p.r0, .int .i64 p.r1, .int .i64 p.r2, .int .i64 p.l0, .int .i64 p.l1, .int .i64 p.l2, .string p.img, .int .i64 p.size] 62)).alloc (.cells #[.int .i64 t, .int .i64 x0, .int .i64 x1, .int .i64 x2, .slice a U.length cap] 32)).alloc (.cells #[.int .i64 0, .int .i64 0, .int .i64 0, .string ⟨#[]⟩] 98)).cell? ⟨w.heap.size + 1, 0, none⟩ = some (.int .i64 t) := by first | (simp; done) | (rw [World.cell?_alloc_at _ _ _ _ (by simp)]; rfl) | (rw [World.cell?_alloc_past _ _ _ (by simp <;> omega), World.cell?_alloc_at _ _ _ _ (by simp)]; rfl) | (rw [World.cell?_alloc_past _ _ _ (by simp <;> omega), World.cell?_alloc_past _ _ _ (by simp <;> omega), World.cell?_alloc_at _ _ _ _ (by simp)]; rfl)
    have sp1 : (((w.alloc (.cells #[.string p.id, .int .i64 p.prio, .bool p.crit, .int .i64 p.r0, .int .i64 p.r1, .int .i64 p.r2, .int .i64 p.l0, .int .i64 p.l1, .int .i64 p.l2, .string p.img, .int .i64 p.size] 62)).alloc (.cells #[.int .i64 t, .int .i64 x0, .int .i64 x1, .int .i64 x2, .slice a U.length cap] 32)).alloc (.cells #[.int .i64 0, .int .i64 0, .int .i64 0, .string ⟨#[]⟩] 98)).cell? ⟨w.heap.size + 1, 1, none⟩ = some (.int .i64 x0) := by first | (simp; done) | (rw [World.cell?_alloc_at _ _ _ _ (by simp)]; rfl) | (rw [World.cell?_alloc_past _ _ _ (by simp <;> omega), World.cell?_alloc_at _ _ _ _ (by simp)]; rfl) | (rw [World.cell?_alloc_past _ _ _ (by simp <;> omega), World.cell?_alloc_past _ _ _ (by simp <;> omega), World.cell?_alloc_at _ _ _ _ (by simp)]; rfl)
    have sp2 : (((w.alloc (.cells #[.string p.id, .int .i64 p.prio, .bool p.crit, .int .i64 p.r0, .int .i64 p.r1, .int .i64 p.r2, .int .i64 p.l0, .int .i64 p.l1, .int .i64 p.l2, .string p.img, .int .i64 p.size] 62)).alloc (.cells #[.int .i64 t, .int .i64 x0, .int .i64 x1, .int .i64 x2, .slice a U.length cap] 32)).alloc (.cells #[.int .i64 0, .int .i64 0, .int .i64 0, .string ⟨#[]⟩] 98)).cell? ⟨w.heap.size + 1, 2, none⟩ = some (.int .i64 x1) := by first | (simp; done) | (rw [World.cell?_alloc_at _ _ _ _ (by simp)]; rfl) | (rw [World.cell?_alloc_past _ _ _ (by simp <;> omega), World.cell?_alloc_at _ _ _ _ (by simp)]; rfl) | (rw [World.cell?_alloc_past _ _ _ (by simp <;> omega), World.cell?_alloc_past _ _ _ (by simp <;> omega), World.cell?_alloc_at _ _ _ _ (by simp)]; rfl)
    have sp3 : (((w.alloc (.cells #[.string p.id, .int .i64 p.prio, .bool p.crit, .int .i64 p.r0, .int .i64 p.r1, .int .i64 p.r2, .int .i64 p.l0, .int .i64 p.l1, .int .i64 p.l2, .string p.img, .int .i64 p.size] 62)).alloc (.cells #[.int .i64 t, .int .i64 x0, .int .i64 x1, .int .i64 x2, .slice a U.length cap] 32)).alloc (.cells #[.int .i64 0, .int .i64 0, .int .i64 0, .string ⟨#[]⟩] 98)).cell? ⟨w.heap.size + 1, 3, none⟩ = some (.int .i64 x2) := by first | (simp; done) | (rw [World.cell?_alloc_at _ _ _ _ (by simp)]; rfl) | (rw [World.cell?_alloc_past _ _ _ (by simp <;> omega), World.cell?_alloc_at _ _ _ _ (by simp)]; rfl) | (rw [World.cell?_alloc_past _ _ _ (by simp <;> omega), World.cell?_alloc_past _ _ _ (by simp <;> omega), World.cell?_alloc_at _ _ _ _ (by simp)]; rfl)
    have sp4 : (((w.alloc (.cells #[.string p.id, .int .i64 p.prio, .bool p.crit, .int .i64 p.r0, .int .i64 p.r1, .int .i64 p.r2, .int .i64 p.l0, .int .i64 p.l1, .int .i64 p.l2, .string p.img, .int .i64 p.size] 62)).alloc (.cells #[.int .i64 t, .int .i64 x0, .int .i64 x1, .int .i64 x2, .slice a U.length cap] 32)).alloc (.cells #[.int .i64 0, .int .i64 0, .int .i64 0, .string ⟨#[]⟩] 98)).cell? ⟨w.heap.size + 1, 4, none⟩ = some (.slice a U.length cap) := by first | (simp; done) | (rw [World.cell?_alloc_at _ _ _ _ (by simp)]; rfl) | (rw [World.cell?_alloc_past _ _ _ (by simp <;> omega), World.cell?_alloc_at _ _ _ _ (by simp)]; rfl) | (rw [World.cell?_alloc_past _ _ _ (by simp <;> omega), World.cell?_alloc_past _ _ _ (by simp <;> omega), World.cell?_alloc_at _ _ _ _ (by simp)]; rfl)
    have rr0 : (((w.alloc (.cells #[.string p.id, .int .i64 p.prio, .bool p.crit, .int .i64 p.r0, .int .i64 p.r1, .int .i64 p.r2, .int .i64 p.l0, .int .i64 p.l1, .int .i64 p.l2, .string p.img, .int .i64 p.size] 62)).alloc (.cells #[.int .i64 t, .int .i64 x0, .int .i64 x1, .int .i64 x2, .slice a U.length cap] 32)).alloc (.cells #[.int .i64 0, .int .i64 0, .int .i64 0, .string ⟨#[]⟩] 98)).cell? ⟨w.heap.size + 2, 0, none⟩ = some (.int .i64 0) := by first | (simp; done) | (rw [World.cell?_alloc_at _ _ _ _ (by simp)]; rfl) | (rw [World.cell?_alloc_past _ _ _ (by simp <;> omega), World.cell?_alloc_at _ _ _ _ (by simp)]; rfl) | (rw [World.cell?_alloc_past _ _ _ (by simp <;> omega), World.cell?_alloc_past _ _ _ (by simp <;> omega), World.cell?_alloc_at _ _ _ _ (by simp)]; rfl)
    have rr1 : (((w.alloc (.cells #[.string p.id, .int .i64 p.prio, .bool p.crit, .int .i64 p.r0, .int .i64 p.r1, .int .i64 p.r2, .int .i64 p.l0, .int .i64 p.l1, .int .i64 p.l2, .string p.img, .int .i64 p.size] 62)).alloc (.cells #[.int .i64 t, .int .i64 x0, .int .i64 x1, .int .i64 x2, .slice a U.length cap] 32)).alloc (.cells #[.int .i64 0, .int .i64 0, .int .i64 0, .string ⟨#[]⟩] 98)).cell? ⟨w.heap.size + 2, 1, none⟩ = some (.int .i64 0) := by first | (simp; done) | (rw [World.cell?_alloc_at _ _ _ _ (by simp)]; rfl) | (rw [World.cell?_alloc_past _ _ _ (by simp <;> omega), World.cell?_alloc_at _ _ _ _ (by simp)]; rfl) | (rw [World.cell?_alloc_past _ _ _ (by simp <;> omega), World.cell?_alloc_past _ _ _ (by simp <;> omega), World.cell?_alloc_at _ _ _ _ (by simp)]; rfl)
    have rr2 : (((w.alloc (.cells #[.string p.id, .int .i64 p.prio, .bool p.crit, .int .i64 p.r0, .int .i64 p.r1, .int .i64 p.r2, .int .i64 p.l0, .int .i64 p.l1, .int .i64 p.l2, .string p.img, .int .i64 p.size] 62)).alloc (.cells #[.int .i64 t, .int .i64 x0, .int .i64 x1, .int .i64 x2, .slice a U.length cap] 32)).alloc (.cells #[.int .i64 0, .int .i64 0, .int .i64 0, .string ⟨#[]⟩] 98)).cell? ⟨w.heap.size + 2, 2, none⟩ = some (.int .i64 0) := by first | (simp; done) | (rw [World.cell?_alloc_at _ _ _ _ (by simp)]; rfl) | (rw [World.cell?_alloc_past _ _ _ (by simp <;> omega), World.cell?_alloc_at _ _ _ _ (by simp)]; rfl) | (rw [World.cell?_alloc_past _ _ _ (by simp <;> omega), World.cell?_alloc_past _ _ _ (by simp <;> omega), World.cell?_alloc_at _ _ _ _ (by simp)]; rfl)
    have rr3 : (((w.alloc (.cells #[.string p.id, .int .i64 p.prio, .bool p.crit, .int .i64 p.r0, .int .i64 p.r1, .int .i64 p.r2, .int .i64 p.l0, .int .i64 p.l1, .int .i64 p.l2, .string p.img, .int .i64 p.size] 62)).alloc (.cells #[.int .i64 t, .int .i64 x0, .int .i64 x1, .int .i64 x2, .slice a U.length cap] 32)).alloc (.cells #[.int .i64 0, .int .i64 0, .int .i64 0, .string ⟨#[]⟩] 98)).cell? ⟨w.heap.size + 2, 3, none⟩ = some (.string ⟨#[]⟩) := by first | (simp; done) | (rw [World.cell?_alloc_at _ _ _ _ (by simp)]; rfl) | (rw [World.cell?_alloc_past _ _ _ (by simp <;> omega), World.cell?_alloc_at _ _ _ _ (by simp)]; rfl) | (rw [World.cell?_alloc_past _ _ _ (by simp <;> omega), World.cell?_alloc_past _ _ _ (by simp <;> omega), World.cell?_alloc_at _ _ _ _ (by simp)]; rfl)
    have hb2 := (by repeat (first | exact hbel | refine belAlloc ?_ _ | refine belDrew ?_ | refine belSet ?_ _ _ (by simp)) : Below w.heap.size w (((w.alloc (.cells #[.string p.id, .int .i64 p.prio, .bool p.crit, .int .i64 p.r0, .int .i64 p.r1, .int .i64 p.r2, .int .i64 p.l0, .int .i64 p.l1, .int .i64 p.l2, .string p.img, .int .i64 p.size] 62)).alloc (.cells #[.int .i64 t, .int .i64 x0, .int .i64 x1, .int .i64 x2, .slice a U.length cap] 32)).alloc (.cells #[.int .i64 0, .int .i64 0, .int .i64 0, .string ⟨#[]⟩] 98)))
    replace hw := belStep hw hb2
    have rrB : Blk (((w.alloc (.cells #[.string p.id, .int .i64 p.prio, .bool p.crit, .int .i64 p.r0, .int .i64 p.r1, .int .i64 p.r2, .int .i64 p.l0, .int .i64 p.l1, .int .i64 p.l2, .string p.img, .int .i64 p.size] 62)).alloc (.cells #[.int .i64 t, .int .i64 x0, .int .i64 x1, .int .i64 x2, .slice a U.length cap] 32)).alloc (.cells #[.int .i64 0, .int .i64 0, .int .i64 0, .string ⟨#[]⟩] 98)) (w.heap.size + 2) [.int .i64 0, .int .i64 0, .int .i64 0, .string ⟨#[]⟩] 98 := (Blk.at (by simp) : Blk (((w.alloc (.cells #[.string p.id, .int .i64 p.prio, .bool p.crit, .int .i64 p.r0, .int .i64 p.r1, .int .i64 p.r2, .int .i64 p.l0, .int .i64 p.l1, .int .i64 p.l2, .string p.img, .int .i64 p.size] 62)).alloc (.cells #[.int .i64 t, .int .i64 x0, .int .i64 x1, .int .i64 x2, .slice a U.length cap] 32)).alloc (.cells #[.int .i64 0, .int .i64 0, .int .i64 0, .string ⟨#[]⟩] 98)) (w.heap.size + 2) [.int .i64 0, .int .i64 0, .int .i64 0, .string ⟨#[]⟩] 98).later (by repeat (first | exact Below.refl _ _ | refine belAlloc ?_ _))
    have rrF := Blk.keepF rrB
    replace rrB := Blk.keepB rrB
    clear hb2 hbel
    generalize ((w.alloc (.cells #[.string p.id, .int .i64 p.prio, .bool p.crit, .int .i64 p.r0, .int .i64 p.r1, .int .i64 p.r2, .int .i64 p.l0, .int .i64 p.l1, .int .i64 p.l2, .string p.img, .int .i64 p.size] 62)).alloc (.cells #[.int .i64 t, .int .i64 x0, .int .i64 x1, .int .i64 x2, .slice a U.length cap] 32)).alloc (.cells #[.int .i64 0, .int .i64 0, .int .i64 0, .string ⟨#[]⟩] 98) = W1 at *
    replace pp0 := keep pp0
    replace pp1 := keep pp1
    replace pp2 := keep pp2
    replace pp3 := keep pp3
    replace pp4 := keep pp4
    replace pp5 := keep pp5
    replace pp6 := keep pp6
    replace pp7 := keep pp7
    replace pp8 := keep pp8
    replace pp9 := keep pp9
    replace pp10 := keep pp10
    replace sp0 := keep sp0
    replace sp1 := keep sp1
    replace sp2 := keep sp2
    replace sp3 := keep sp3
    replace sp4 := keep sp4
    replace rr0 := keep rr0
    replace rr1 := keep rr1
    replace rr2 := keep rr2
    replace rr3 := keep rr3
    have hbel : Below W1.heap.size W1 W1 := Below.refl _ _
    skip
    have hz1 : w.heap.size + 2 < W1.heap.size := (rrB _ hbel).lt
    have hix := HIX.out
    go_upto_region 4 with (first | (go_at_call 25; (with_reducible refine (CO.out _ (belStep hw hbel)).mono ?_); rintro e w1 ⟨rfl, hb1⟩; replace hbel := belStep hbel hb1; clear hb1))
    clear hix
    replace pp0 := keepOnP pp0 hbel
    replace pp1 := keepOnP pp1 hbel
    replace pp2 := keepOnP pp2 hbel
    replace pp3 := keepOnP pp3 hbel
    replace pp4 := keepOnP pp4 hbel
    replace pp5 := keepOnP pp5 hbel
    replace pp6 := keepOnP pp6 hbel
    replace pp7 := keepOnP pp7 hbel
    replace pp8 := keepOnP pp8 hbel
    replace pp9 := keepOnP pp9 hbel
    replace pp10 := keepOnP pp10 hbel
    replace sp0 := keepOnP sp0 hbel
    replace sp1 := keepOnP sp1 hbel
    replace sp2 := keepOnP sp2 hbel
    replace sp3 := keepOnP sp3 hbel
    replace sp4 := keepOnP sp4 hbel
    replace rr0 := keepOnP rr0 hbel
    replace rr1 := keepOnP rr1 hbel
    replace rr2 := keepOnP rr2 hbel
    replace rr3 := keepOnP rr3 hbel
    replace rrF := keepOnP rrF hbel
    replace rrB := keepOnP rrB hbel
    replace hw := belStep hw hbel
    clear hbel
    generalize w1 = W2 at *
    have hbel : Below W2.heap.size W2 W2 := Below.refl _ _
    have hz2 : w.heap.size + 2 < W2.heap.size := (rrB _ (Below.refl _ _)).lt
    have hsub := HSUB.out
    refine wp_region_held_drew (S := fun u => Below W2.heap.size W2 u) (by kernel_rfl) (by exact (show Below W2.heap.size W2 _ by repeat (first | assumption | exact Below.refl _ _ | refine belDrew ?_ | refine belAlloc ?_ _ | refine belStep ?_ (by assumption)))) (fun hHeld => ?_)
    refine wpAnyH_take (i := 0) (oi := ?oi_k20) (v := ?v_k20) ?hi_k20 (by kernel_rfl) ?hf_k20 ?hr_k20 ?hQ_k20 (Or.inl ⟨?hw_k20, ?hy_k20⟩) (by assumption) ?rest_k20
    case hi_k20 => ((simp only [List.getElem?_toArray, List.getElem?_cons_succ, List.getElem?_cons_zero]); rfl)
    case hf_k20 => kernel_rfl
    case hr_k20 => kernel_rfl
    case hQ_k20 => exact fun _ _ _ h => h
    case hw_k20 => rfl
    case hy_k20 => ((intro w hSw; (try dsimp only at hSw); go_simp); all_goals (with_reducible rfl))
    try simp only [Act.put, List.setIfInBounds_toArray, List.set_cons_zero, List.set_cons_succ]
    refine wpAnyH_take (i := 1) (oi := ?oi_k21) (v := ?v_k21) ?hi_k21 (by kernel_rfl) ?hf_k21 ?hr_k21 ?hQ_k21 (Or.inl ⟨?hw_k21, ?hy_k21⟩) (by assumption) ?rest_k21
    case hi_k21 => ((simp only [List.getElem?_toArray, List.getElem?_cons_succ, List.getElem?_cons_zero]); rfl)
    case hf_k21 => kernel_rfl
    case hr_k21 => kernel_rfl
    case hQ_k21 => exact fun _ _ _ h => h
    case hw_k21 => rfl
    case hy_k21 => ((intro w hSw; (try dsimp only at hSw); go_simp); all_goals (with_reducible rfl))
    try simp only [Act.put, List.setIfInBounds_toArray, List.set_cons_zero, List.set_cons_succ]
    refine wpAnyH_take (i := 2) (oi := ?oi_k22) (v := ?v_k22) ?hi_k22 (by kernel_rfl) ?hf_k22 ?hr_k22 ?hQ_k22 (Or.inl ⟨?hw_k22, ?hy_k22⟩) (by assumption) ?rest_k22
    case hi_k22 => ((simp only [List.getElem?_toArray, List.getElem?_cons_succ, List.getElem?_cons_zero]); rfl)
    case hf_k22 => kernel_rfl
    case hr_k22 => kernel_rfl
    case hQ_k22 => exact fun _ _ _ h => h
    case hw_k22 => rfl
    case hy_k22 => ((intro w hSw; (try dsimp only at hSw); go_simp); all_goals (with_reducible rfl))
    try simp only [Act.put, List.setIfInBounds_toArray, List.set_cons_zero, List.set_cons_succ]
    refine wpAnyH_take (i := 3) (oi := ?oi_k23) (v := ?v_k23) ?hi_k23 (by kernel_rfl) ?hf_k23 ?hr_k23 ?hQ_k23 (Or.inl ⟨?hw_k23, ?hy_k23⟩) (by assumption) ?rest_k23
    case hi_k23 => ((simp only [List.getElem?_toArray, List.getElem?_cons_succ, List.getElem?_cons_zero]); rfl)
    case hf_k23 => kernel_rfl
    case hr_k23 => kernel_rfl
    case hQ_k23 => exact fun _ _ _ h => h
    case hw_k23 => rfl
    case hy_k23 => ((intro w hSw; (try dsimp only at hSw); go_simp); all_goals (with_reducible rfl))
    try simp only [Act.put, List.setIfInBounds_toArray, List.set_cons_zero, List.set_cons_succ]
    refine wpAnyH_take (i := 4) (oi := ?oi_k24) (v := ?v_k24) ?hi_k24 (by kernel_rfl) ?hf_k24 ?hr_k24 ?hQ_k24 (Or.inl ⟨?hw_k24, ?hy_k24⟩) (by assumption) ?rest_k24
    case hi_k24 => ((simp only [List.getElem?_toArray, List.getElem?_cons_succ, List.getElem?_cons_zero]); rfl)
    case hf_k24 => kernel_rfl
    case hr_k24 => kernel_rfl
    case hQ_k24 => exact fun _ _ _ h => h
    case hw_k24 => rfl
    case hy_k24 => ((intro w hSw; (try dsimp only at hSw); go_simp); all_goals (with_reducible rfl))
    try simp only [Act.put, List.setIfInBounds_toArray, List.set_cons_zero, List.set_cons_succ]
    refine wpAnyH_take (i := 7) (oi := ?oi_k25) (v := ?v_k25) ?hi_k25 (by kernel_rfl) ?hf_k25 ?hr_k25 ?hQ_k25 (Or.inl ⟨?hw_k25, ?hy_k25⟩) (by assumption) ?rest_k25
    case hi_k25 => ((simp only [List.getElem?_toArray, List.getElem?_cons_succ, List.getElem?_cons_zero]); rfl)
    case hf_k25 => kernel_rfl
    case hr_k25 => kernel_rfl
    case hQ_k25 => exact fun _ _ _ h => h
    case hw_k25 => rfl
    case hy_k25 => ((intro w hSw; (try dsimp only at hSw); go_simp); all_goals (with_reducible rfl))
    try simp only [Act.put, List.setIfInBounds_toArray, List.set_cons_zero, List.set_cons_succ]
    refine wpAnyH_take (i := 8) (oi := ?oi_k26) (v := ?v_k26) ?hi_k26 (by kernel_rfl) ?hf_k26 ?hr_k26 ?hQ_k26 (Or.inl ⟨?hw_k26, ?hy_k26⟩) (by assumption) ?rest_k26
    case hi_k26 => ((simp only [List.getElem?_toArray, List.getElem?_cons_succ, List.getElem?_cons_zero]); rfl)
    case hf_k26 => kernel_rfl
    case hr_k26 => kernel_rfl
    case hQ_k26 => exact fun _ _ _ h => h
    case hw_k26 => rfl
    case hy_k26 => ((intro w hSw; (try dsimp only at hSw); go_simp); all_goals (with_reducible rfl))
    try simp only [Act.put, List.setIfInBounds_toArray, List.set_cons_zero, List.set_cons_succ]
    refine krip (fun u u' => Below u.heap.size u u') [26, 27, 30, 8] [[], [], [], [], [], [], [5], [], [], [5, 6], [], [5, 6, 9, 10]] [[], [], [], [], [], [26], [27], [], [], [30], [8], []] [5, 6, 9, 10] (krF [(5, fun t u => t 26 = .int .i64 ak), (6, fun t u => t 27 = .int .i64 (us - ak)), (9, fun t u => t 30 = .agg #[.int .i64 1, .int .i64 p.prio, .int .i64 (us - ak), .string p.id]), (10, fun t u => ∃ P : Nat, t 8 = .pointer (some ⟨P, 0, none⟩) ∧ Blk u P [.int .i64 0, .int .i64 0, .int .i64 0, .string ⟨#[]⟩] 98 ∧ W2.heap.size ≤ P)]) 1 #[true, true, true, true, true, true, true, true, true, true, true, false] (by kernel_rfl) (by kernel_rfl) (by kernel_rfl) (by assumption) (AllL.cons ?s_5_q27 (AllL.cons ?s_6_q27 (AllL.cons ?s_9_q27 (AllL.cons ?s_10_q27 AllL.nil)))) (AllL.cons ?o_5_q27 (AllL.cons ?o_6_q27 (AllL.cons ?o_9_q27 (AllL.cons ?o_10_q27 AllL.nil)))) ?e_q27
    case s_5_q27 => exact fun t u u' hle h => h
    case s_6_q27 => exact fun t u u' hle h => h
    case s_9_q27 => exact fun t u u' hle h => h
    case s_10_q27 => exact fun t u u' hle ⟨P, e, hb, hp⟩ => ⟨P, e, hb.later hle, hp⟩
    case o_5_q27 =>
      refine KrOp.of (o := ?oo_5_q27) ?hi_5_q27 (fun t u hHeld hF K hK => ?rr_5_q27)
      case hi_5_q27 => ((simp only [List.getElem?_toArray, List.getElem?_cons_succ, List.getElem?_cons_zero]); rfl)
      case rr_5_q27 =>
        clear hF
        simp only [setl, List.foldl_cons, List.foldl_nil, Act.put, List.setIfInBounds_toArray, List.set_cons_zero, List.set_cons_succ] at hK ⊢
        go_simp
        (go_at_call 39; (with_reducible refine (CA.out _).mono ?_); rintro e wq ⟨rfl, hbq⟩)
        try go_simp
        refine hK.out _ _ (by exact (by repeat (first | assumption | exact Below.refl _ _ | refine belDrew ?_ | refine belAlloc ?_ _ | refine belStep ?_ (by assumption)))) (by exact (show Below W2.heap.size W2 _ by repeat (first | assumption | exact Below.refl _ _ | refine belDrew ?_ | refine belAlloc ?_ _ | refine belStep ?_ (by assumption)))) ?_
        exact rfl
    case o_6_q27 =>
      refine KrOp.of (o := ?oo_6_q27) ?hi_6_q27 (fun t u hHeld hF K hK => ?rr_6_q27)
      case hi_6_q27 => ((simp only [List.getElem?_toArray, List.getElem?_cons_succ, List.getElem?_cons_zero]); rfl)
      case rr_6_q27 =>
        have h5 : t 26 = .int .i64 ak := hF 5 rfl rfl
        clear hF
        simp only [setl, List.foldl_cons, List.foldl_nil, Act.put, List.setIfInBounds_toArray, List.set_cons_zero, List.set_cons_succ] at hK ⊢
        generalize t 26 = x26 at *
        subst h5
        go_simp
        refine hK.out _ _ (by exact (by repeat (first | assumption | exact Below.refl _ _ | refine belDrew ?_ | refine belAlloc ?_ _ | refine belStep ?_ (by assumption)))) (by exact (show Below W2.heap.size W2 _ by repeat (first | assumption | exact Below.refl _ _ | refine belDrew ?_ | refine belAlloc ?_ _ | refine belStep ?_ (by assumption)))) ?_
        exact rfl
    case o_9_q27 =>
      refine KrOp.of (o := ?oo_9_q27) ?hi_9_q27 (fun t u hHeld hF K hK => ?rr_9_q27)
      case hi_9_q27 => ((simp only [List.getElem?_toArray, List.getElem?_cons_succ, List.getElem?_cons_zero]); rfl)
      case rr_9_q27 =>
        have h5 : t 26 = .int .i64 ak := hF 5 rfl rfl
        have h6 : t 27 = .int .i64 (us - ak) := hF 6 rfl rfl
        clear hF
        simp only [setl, List.foldl_cons, List.foldl_nil, Act.put, List.setIfInBounds_toArray, List.set_cons_zero, List.set_cons_succ] at hK ⊢
        generalize t 26 = x26 at *
        generalize t 27 = x27 at *
        subst h6
        subst h5
        go_simp
        refine hK.out _ _ (by exact (by repeat (first | assumption | exact Below.refl _ _ | refine belDrew ?_ | refine belAlloc ?_ _ | refine belStep ?_ (by assumption)))) (by exact (show Below W2.heap.size W2 _ by repeat (first | assumption | exact Below.refl _ _ | refine belDrew ?_ | refine belAlloc ?_ _ | refine belStep ?_ (by assumption)))) ?_
        exact rfl
    case o_10_q27 =>
      refine KrOp.of (o := ?oo_10_q27) ?hi_10_q27 (fun t u hHeld hF K hK => ?rr_10_q27)
      case hi_10_q27 => ((simp only [List.getElem?_toArray, List.getElem?_cons_succ, List.getElem?_cons_zero]); rfl)
      case rr_10_q27 =>
        clear hF
        simp only [setl, List.foldl_cons, List.foldl_nil, Act.put, List.setIfInBounds_toArray, List.set_cons_zero, List.set_cons_succ] at hK ⊢
        go_simp
        refine hK.out _ _ (by exact (by repeat (first | assumption | exact Below.refl _ _ | refine belDrew ?_ | refine belAlloc ?_ _ | refine belStep ?_ (by assumption)))) (by exact (show Below W2.heap.size W2 _ by repeat (first | assumption | exact Below.refl _ _ | refine belDrew ?_ | refine belAlloc ?_ _ | refine belStep ?_ (by assumption)))) ?_
        exact ⟨_, rfl, Blk.new _ [.int .i64 0, .int .i64 0, .int .i64 0, .string ⟨#[]⟩] 98, (Below.size hHeld)⟩
    case e_q27 =>
      intro t u hHeld hF
      have h5 : t 26 = .int .i64 ak := hF 5 rfl
      have h6 : t 27 = .int .i64 (us - ak) := hF 6 rfl
      have h9 : t 30 = .agg #[.int .i64 1, .int .i64 p.prio, .int .i64 (us - ak), .string p.id] := hF 9 rfl
      have h10 : ∃ P : Nat, t 8 = .pointer (some ⟨P, 0, none⟩) ∧ Blk u P [.int .i64 0, .int .i64 0, .int .i64 0, .string ⟨#[]⟩] 98 ∧ W2.heap.size ≤ P := hF 10 rfl
      clear hF
      simp only [setl, List.foldl_cons, List.foldl_nil, Act.put, List.setIfInBounds_toArray, List.set_cons_zero, List.set_cons_succ]
      generalize t 26 = x26 at *
      generalize t 27 = x27 at *
      generalize t 30 = x30 at *
      generalize t 8 = x8 at *
      obtain ⟨Kb, rfl, hP, hPW⟩ := h10
      subst h9
      subst h6
      subst h5
      have y0 := hP.cell (j := 0) rfl
      have y1 := hP.cell (j := 1) rfl
      have y2 := hP.cell (j := 2) rfl
      have y3 := hP.cell (j := 3) rfl
      have yf := hP.frozen
      refine wpAnyH_ready (rs := [11]) (by kernel_rfl) (by simp) ?_
      refine AllReadyH.cons (o := ?o1_k19) ?hi_k19 (fun K hK => ?rest_k19) AllReadyH.nil
      case hi_k19 => ((simp only [List.getElem?_toArray, List.getElem?_cons_succ, List.getElem?_cons_zero]); rfl)
      go_simp
      have hbN := (belSet (belSet (belSet (belSet hHeld ⟨Kb, 0, none⟩ (.int .i64 1) hPW) ⟨Kb, 1, none⟩ (.int .i64 p.prio) hPW) ⟨Kb, 2, none⟩ (.int .i64 (us - ak)) hPW) ⟨Kb, 3, none⟩ (.string p.id) hPW)
      have hRN := ((((hP.set 0 (.int .i64 1)).set 1 (.int .i64 p.prio)).set 2 (.int .i64 (us - ak))).set 3 (.string p.id))
      generalize ((((u.setCell ⟨Kb, 0, none⟩ (.int .i64 1)).setCell ⟨Kb, 1, none⟩ (.int .i64 p.prio)).setCell ⟨Kb, 2, none⟩ (.int .i64 (us - ak))).setCell ⟨Kb, 3, none⟩ (.string p.id)) = W3 at hbN hRN ⊢
      refine hK.out _ _ (by exact (show Below W2.heap.size W2 _ by repeat (first | assumption | exact Below.refl _ _ | refine belDrew ?_ | refine belAlloc ?_ _ | refine belStep ?_ (by assumption)))) (fun hHeld => ?_)
      clear hK K
      try simp only [Act.put, List.setIfInBounds_toArray, List.set_cons_zero, List.set_cons_succ]
      refine wpAnyH_done (by kernel_rfl) ?_ _
      clear hHeld hP yf y0 y1 y2 y3
      clear hbel hsub
      obtain ⟨E, hE⟩ : ∃ E, us - ak = E := ⟨_, rfl⟩
      rw [hE] at hRN
      have HX2 := Lib.hid (HX.out.trans hE)
      simp only [hE]
      clear hE hu0 hu1 ha0 ha1 HX HSUB CA CO HIX
      have hKW := hPW
      have HK3 := Lib.hid hRN
      have hbel := hbN
      have y0 := hRN.cell (j := 0) rfl
      have y1 := hRN.cell (j := 1) rfl
      have y2 := hRN.cell (j := 2) rfl
      have y3 := hRN.cell (j := 3) rfl
      have yf := hRN.frozen
      clear hbN hRN hPW
      by_cases hx : 0 < E
      · have HV := Lib.hid (show keyF 2 p U = ⟨0, p.prio, E, p.id⟩ by unfold keyF; rw [HX2.out, if_pos hx])
        go_upto_region 7 with fail
        have hb4 := belSet hbel ⟨Kb, 0, none⟩ (.int .i64 0) hKW
        have hK4 := HK3.out.set 0 (.int .i64 0)
        clear y0 y1 y2 y3 yf hbel
        generalize W3.setCell ⟨Kb, 0, none⟩ (.int .i64 0) = W4 at *
        have hbel := hb4
        have y0 := hK4.cell (j := 0) rfl
        have y1 := hK4.cell (j := 1) rfl
        have y2 := hK4.cell (j := 2) rfl
        have y3 := hK4.cell (j := 3) rfl
        clear hb4 hK4
        go_wp2
        exact key_ret _ _ _ 0 p.prio E p.id _ rfl (((((rrB _ hbel).set 0 _).set 1 _).set 2 _).set 3 _) ⟨by rw [HV.out] <;> rfl, by repeat (first | exact belStep hw hbel | refine belSet ?_ _ _ (by dsimp only; omega))⟩
      · have HV := Lib.hid (show keyF 2 p U = ⟨1, p.prio, E, p.id⟩ by unfold keyF; rw [HX2.out, if_neg hx])
        go_wp2
        exact key_ret _ _ _ 1 p.prio E p.id _ rfl (((((rrB _ hbel).set 0 _).set 1 _).set 2 _).set 3 _) ⟨by rw [HV.out] <;> rfl, by repeat (first | exact belStep hw hbel | refine belSet ?_ _ _ (by dsimp only; omega))⟩
end Go.Proofs.Ytcgpmihjodolmaa
