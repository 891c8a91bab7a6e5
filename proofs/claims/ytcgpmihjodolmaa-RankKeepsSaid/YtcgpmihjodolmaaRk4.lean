
/- bilgeref20.Ahead: contract. -/
import Derived.Test.YtcgpmihjodolmaaRk3
namespace Go.Proofs.Ytcgpmihjodolmaa
open Go.RowKit
set_option linter.unusedVariables false
set_option linter.unusedSimpArgs false
set_option maxRecDepth 100000 in
set_option maxHeartbeats 16000000 in
theorem rref_Ahead (g : Nat) (G : Int) (p q : PodV) (t x0 x1 x2 : Int) (a : Option Addr) (len cap : Nat) (U : List UseV) (w : World) (hg : g < 3) (hG : G = g) (hp : p.ok) (hpr : rightB p = true) (hq : q.ok) (hqr : rightB q = true) (hU : ∀ u ∈ U, UseOK u) (hl : U.length = len) (hR : Row w a len cap 4 (U.flatMap UseV.cells)) :
    Calls Try.prog 42 #[.int .i64 G, .agg #[.string p.id, .int .i64 p.prio, .bool p.crit, .int .i64 p.r0, .int .i64 p.r1, .int .i64 p.r2, .int .i64 p.l0, .int .i64 p.l1, .int .i64 p.l2, .string p.img, .int .i64 p.size], .agg #[.string q.id, .int .i64 q.prio, .bool q.crit, .int .i64 q.r0, .int .i64 q.r1, .int .i64 q.r2, .int .i64 q.l0, .int .i64 q.l1, .int .i64 q.l2, .string q.img, .int .i64 q.size], .agg #[.int .i64 t, .int .i64 x0, .int .i64 x1, .int .i64 x2, .slice a len cap]] w fun e w' => e = .returned (.bool (aheadB g p q U)) ∧ Below w.heap.size w w' := by
  have hw : Below w.heap.size w w := Below.refl _ _
  have hbel := hw
  have HR := Lib.hid hR
  clear hR
  subst hl
  have hup := amt_bd (g := g) hU p.id
  have hap := ask_bd (g := g) hp hpr
  obtain ⟨up, hup0⟩ : ∃ n, amt g (ofF U p.id) = n := ⟨_, rfl⟩
  obtain ⟨ap, hap0⟩ : ∃ n, askF g p = n := ⟨_, rfl⟩
  rw [hup0] at hup
  rw [hap0] at hap
  have hXp : exF g p U = up - ap := by unfold exF; rw [hup0, hap0]
  have CAp := Lib.hid (fun u => by have h := rref_Asked g G p u hg hG; rw [hap0] at h; exact h)
  have COp := Lib.hid (fun u (hu : Below w.heap.size w u) => sref_Of t x0 x1 x2 a U.length cap U p.id u rfl (HR.out.later hu))
  obtain ⟨op, hop⟩ : ∃ o, ofF U p.id = o := ⟨_, rfl⟩
  rw [hop] at COp hup0
  clear hop hap0
  obtain ⟨hup1, hup2⟩ := hup
  obtain ⟨hap1, hap2⟩ := hap
  have HSUBp := Lib.hid (show IntKind.i64.wrap (up - ap) = up - ap from IntWalk.i64_in _ (by omega))
  have huq := amt_bd (g := g) hU q.id
  have haq := ask_bd (g := g) hq hqr
  obtain ⟨uq, huq0⟩ : ∃ n, amt g (ofF U q.id) = n := ⟨_, rfl⟩
  obtain ⟨aq, haq0⟩ : ∃ n, askF g q = n := ⟨_, rfl⟩
  rw [huq0] at huq
  rw [haq0] at haq
  have hXq : exF g q U = uq - aq := by unfold exF; rw [huq0, haq0]
  have CAq := Lib.hid (fun u => by have h := rref_Asked g G q u hg hG; rw [haq0] at h; exact h)
  have COq := Lib.hid (fun u (hu : Below w.heap.size w u) => sref_Of t x0 x1 x2 a U.length cap U q.id u rfl (HR.out.later hu))
  obtain ⟨oq, hoq⟩ : ∃ o, ofF U q.id = o := ⟨_, rfl⟩
  rw [hoq] at COq huq0
  clear hoq haq0
  obtain ⟨huq1, huq2⟩ := huq
  obtain ⟨haq1, haq2⟩ := haq
  have HSUBq := Lib.hid (show IntKind.i64.wrap (uq - aq) = uq - aq from IntWalk.i64_in _ (by omega))
  have KEY := Lib.hid (ahead_cases g p q U (up - ap) (uq - aq) hXp hXq)
  clear hXp hXq hp hpr hq hqr hU
  have key : g = 0 ∨ g = 1 ∨ g = 2 := by omega
  clear hg
  rcases key with rfl | rfl | rfl
  · obtain rfl : G = 0 := hG
    have HIXp := Lib.hid (show ∀ u : World, (Instr.index 29 (.agg #[.int .i64 op.a, .int .i64 op.b, .int .i64 op.c]) (.int .i64 0)).run Try.prog u = .ok (.int .i64 up) u from fun u => by rw [← hup0]; kernel_rfl)
    clear hup0
    have HIXq := Lib.hid (show ∀ u : World, (Instr.index 29 (.agg #[.int .i64 oq.a, .int .i64 oq.b, .int .i64 oq.c]) (.int .i64 0)).run Try.prog u = .ok (.int .i64 uq) u from fun u => by rw [← huq0]; kernel_rfl)
    clear huq0
    go_enter Try.func42, Try.ntmps42
    go_upto_region 1 with fail
    have pp0 : (((w.alloc (.cells #[.string p.id, .int .i64 p.prio, .bool p.crit, .int .i64 p.r0, .int .i64 p.r1, .int .i64 p.r2, .int .i64 p.l0, .int .i64 p.l1, .int .i64 p.l2, .string p.img, .int .i64 p.size] 62)).alloc (.cells #[.string q.id, .int .i64 q.prio, .bool q.crit, .int .i64 q.r0, .int .i64 q.r1, .int .i64 q.r2, .int .i64 q.l0, .int .i64 q.l1, .int .i64 q.l2, .string q.img, .int .i64 q.size] 62)).alloc (.cells #[.int .i64 t, .int .i64 x0, .int .i64 x1, .int .i64 x2, .slice a U.length cap] 32)).cell? ⟨w.heap.size, 0, none⟩ = some (.string p.id) := by first | (simp; done) | (rw [World.cell?_alloc_at _ _ _ _ (by simp)]; rfl) | (rw [World.cell?_alloc_past _ _ _ (by simp <;> omega), World.cell?_alloc_at _ _ _ _ (by simp)]; rfl) | (rw [World.cell?_alloc_past _ _ _ (by simp <;> omega), World.cell?_alloc_past _ _ _ (by simp <;> omega), World.cell?_alloc_at _ _ _ _ (by simp)]; rfl)
    have pp1 : (((w.alloc (.cells #[.string p.id, .int .i64 p.prio, .bool p.crit, .int .i64 p.r0, .int .i64 p.r1, .int .i64 p.r2, .int .i64 p.l0, .int .i64 p.l1, .int .i64 p.l2, .string p.img, .int .i64 p.size] 62)).alloc (.cells #[.string q.id, .int .i64 q.prio, .bool q.crit, .int .i64 q.r0, .int .i64 q.r1, .int .i64 q.r2, .int .i64 q.l0, .int .i64 q.l1, .int .i64 q.l2, .string q.img, .int .i64 q.size] 62)).alloc (.cells #[.int .i64 t, .int .i64 x0, .int .i64 x1, .int .i64 x2, .slice a U.length cap] 32)).cell? ⟨w.heap.size, 1, none⟩ = some (.int .i64 p.prio) := by first | (simp; done) | (rw [World.cell?_alloc_at _ _ _ _ (by simp)]; rfl) | (rw [World.cell?_alloc_past _ _ _ (by simp <;> omega), World.cell?_alloc_at _ _ _ _ (by simp)]; rfl) | (rw [World.cell?_alloc_past _ _ _ (by simp <;> omega), World.cell?_alloc_past _ _ _ (by simp <;> omega), World.cell?_alloc_at _ _ _ _ (by simp)]; rfl)
    have pp2 : (((w.alloc (.cells #[.string p.id, .int .i64 p.prio, .bool p.crit, .int .i64 p.r0, .int .i64 p.r1, .int .i64 p.r2, .int .i64 p.l0, .int .i64 p.l1, .int .i64 p.l2, .string p.img, .int .i64 p.size] 62)).alloc (.cells #[.string q.id, .int .i64 q.prio, .bool q.crit, .int .i64 q.r0, .int .i64 q.r1, .int .i64 q.r2, .int .i64 q.l0, .int .i64 q.l1, .int .i64 q.l2, .string q.img, .int .i64 q.size] 62)).alloc (.cells #[.int .i64 t, .int .i64 x0, .int .i64 x1, .int .i64 x2, .slice a U.length cap] 32)).cell? ⟨w.heap.size, 2, none⟩ = some (.bool p.crit) := by first | (simp; done) | (rw [World.cell?_alloc_at _ _ _ _ (by simp)]; rfl) | (rw [World.cell?_alloc_past _ _ _ (by simp <;> omega), World.cell?_alloc_at _ _ _ _ (by simp)]; rfl) | (rw [World.cell?_alloc_past _ _ _ (by simp <;> omega), World.cell?_alloc_past _ _ _ (by simp <;> omega), World.cell?_alloc_at _ _ _ _ (by simp)]; rfl)
    have pp3 : (((w.alloc (.cells #[.string p.id, .int .i64 p.prio, .bool p.crit, .int .i64 p.r0, .int .i64 p.r1, .int .i64 p.r2, .int .i64 p.l0, .int .i64 p.l1, .int .i64 p.l2, .string p.img, .int .i64 p.size] 62)).alloc (.cells #[.string q.id, .int .i64 q.prio, .bool q.crit, .int .i64 q.r0, .int .i64 q.r1, .int .i64 q.r2, .int .i64 q.l0, .int .i64 q.l1, .int .i64 q.l2, .string q.img, .int .i64 q.size] 62)).alloc (.cells #[.int .i64 t, .int .i64 x0, .int .i64 x1, .int .i64 x2, .slice a U.length cap] 32)).cell? ⟨w.heap.size, 3, none⟩ = some (.int .i64 p.r0) := by first | (simp; done) | (rw [World.cell?_alloc_at _ _ _ _ (by simp)]; rfl) | (rw [World.cell?_alloc_past _ _ _ (by simp <;> omega), World.cell?_alloc_at _ _ _ _ (by simp)]; rfl) | (rw [World.cell?_alloc_past _ _ _ (by simp <;> omega), World.cell?_alloc_past _ _ _ (by simp <;> omega), World.cell?_alloc_at _ _ _ _ (by simp)]; rfl)
    have pp4 : (((w.alloc (.cells #[.string p.id, .int .i64 p.prio, .bool p.crit, .int .i64 p.r0, .int .i64 p.r1, .int .i64 p.r2, .int .i64 p.l0, .int .i64 p.l1, .int .i64 p.l2, .string p.img, .int .i64 p.size] 62)).alloc (.cells #[.string q.id, .int .i64 q.prio, .bool q.crit, .int .i64 q.r0, .int .i64 q.r1, .int .i64 q.r2, .int .i64 q.l0, .int .i64 q.l1, .int .i64 q.l2, .string q.img, .int .i64 q.size] 62)).alloc (.cells #[.int .i64 t, .int .i64 x0, .int .i64 x1, .int .i64 x2, .slice a U.length cap] 32)).cell? ⟨w.heap.size, 4, none⟩ = some (.int .i64 p.r1) := by first | (simp; done) | (rw [World.cell?_alloc_at _ _ _ _ (by simp)]; rfl) | (rw [World.cell?_alloc_past _ _ _ (by simp <;> omega), World.cell?_alloc_at _ _ _ _ (by simp)]; rfl) | (rw [World.cell?_alloc_past _ _ _ (by simp <;> omega), World.cell?_alloc_past _ _ _ (by simp <;> omega), World.cell?_alloc_at _ _ _ _ (by simp)]; rfl)
    have pp5 : (((w.alloc (.cells #[.string p.id, .int .i64 p.prio, .bool p.crit, .int .i64 p.r0, .int .i64 p.r1, .int .i64 p.r2, .int .i64 p.l0, .int .i64 p.l1, .int .i64 p.l2, .string p.img, .int .i64 p.size] 62)).alloc (.cells #[.string q.id, .int .i64 q.prio, .bool q.crit, .int .i64 q.r0, .int .i64 q.r1, .int .i64 q.r2, .int .i64 q.l0, .int .i64 q.l1, .int .i64 q.l2, .string q.img, .int .i64 q.size] 62)).alloc (.cells #[.int .i64 t, .int .i64 x0, .int .i64 x1, .int .i64 x2, .slice a U.length cap] 32)).cell? ⟨w.heap.size, 5, none⟩ = some (.int .i64 p.r2) := by first | (simp; done) | (rw [World.cell?_alloc_at _ _ _ _ (by simp)]; rfl) | (rw [World.cell?_alloc_past _ _ _ (by simp <;> omega), World.cell?_alloc_at _ _ _ _ (by simp)]; rfl) | (rw [World.cell?_alloc_past _ _ _ (by simp <;> omega), World.cell?_alloc_past _ _ _ (by simp <;> omega), World.cell?_alloc_at _ _ _ _ (by simp)]; rfl)
    have pp6 : (((w.alloc (.cells #[.string p.id, .int .i64 p.prio, .bool p.crit, .int .i64 p.r0, .int .i64 p.r1, .int .i64 p.r2, .int .i64 p.l0, .int .i64 p.l1, .int .i64 p.l2, .string p.img, .int .i64 p.size] 62)).alloc (.cells #[.string q.id, .int .i64 q.prio, .bool q.crit, .int .i64 q.r0, .int .i64 q.r1, .int .i64 q.r2, .int .i64 q.l0, .int .i64 q.l1, .int .i64 q.l2, .string q.img, .int .i64 q.size] 62)).alloc (.cells #[.int .i64 t, .int .i64 x0, .int .i64 x1, .int .i64 x2, .slice a U.length cap] 32)).cell? ⟨w.heap.size, 6, none⟩ = some (.int .i64 p.l0) := by first | (simp; done) | (rw [World.cell?_alloc_at _ _ _ _ (by simp)]; rfl) | (rw [World.cell?_alloc_past _ _ _ (by simp <;> omega), World.cell?_alloc_at _ _ _ _ (by simp)]; rfl) | (rw [World.cell?_alloc_past _ _ _ (by simp <;> omega), World.cell?_alloc_past _ _ _ (by simp <;> omega), World.cell?_alloc_at _ _ _ _ (by simp)]; rfl)
    have pp7 : (((w.alloc (.cells #[.string p.id, .int .i64 p.prio, .bool p.crit, .int .i64 p.r0, .int .i64 p.r1, .int .i64 p.r2, .int .i64 p.l0, .int .i64 p.l1, .int .i64 p.l2, .string p.img, .int .i64 p.size] 62)).alloc (.cells #[.string q.id, .int .i64 q.prio, .bool q.crit, .int .i64 q.r0, .int .i64 q.r1, .int .i64 q.r2, .int .i64 q.l0, .int .i64 q.l1, .int .i64 q.l2, .string q.img, .int .i64 q.size] 62)).alloc (.cells #[.int .i64 t, .int .i64 x0, .int .i64 x1, .int .i64 x2, .slice a U.length cap] 32)).cell? ⟨w.heap.size, 7, none⟩ = some (.int .i64 p.l1) := by first | (simp; done) | (rw [World.cell?_alloc_at _ _ _ _ (by simp)]; rfl) | (rw [World.cell?_alloc_past _ _ _ (by simp <;> omega), World.cell?_alloc_at _ _ _ _ (by simp)]; rfl) | (rw [World.cell?_alloc_past _ _ _ (by simp <;> omega), World.cell?_alloc_past _ _ _ (by simp <;> omega), World.cell?_alloc_at _ _ _ _ (by simp)]; rfl)
    have pp8 : (((w.alloc (.cells #[.string p.id, .int .i64 p.prio, .bool p.crit, .int .i64 p.r0, .int .i64 p.r1, .int .i64 p.r2, .int .i64 p.l0, .int .i64 p.l1, .int .i64 p.l2, .string p.img, .int .i64 p.size] 62)).alloc (.cells #[.string q.id, .int .i64 q.prio, .bool q.crit, .int .i64 q.r0, .int .i64 q.r1, .int .i64 q.r2, .int .i64 q.l0, .int .i64 q.l1, .int .i64 q.l2, .string q.img, .int .i64 q.size] 62)).alloc (.cells #[.int .i64 t, .int .i64 x0, .int .i64 x1, .int .i64 x2, .slice a U.length cap] 32)).cell? ⟨w.heap.size, 8, none⟩ = some (.int .i64 p.l2) := by first | (simp; done) | (rw [World.cell?_alloc_at _ _ _ _ (by simp)]; rfl) | (rw [World.cell?_alloc_past _ _ _ (by simp <;> omega), World.cell?_alloc_at _ _ _ _ (by simp)]; rfl) | (rw [World.cell?_alloc_past _ _ _ (by simp <;> omega), World.cell?_alloc_past _ _ _ (by simp <;> omega), World.cell?_alloc_at _ _ _ _ (by simp)]; rfl)
    have pp9 : (((w.alloc (.cells #[.string p.id, .int .i64 p.prio, .bool p.crit, .int .i64 p.r0, .int .i64 p.r1, .int .i64 p.r2, .int .i64 p.l0, .int .i64 p.l1, .int .i64 p.l2, .string p.img, .int .i64 p.size] 62)).alloc (.cells #[.string q.id, .int .i64 q.prio, .bool q.crit, .int .i64 q.r0, .int .i64 q.r1, .int .i64 q.r2, .int .i64 q.l0, .int .i64 q.l1, .int .i64 q.l2, .string q.img, .int .i64 q.size] 62)).alloc (.cells #[.int .i64 t, .int .i64 x0, .int .i64 x1, .int .i64 x2, .slice a U.length cap] 32)).cell? ⟨w.heap.size, 9, none⟩ = some (.string p.img) := by first | (simp; done) | (rw [World.cell?_alloc_at _ _ _ _ (by simp)]; rfl) | (rw [World.cell?_alloc_past _ _ _ (by simp <;> omega), World.cell?_alloc_at _ _ _ _ (by simp)]; rfl) | (rw [World.cell?_alloc_past _ _ _ (by simp <;> omega), World.cell?_alloc_past _ _ _ (by simp <;> omega), World.cell?_alloc_at _ _ _ _ (by simp)]; rfl)
    have pp10 : (((w.alloc (.cells #[.string p.id, .int .i64 p.prio, .bool p.crit, .int .i64 p.r0, .int .i64 p.r1, .int .i64 p.r2, .int .i64 p.l0, .int .i64 p.l1, .int .i64 p.l2, .string p.img, .int .i64 p.size] 62)).alloc (.cells #[.string q.id, .int .i64 q.prio, .bool q.crit, .int .i64 q.r0, .int .i64 q.r1, .int .i64 q.r2, .int .i64 q.l0, .int .i64 q.l1, .int .i64 q.l2, .string q.img, .int .i64 q.size] 62)).alloc (.cells #[.int .i64 t, .int .i64 x0, .int .i64 x1, .int .i64 x2, .slice a U.length cap] 32)).cell? ⟨w.heap.size, 10, none⟩ = some (.int .i64 p.size) := by first | (simp; done) | (rw [World.cell?_alloc_at _ _ _ _ (by simp)]; rfl) | (rw [World.cell?_alloc_past _ _ _ (by simp <;> omega), World.cell?_alloc_at _ _ _ _ (by simp)]; rfl) | (rw [World.cell?_alloc_past _ _ _ (by simp <;> omega), World.cell?_alloc_past _ _ _ (by simp <;> omega), World.cell?_alloc_at _ _ _ _ (by simp)]; rfl)
    have qq0 : (((w.alloc (.cells #[.string p.id, .int .i64 p.prio, .bool p.crit, .int .i64 p.r0, .int .i64 p.r1, .int .i64 p.r2, .int .i64 p.l0, .int .i64 p.l1, .int .i64 p.l2, .string p.img, .int .i64 p.size] 62)).alloc (.cells #[.string q.id, .int .i64 q.prio, .bool q.crit, .int .i64 q.r0, .int .i64 q.r1, .int .i64 q.r2, .int .i64 q.l0, .int .i64 q.l1, .int .i64 q.l2, .string q.img, .int .i64 q.size] 62)).alloc (.cells #[.int .i64 t, .int .i64 x0, .int .i64 x1, .int .i64 x2, .slice a U.length cap] 32)).cell? ⟨w.heap.size + 1, 0, none⟩ = some (.string q.id) := by first | (simp; done) | (rw [World.cell?_alloc_at _ _ _ _ (by simp)]; rfl) | (rw [World.cell?_alloc_past _ _ _ (by simp <;> omega), World.cell?_alloc_at _ _ _ _ (by simp)]; rfl) | (rw [World.cell?_alloc_past _ _ _ (by simp <;> omega), World.cell?_alloc_past _ _ _ (by simp <;> omega), World.cell?_alloc_at _ _ _ _ (by simp)]; rfl)
    have qq1 : (((w.alloc (.cells #[.string p.id, .int .i64 p.prio, .bool p.crit, .int .i64 p.r0, .int .i64 p.r1, .int .i64 p.r2, .int .i64 p.l0, .int .i64 p.l1, .int .i64 p.l2, .string p.img, .int .i64 p.size] 62)).alloc (.cells #[.string q.id, .int .i64 q.prio, .bool q.crit, .int .i64 q.r0, .int .i64 q.r1, .int .i64 q.r2, .int .i64 q.l0, .int .i64 q.l1, .int .i64 q.l2, .string q.img, .int .i64 q.size] 62)).alloc (.cells #[.int .i64 t, .int .i64 x0, .int .i64 x1, .int .i64 x2, .slice a U.length cap] 32)).cell? ⟨w.heap.size + 1, 1, none⟩ = some (.int .i64 q.prio) := by first | (simp; done) | (rw [World.cell?_alloc_at _ _ _ _ (by simp)]; rfl) | (rw [World.cell?_alloc_past _ _ _ (by simp <;> omega), World.cell?_alloc_at _ _ _ _ (by simp)]; rfl) | (rw [World.cell?_alloc_past _ _ _ (by simp <;> omega), World.cell?_alloc_past _ _ _ (by simp <;> omega), World.cell?_alloc_at _ _ _ _ (by simp)]; rfl)
    have qq2 : (((w.alloc (.cells #[.string p.id, .int .i64 p.prio, .bool p.crit, .int .i64 p.r0, .int .i64 p.r1, .int .i64 p.r2, .int .i64 p.l0, .int .i64 p.l1, .int .i64 p.l2, .string p.img, .int .i64 p.size] 62)).alloc (.cells #[.string q.id, .int .i64 q.prio, .bool q.crit, .int .i64 q.r0, .int .i64 q.r1, .int .i64 q.r2, .int .i64 q.l0, .int .i64 q.l1, .int .i64 q.l2, .string q.img, .int .i64 q.size] 62)).alloc (.cells #[.int .i64 t, .int .i64 x0, .int .i64 x1, .int .i64 x2, .slice a U.length cap] 32)).cell? ⟨w.heap.size + 1, 2, none⟩ = some (.bool q.crit) := by first | (simp; done) | (rw [World.cell?_alloc_at _ _ _ _ (by simp)]; rfl) | (rw [World.cell?_alloc_past _ _ _ (by simp <;> omega), World.cell?_alloc_at _ _ _ _ (by simp)]; rfl) | (rw [World.cell?_alloc_past _ _ _ (by simp <;> omega), World.cell?_alloc_past _ _ _ (by simp <;> omega), World.cell?_alloc_at _ _ _ _ (by simp)]; rfl)
    have qq3 : (((w.alloc (.cells #[.string p.id, .int .i64 p.prio, .bool p.crit, .int .i64 p.r0, .int .i64 p.r1, .int .i64 p.r2, .int .i64 p.l0, .int .i64 p.l1, .int .i64 p.l2, .string p.img, .int .i64 p.size] 62)).alloc (.cells #[.string q.id, .int .i64 q.prio, .bool q.crit, .int .i64 q.r0, .int .i64 q.r1, .int .i64 q.r2, .int .i64 q.l0, .int .i64 q.l1, .int .i64 q.l2, .string q.img, .int .i64 q.size] 62)).alloc (.cells #[.int .i64 t, .int .i64 x0, .int .i64 x1, .int .i64 x2, .slice a U.length cap] 32)).cell? ⟨w.heap.size + 1, 3, none⟩ = some (.int .i64 q.r0) := by first | (simp; done) | (rw [World.cell?_alloc_at _ _ _ _ (by simp)]; rfl) | (rw [World.cell?_alloc_past _ _ _ (by simp <;> omega), World.cell?_alloc_at _ _ _ _ (by simp)]; rfl) | (rw [World.cell?_alloc_past _ _ _ (by simp <;> omega), World.cell?_alloc_past _ _ _ (by simp <;> omega), World.cell?_alloc_at _ _ _ _ (by simp)]; rfl)
    have qq4 : (((w.alloc (.cells #[.string p.id, .int .i64 p.prio, .bool p.crit, .int .i64 p.r0, .int .i64 p.r1, .int .i64 p.r2, .int .i64 p.l0, .int .i64 p.l1, .int .i64 p.l2, .string p.img, .int .i64 p.size] 62)).alloc (.cells #[.string q.id, .int .i64 q.prio, .bool q.crit, .int .i64 q.r0, .int .i64 q.r1, .int .i64 q.r2, .int .i64 q.l0, .int .i64 q.l1, .int .i64 q.l2, .string q.img, .int .i64 q.size] 62)).alloc (.cells #[.int .i64 t, .int .i64 x0, .int .i64 x1, .int .i64 x2, .slice a U.length cap] 32)).cell? ⟨w.heap.size + 1, 4, none⟩ = some (.int .i64 q.r1) := by first | (simp; done) | (rw [World.cell?_alloc_at _ _ _ _ (by simp)]; rfl) | (rw [World.cell?_alloc_past _ _ _ (by simp <;> omega), World.cell?_alloc_at _ _ _ _ (by simp)]; rfl) | (rw [World.cell?_alloc_past _ _ _ (by simp <;> omega), World.cell?_alloc_past _ _ _ (by simp <;> omega), World.cell?_alloc_at _ _ _ _ (by simp)]; rfl)
    have qq5 : (((w.alloc (.cells #[.string p.id, .int .i64 p.prio, .bool p.crit, .int .i64 p.r0, .int .i64 p.r1, .int .i64 p.r2, .int .i64 p.l0, .int .i64 p.l1, .int .i64 p.l2, .string p.img, .int .i64 p.size] 62)).alloc (.cells #[.string q.id, .int .i64 q.prio, .bool q.crit, .int .i64 q.r0, .int .i64 q.r1, .int .i64 q.r2, .int .i64 q.l0, .int .i64 q.l1, .int .i64 q.l2, .string q.img, .int .i64 q.size] 62)).alloc (.cells #[.int .i64 t, .int .i64 x0, .int .i64 x1, .int .i64 x2, .slice a U.length cap] 32)).cell? ⟨w.heap.size + 1, 5, none⟩ = some (.int .i64 q.r2) := by first | (simp; done) | (rw [World.cell?_alloc_at _ _ _ _ (by simp)]; rfl) | (rw [World.cell?_alloc_past _ _ _ (by simp <;> omega), World.cell?_alloc_at _ _ _ _ (by simp)]; rfl) | (rw [World.cell?_alloc_past _ _ _ (by simp <;> omega), World.cell?_alloc_past _ _ _ (by simp <;> omega), World.cell?_alloc_at _ _ _ _ (by simp)]; rfl)
    have qq6 : (((w.alloc (.cells #[.string p.id, .int .i64 p.prio, .bool p.crit, .int .i64 p.r0, .int .i64 p.r1, .int .i64 p.r2, .int .i64 p.l0, .int .i64 p.l1, .int .i64 p.l2, .string p.img, .int .i64 p.size] 62)).alloc (.cells #[.string q.id, .int .i64 q.prio, .bool q.crit, .int .i64 q.r0, .int .i64 q.r1, .int .i64 q.r2, .int .i64 q.l0, .int .i64 q.l1, .int .i64 q.l2, .string q.img, .int .i64 q.size] 62)).alloc (.cells #[.int .i64 t, .int .i64 x0, .int .i64 x1, .int .i64 x2, .slice a U.length cap] 32)).cell? ⟨w.heap.size + 1, 6, none⟩ = some (.int .i64 q.l0) := by first | (simp; done) | (rw [World.cell?_alloc_at _ _ _ _ (by simp)]; rfl) | (rw [World.cell?_alloc_past _ _ _ (by simp <;> omega), World.cell?_alloc_at _ _ _ _ (by simp)]; rfl) | (rw [World.cell?_alloc_past _ _ _ (by simp <;> omega), World.cell?_alloc_past _ _ _ (by simp <;> omega), World.cell?_alloc_at _ _ _ _ (by simp)]; rfl)
    have qq7 : (((w.alloc (.cells #[.string p.id, .int .i64 p.prio, .bool p.crit, .int .i64 p.r0, .int .i64 p.r1, .int .i64 p.r2, .int .i64 p.l0, .int .i64 p.l1, .int .i64 p.l2, .string p.img, .int .i64 p.size] 62)).alloc (.cells #[.string q.id, .int .i64 q.prio, .bool q.crit, .int .i64 q.r0, .int .i64 q.r1, .int .i64 q.r2, .int .i64 q.l0, .int .i64 q.l1, .int .i64 q.l2, .string q.img, .int .i64 q.size] 62)).alloc (.cells #[.int .i64 t, .int .i64 x0, .int .i64 x1, .int .i64 x2, .slice a U.length cap] 32)).cell? ⟨w.heap.size + 1, 7, none⟩ = some (.int .i64 q.l1) := by first | (simp; done) | (rw [World.cell?_alloc_at _ _ _ _ (by simp)]; rfl) | (rw [World.cell?_alloc_past _ _ _ (by simp <;> omega), World.cell?_alloc_at _ _ _ _ (by simp)]; rfl) | (rw [World.cell?_alloc_past _ _ _ (by simp <;> omega), World.cell?_alloc_past _ _ _ (by simp <;> omega), World.cell?_alloc_at _ _ _ _ (by simp)]; rfl)
    have qq8 : (((w.alloc (.cells #[.string p.id, .int .i64 p.prio, .bool p.crit, .int .i64 p.r0, .int .i64 p.r1, .int .i64 p.r2, .int .i64 p.l0, .int .i64 p.l1, .int .i64 p.l2, .string p.img, .int .i64 p.size] 62)).alloc (.cells #[.string q.id, .int .i64 q.prio, .bool q.crit, .int .i64 q.r0, .int .i64 q.r1, .int .i64 q.r2, .int .i64 q.l0, .int .i64 q.l1, .int .i64 q.l2, .string q.img, .int .i64 q.size] 62)).alloc (.cells #[.int .i64 t, .int .i64 x0, .int .i64 x1, .int .i64 x2, .slice a U.length cap] 32)).cell? ⟨w.heap.size + 1, 8, none⟩ = some (.int .i64 q.l2) := by first | (simp; done) | (rw [World.cell?_alloc_at _ _ _ _ (by simp)]; rfl) | (rw [World.cell?_alloc_past _ _ _ (by simp <;> omega), World.cell?_alloc_at _ _ _ _ (by simp)]; rfl) | (rw [World.cell?_alloc_past _ _ _ (by simp <;> omega), World.cell?_alloc_past _ _ _ (by simp <;> omega), World.cell?_alloc_at _ _ _ _ (by simp)]; rfl)
    have qq9 : (((w.alloc (.cells #[.string p.id, .int .i64 p.prio, .bool p.crit, .int .i64 p.r0, .int .i64 p.r1, .int .i64 p.r2, .int .i64 p.l0, .int .i64 p.l1, .int .i64 p.l2, .string p.img, .int .i64 p.size] 62)).alloc (.cells #[.string q.id, .int .i64 q.prio, .bool q.crit, .int .i64 q.r0, .int .i64 q.r1, .int .i64 q.r2, .int .i64 q.l0, .int .i64 q.l1, .int .i64 q.l2, .string q.img, .int .i64 q.size] 62)).alloc (.cells #[.int .i64 t, .int .i64 x0, .int .i64 x1, .int .i64 x2, .slice a U.length cap] 32)).cell? ⟨w.heap.size + 1, 9, none⟩ = some (.string q.img) := by first | (simp; done) | (rw [World.cell?_alloc_at _ _ _ _ (by simp)]; rfl) | (rw [World.cell?_alloc_past _ _ _ (by simp <;> omega), World.cell?_alloc_at _ _ _ _ (by simp)]; rfl) | (rw [World.cell?_alloc_past _ _ _ (by simp <;> omega), World.cell?_alloc_past _ _ _ (by simp <;> omega), World.cell?_alloc_at _ _ _ _ (by simp)]; rfl)
    have qq10 : (((w.alloc (.cells #[.string p.id, .int .i64 p.prio, .bool p.crit, .int .i64 p.r0, .int .i64 p.r1, .int .i64 p.r2, .int .i64 p.l0, .int .i64 p.l1, .int .i64 p.l2, .string p.img, .int .i64 p.size] 62)).alloc (.cells #[.string q.id, .int .i64 q.prio, .bool q.crit, .int .i64 q.r0, .int .i64 q.r1, .int .i64 q.r2, .int .i64 q.l0, .int .i64 q.l1, .int .i64 q.l2, .string q.img, .int .i64 q.size] 62)).alloc (.cells #[.int .i64 t, .int .i64 x0, .int .i64 x1, .int .i64 x2, .slice a U.length cap] 32)).cell? ⟨w.heap.size + 1, 10, none⟩ = some (.int .i64 q.size) := by first | (simp; done) | (rw [World.cell?_alloc_at _ _ _ _ (by simp)]; rfl) | (rw [World.cell?_alloc_past _ _ _ (by simp <;> omega), World.cell?_alloc_at _ _ _ _ (by simp)]; rfl) | (rw [World.cell?_alloc_past _ _ _ (by simp <;> omega), World.cell?_alloc_past _ _ _ (by simp <;> omega), World.cell?_alloc_at _ _ _ _ (by simp)]; rfl)
    have sp0 : (((w.alloc (.cells #[.string p.id, .int .i64 p.prio, .bool p.crit, .int .i64 p.r0, .int .i64 p.r1, .int .i64 p.r2, .int .i64 p.l0, .int .i64 p.l1, .int .i64 p.l2, .string p.img, .int .i64 p.size] 62)).alloc (.cells #[.string q.id, .int .i64 q.prio, .bool q.crit, .int .i64 q.r0, .int .i64 q.r1, .int .i64 q.r2, .int .i64 q.l0, .int .i64 q.l1, .int .i64 q.l2, .string q.img, .int .i64 q.size] 62)).alloc (.cells #[.int .i64 t, .int .i64 x0, .int .i64 x1, .int .i64 x2, .slice a U.length cap] 32)).cell? ⟨w.heap.size + 2, 0, none⟩ = some (.int .i64 t) := by first | (simp; done) | (rw [World.cell?_alloc_at _ _ _ _ (by simp)]; rfl) | (rw [World.cell?_alloc_past _ _ _ (by simp <;> omega), World.cell?_alloc_at _ _ _ _ (by simp)]; rfl) | (rw [World.cell?_alloc_past _ _ _ (by simp <;> omega), World.cell?_alloc_past _ _ _ (by simp <;> omega), World.cell?_alloc_at _ _ _ _ (by simp)]; rfl)
    have sp1 : (((w.alloc (.cells #[.string p.id, .int .i64 p.prio, .bool p.crit, .int .i64 p.r0, .int .i64 p.r1, .int .i64 p.r2, .int .i64 p.l0, .int .i64 p.l1, .int .i64 p.l2, .string p.img, .int .i64 p.size] 62)).alloc (.cells #[.string q.id, .int .i64 q.prio, .bool q.crit, .int .i64 q.r0, .int .i64 q.r1, .int .i64 q.r2, .int .i64 q.l0, .int .i64 q.l1, .int .i64 q.l2, .string q.img, .int .i64 q.size] 62)).alloc (.cells #[.int .i64 t, .int .i64 x0, .int .i64 x1, .int .i64 x2, .slice a U.length cap] 32)).cell? ⟨w.heap.size + 2, 1, none⟩ = some (.int .i64 x0) := by first | (simp; done) | (rw [World.cell?_alloc_at _ _ _ _ (by simp)]; rfl) | (rw [World.cell?_alloc_past _ _ _ (by simp <;> omega), World.cell?_alloc_at _ _ _ _ (by simp)]; rfl) | (rw [World.cell?_alloc_past _ _ _ (by simp <;> omega), World.cell?_alloc_past _ _ _ (by simp <;> omega), World.cell?_alloc_at _ _ _ _ (by simp)]; rfl)
    have sp2 : (((w.alloc (.cells #[.string p.id, .int .i64 p.prio, .bool p.crit, .int .i64 p.r0, .int .i64 p.r1, .int .i64 p.r2, .int .i64 p.l0, .int .i64 p.l1, .int .i64 p.l2, .string p.img, .int .i64 p.size] 62)).alloc (.cells #[.string q.id, .int .i64 q.prio, .bool q.crit, .int .i64 q.r0, .int .i64 q.r1, .int .i64 q.r2, .int .i64 q.l0, .int .i64 q.l1, .int .i64 q.l2, .string q.img, .int .i64 q.size] 62)).alloc (.cells #[.int .i64 t, .int .i64 x0, .int .i64 x1, .int .i64 x2, .slice a U.length cap] 32)).cell? ⟨w.heap.size + 2, 2, none⟩ = some (.int .i64 x1) := by first | (simp; done) | (rw [World.cell?_alloc_at _ _ _ _ (by simp)]; rfl) | (rw [World.cell?_alloc_past _ _ _ (by simp <;> omega), World.cell?_alloc_at _ _ _ _ (by simp)]; rfl) | (rw [World.cell?_alloc_past _ _ _ (by simp <;> omega), World.cell?_alloc_past _ _ _ (by simp <;> omega), World.cell?_alloc_at _ _ _ _ (by simp)]; rfl)
    have sp3 : (((w.alloc (.cells #[.string p.id, .int .i64 p.prio, .bool p.crit, .int .i64 p.r0, .int .i64 p.r1, .int .i64 p.r2, .int .i64 p.l0, .int .i64 p.l1, .int .i64 p.l2, .string p.img, .int .i64 p.size] 62)).alloc (.cells #[.string q.id, .int .i64 q.prio, .bool q.crit, .int .i64 q.r0, .int .i64 q.r1, .int .i64 q.r2, .int .i64 q.l0, .int .i64 q.l1, .int .i64 q.l2, .string q.img, .int .i64 q.size] 62)).alloc (.cells #[.int .i64 t, .int .i64 x0, .int .i64 x1, .int .i64 x2, .slice a U.length cap] 32)).cell? ⟨w.heap.size + 2, 3, none⟩ = some (.int .i64 x2) := by first | (simp; done) | (rw [World.cell?_alloc_at _ _ _ _ (by simp)]; rfl) | (rw [World.cell?_alloc_past _ _ _ (by simp <;> omega), World.cell?_alloc_at _ _ _ _ (by simp)]; rfl) | (rw [World.cell?_alloc_past _ _ _ (by simp <;> omega), World.cell?_alloc_past _ _ _ (by simp <;> omega), World.cell?_alloc_at _ _ _ _ (by simp)]; rfl)
    have sp4 : (((w.alloc (.cells #[.string p.id, .int .i64 p.prio, .bool p.crit, .int .i64 p.r0, .int .i64 p.r1, .int .i64 p.r2, .int .i64 p.l0, .int .i64 p.l1, .int .i64 p.l2, .string p.img, .int .i64 p.size] 62)).alloc (.cells #[.string q.id, .int .i64 q.prio, .bool q.crit, .int .i64 q.r0, .int .i64 q.r1, .int .i64 q.r2, .int .i64 q.l0, .int .i64 q.l1, .int .i64 q.l2, .string q.img, .int .i64 q.size] 62)).alloc (.cells #[.int .i64 t, .int .i64 x0, .int .i64 x1, .int .i64 x2, .slice a U.length cap] 32)).cell? ⟨w.heap.size + 2, 4, none⟩ = some (.slice a U.length cap) := by first | (simp; done) | (rw [World.cell?_alloc_at _ _ _ _ (by simp)]; rfl) | (rw [World.cell?_alloc_past _ _ _ (by simp <;> omega), World.cell?_alloc_at _ _ _ _ (by simp)]; rfl) | (rw [World.cell?_alloc_past _ _ _ (by simp <;> omega), World.cell?_alloc_past _ _ _ (by simp <;> omega), World.cell?_alloc_at _ _ _ _ (by simp)]; rfl)
    have hb2 := (by repeat (first | exact hbel | refine belAlloc ?_ _ | refine belDrew ?_ | refine belSet ?_ _ _ (by simp)) : Below w.heap.size w (((w.alloc (.cells #[.string p.id, .int .i64 p.prio, .bool p.crit, .int .i64 p.r0, .int .i64 p.r1, .int .i64 p.r2, .int .i64 p.l0, .int .i64 p.l1, .int .i64 p.l2, .string p.img, .int .i64 p.size] 62)).alloc (.cells #[.string q.id, .int .i64 q.prio, .bool q.crit, .int .i64 q.r0, .int .i64 q.r1, .int .i64 q.r2, .int .i64 q.l0, .int .i64 q.l1, .int .i64 q.l2, .string q.img, .int .i64 q.size] 62)).alloc (.cells #[.int .i64 t, .int .i64 x0, .int .i64 x1, .int .i64 x2, .slice a U.length cap] 32)))
    replace hw := belStep hw hb2
    clear hb2 hbel
    generalize ((w.alloc (.cells #[.string p.id, .int .i64 p.prio, .bool p.crit, .int .i64 p.r0, .int .i64 p.r1, .int .i64 p.r2, .int .i64 p.l0, .int .i64 p.l1, .int .i64 p.l2, .string p.img, .int .i64 p.size] 62)).alloc (.cells #[.string q.id, .int .i64 q.prio, .bool q.crit, .int .i64 q.r0, .int .i64 q.r1, .int .i64 q.r2, .int .i64 q.l0, .int .i64 q.l1, .int .i64 q.l2, .string q.img, .int .i64 q.size] 62)).alloc (.cells #[.int .i64 t, .int .i64 x0, .int .i64 x1, .int .i64 x2, .slice a U.length cap] 32) = W1 at *
    replace pp0 := keep pp0
    replace pp1 := keep pp1
    replace pp2 := keep pp2
    replace pp3 := keep pp3
    replace pp4 := keep pp4
    replace pp5 := keep pp5
    replace pp6 := keep pp6
    replace pp7 := keep pp7
    replace pp8 := keep pp8
    replace pp9 := keep pp9
    replace pp10 := keep pp10
    replace qq0 := keep qq0
    replace qq1 := keep qq1
    replace qq2 := keep qq2
    replace qq3 := keep qq3
    replace qq4 := keep qq4
    replace qq5 := keep qq5
    replace qq6 := keep qq6
    replace qq7 := keep qq7
    replace qq8 := keep qq8
    replace qq9 := keep qq9
    replace qq10 := keep qq10
    replace sp0 := keep sp0
    replace sp1 := keep sp1
    replace sp2 := keep sp2
    replace sp3 := keep sp3
    replace sp4 := keep sp4
    have hbel : Below W1.heap.size W1 W1 := Below.refl _ _
    skip
    have hix := HIXp.out
    have hsub := HSUBp.out
    clear hbel
    refine wp_region_held_drew (S := (fun u => Below W1.heap.size W1 u)) (by kernel_rfl) (by exact (show Below W1.heap.size W1 _ from by repeat (first | assumption | exact Below.refl _ _ | refine belDrew ?_ | refine belAlloc ?_ _ | refine belStep ?_ (by assumption)))) (fun hHeld => ?_)
    refine wpAnyH_take (i := 0) (oi := ?oi_1) (v := ?v_1) ?hi_1 (by kernel_rfl) ?hf_1 ?hr_1 ?hQ_1 (Or.inl ⟨?hw_1, ?hy_1⟩) (by assumption) ?rest_1
    case hi_1 => ((simp only [List.getElem?_toArray, List.getElem?_cons_succ, List.getElem?_cons_zero]); rfl)
    case hf_1 => kernel_rfl
    case hr_1 => kernel_rfl
    case hQ_1 => exact fun _ _ _ h => h
    case hw_1 => rfl
    case hy_1 => ((intro w hSw; (try dsimp only at hSw); go_simp); all_goals (with_reducible rfl))
    try simp only [Act.put, List.setIfInBounds_toArray, List.set_cons_zero, List.set_cons_succ]
    refine wpAnyH_take (i := 1) (oi := ?oi_2) (v := ?v_2) ?hi_2 (by kernel_rfl) ?hf_2 ?hr_2 ?hQ_2 (Or.inl ⟨?hw_2, ?hy_2⟩) (by assumption) ?rest_2
    case hi_2 => ((simp only [List.getElem?_toArray, List.getElem?_cons_succ, List.getElem?_cons_zero]); rfl)
    case hf_2 => kernel_rfl
    case hr_2 => kernel_rfl
    case hQ_2 => exact fun _ _ _ h => h
    case hw_2 => rfl
    case hy_2 => ((intro w hSw; (try dsimp only at hSw); go_simp); all_goals (with_reducible rfl))
    try simp only [Act.put, List.setIfInBounds_toArray, List.set_cons_zero, List.set_cons_succ]
    refine wpAnyH_take (i := 2) (oi := ?oi_3) (v := ?v_3) ?hi_3 (by kernel_rfl) ?hf_3 ?hr_3 ?hQ_3 (Or.inl ⟨?hw_3, ?hy_3⟩) (by assumption) ?rest_3
    case hi_3 => ((simp only [List.getElem?_toArray, List.getElem?_cons_succ, List.getElem?_cons_zero]); rfl)
    case hf_3 => kernel_rfl
    case hr_3 => kernel_rfl
    case hQ_3 => exact fun _ _ _ h => h
    case hw_3 => rfl
    case hy_3 => ((intro w hSw; (try dsimp only at hSw); go_simp); all_goals (with_reducible rfl))
    try simp only [Act.put, List.setIfInBounds_toArray, List.set_cons_zero, List.set_cons_succ]
    refine wpAnyH_take (i := 4) (oi := ?oi_4) (v := ?v_4) ?hi_4 (by kernel_rfl) ?hf_4 ?hr_4 ?hQ_4 (Or.inl ⟨?hw_4, ?hy_4⟩) (by assumption) ?rest_4
    case hi_4 => ((simp only [List.getElem?_toArray, List.getElem?_cons_succ, List.getElem?_cons_zero]); rfl)
    case hf_4 => kernel_rfl
    case hr_4 => kernel_rfl
    case hQ_4 => exact fun _ _ _ h => h
    case hw_4 => rfl
    case hy_4 => ((intro w hSw; (try dsimp only at hSw); go_simp); all_goals (with_reducible rfl))
    try simp only [Act.put, List.setIfInBounds_toArray, List.set_cons_zero, List.set_cons_succ]
    refine wpAnyH_take (i := 6) (oi := ?oi_5) (v := ?v_5) ?hi_5 (by kernel_rfl) ?hf_5 ?hr_5 ?hQ_5 (Or.inl ⟨?hw_5, ?hy_5⟩) (by assumption) ?rest_5
    case hi_5 => ((simp only [List.getElem?_toArray, List.getElem?_cons_succ, List.getElem?_cons_zero]); rfl)
    case hf_5 => kernel_rfl
    case hr_5 => kernel_rfl
    case hQ_5 => exact fun _ _ _ h => h
    case hw_5 => rfl
    case hy_5 => ((intro w hSw; (try dsimp only at hSw); go_simp); all_goals (with_reducible rfl))
    try simp only [Act.put, List.setIfInBounds_toArray, List.set_cons_zero, List.set_cons_succ]
    refine wpAnyH_take (i := 7) (oi := ?oi_6) (v := ?v_6) ?hi_6 (by kernel_rfl) ?hf_6 ?hr_6 ?hQ_6 (Or.inl ⟨?hw_6, ?hy_6⟩) (by assumption) ?rest_6
    case hi_6 => ((simp only [List.getElem?_toArray, List.getElem?_cons_succ, List.getElem?_cons_zero]); rfl)
    case hf_6 => kernel_rfl
    case hr_6 => kernel_rfl
    case hQ_6 => exact fun _ _ _ h => h
    case hw_6 => rfl
    case hy_6 => ((intro w hSw; (try dsimp only at hSw); go_simp); all_goals (with_reducible rfl))
    try simp only [Act.put, List.setIfInBounds_toArray, List.set_cons_zero, List.set_cons_succ]
    refine wpAnyH_ready (rs := [3]) (by kernel_rfl) (by simp) ?_
    refine AllReadyH.cons (o := ?o1_7) ?hi_7 (fun K hK => ?rest_7) AllReadyH.nil
    case hi_7 => ((simp only [List.getElem?_toArray, List.getElem?_cons_succ, List.getElem?_cons_zero]); rfl)
    go_simp
    (first | (go_at_call 26; (with_reducible refine (COp.out _ (belStep hw hHeld)).mono ?_); rintro e wq ⟨rfl, hbq⟩) | (go_at_call 40; (with_reducible refine (CAp.out _).mono ?_); rintro e wq ⟨rfl, hbq⟩))
    try go_simp
    refine hK.out _ _ (by exact (show Below W1.heap.size W1 _ from by repeat (first | assumption | exact Below.refl _ _ | refine belDrew ?_ | refine belAlloc ?_ _ | refine belStep ?_ (by assumption)))) (fun hHeld => ?_)
    clear hK K
    try simp only [Act.put, List.setIfInBounds_toArray, List.set_cons_zero, List.set_cons_succ]
    refine wpAnyH_take (i := 5) (oi := ?oi_8) (v := ?v_8) ?hi_8 (by kernel_rfl) ?hf_8 ?hr_8 ?hQ_8 (Or.inl ⟨?hw_8, ?hy_8⟩) (by assumption) ?rest_8
    case hi_8 => ((simp only [List.getElem?_toArray, List.getElem?_cons_succ, List.getElem?_cons_zero]); rfl)
    case hf_8 => kernel_rfl
    case hr_8 => kernel_rfl
    case hQ_8 => exact fun _ _ _ h => h
    case hw_8 => rfl
    case hy_8 => ((intro w hSw; (try dsimp only at hSw); go_simp); all_goals (with_reducible rfl))
    try simp only [Act.put, List.setIfInBounds_toArray, List.set_cons_zero, List.set_cons_succ]
    refine wpAnyH_ready (rs := [8]) (by kernel_rfl) (by simp) ?_
    refine AllReadyH.cons (o := ?o1_9) ?hi_9 (fun K hK => ?rest_9) AllReadyH.nil
    case hi_9 => ((simp only [List.getElem?_toArray, List.getElem?_cons_succ, List.getElem?_cons_zero]); rfl)
    go_simp
    (first | (go_at_call 26; (with_reducible refine (COp.out _ (belStep hw hHeld)).mono ?_); rintro e wq ⟨rfl, hbq⟩) | (go_at_call 40; (with_reducible refine (CAp.out _).mono ?_); rintro e wq ⟨rfl, hbq⟩))
    try go_simp
    refine hK.out _ _ (by exact (show Below W1.heap.size W1 _ from by repeat (first | assumption | exact Below.refl _ _ | refine belDrew ?_ | refine belAlloc ?_ _ | refine belStep ?_ (by assumption)))) (fun hHeld => ?_)
    clear hK K
    try simp only [Act.put, List.setIfInBounds_toArray, List.set_cons_zero, List.set_cons_succ]
    refine wpAnyH_take (i := 9) (oi := ?oi_10) (v := ?v_10) ?hi_10 (by kernel_rfl) ?hf_10 ?hr_10 ?hQ_10 (Or.inl ⟨?hw_10, ?hy_10⟩) (by assumption) ?rest_10
    case hi_10 => ((simp only [List.getElem?_toArray, List.getElem?_cons_succ, List.getElem?_cons_zero]); rfl)
    case hf_10 => kernel_rfl
    case hr_10 => kernel_rfl
    case hQ_10 => exact fun _ _ _ h => h
    case hw_10 => rfl
    case hy_10 => ((intro w hSw; (try dsimp only at hSw); go_simp); all_goals (with_reducible rfl))
    try simp only [Act.put, List.setIfInBounds_toArray, List.set_cons_zero, List.set_cons_succ]
    refine wpAnyH_take (i := 10) (oi := ?oi_11) (v := ?v_11) ?hi_11 (by kernel_rfl) ?hf_11 ?hr_11 ?hQ_11 (Or.inl ⟨?hw_11, ?hy_11⟩) (by assumption) ?rest_11
    case hi_11 => ((simp only [List.getElem?_toArray, List.getElem?_cons_succ, List.getElem?_cons_zero]); rfl)
    case hf_11 => kernel_rfl
    case hr_11 => kernel_rfl
    case hQ_11 => exact fun _ _ _ h => h
    case hw_11 => rfl
    case hy_11 => ((intro w hSw; (try dsimp only at hSw); go_simp); all_goals (with_reducible rfl))
    try simp only [Act.put, List.setIfInBounds_toArray, List.set_cons_zero, List.set_cons_succ]
    refine wpAnyH_done (by kernel_rfl) ?_ _
    have hbel := hHeld
    clear hHeld hix hsub
    go_upto_region 2 with fail
    have hix := HIXq.out
    have hsub := HSUBq.out
    refine wp_region_held_drew (S := (fun u => Below W1.heap.size W1 u)) (by kernel_rfl) (by exact (show Below W1.heap.size W1 _ from by repeat (first | assumption | exact Below.refl _ _ | refine belDrew ?_ | refine belAlloc ?_ _ | refine belStep ?_ (by assumption)))) (fun hHeld => ?_)
    refine wpAnyH_take (i := 0) (oi := ?oi_12) (v := ?v_12) ?hi_12 (by kernel_rfl) ?hf_12 ?hr_12 ?hQ_12 (Or.inl ⟨?hw_12, ?hy_12⟩) (by assumption) ?rest_12
    case hi_12 => ((simp only [List.getElem?_toArray, List.getElem?_cons_succ, List.getElem?_cons_zero]); rfl)
    case hf_12 => kernel_rfl
    case hr_12 => kernel_rfl
    case hQ_12 => exact fun _ _ _ h => h
    case hw_12 => rfl
    case hy_12 => ((intro w hSw; (try dsimp only at hSw); go_simp); all_goals (with_reducible rfl))
    try simp only [Act.put, List.setIfInBounds_toArray, List.set_cons_zero, List.set_cons_succ]
    refine wpAnyH_take (i := 1) (oi := ?oi_13) (v := ?v_13) ?hi_13 (by kernel_rfl) ?hf_13 ?hr_13 ?hQ_13 (Or.inl ⟨?hw_13, ?hy_13⟩) (by assumption) ?rest_13
    case hi_13 => ((simp only [List.getElem?_toArray, List.getElem?_cons_succ, List.getElem?_cons_zero]); rfl)
    case hf_13 => kernel_rfl
    case hr_13 => kernel_rfl
    case hQ_13 => exact fun _ _ _ h => h
    case hw_13 => rfl
    case hy_13 => ((intro w hSw; (try dsimp only at hSw); go_simp); all_goals (with_reducible rfl))
    try simp only [Act.put, List.setIfInBounds_toArray, List.set_cons_zero, List.set_cons_succ]
    refine wpAnyH_take (i := 2) (oi := ?oi_14) (v := ?v_14) ?hi_14 (by kernel_rfl) ?hf_14 ?hr_14 ?hQ_14 (Or.inl ⟨?hw_14, ?hy_14⟩) (by assumption) ?rest_14
    case hi_14 => ((simp only [List.getElem?_toArray, List.getElem?_cons_succ, List.getElem?_cons_zero]); rfl)
    case hf_14 => kernel_rfl
    case hr_14 => kernel_rfl
    case hQ_14 => exact fun _ _ _ h => h
    case hw_14 => rfl
    case hy_14 => ((intro w hSw; (try dsimp only at hSw); go_simp); all_goals (with_reducible rfl))
    try simp only [Act.put, List.setIfInBounds_toArray, List.set_cons_zero, List.set_cons_succ]
    refine wpAnyH_take (i := 4) (oi := ?oi_15) (v := ?v_15) ?hi_15 (by kernel_rfl) ?hf_15 ?hr_15 ?hQ_15 (Or.inl ⟨?hw_15, ?hy_15⟩) (by assumption) ?rest_15
    case hi_15 => ((simp only [List.getElem?_toArray, List.getElem?_cons_succ, List.getElem?_cons_zero]); rfl)
    case hf_15 => kernel_rfl
    case hr_15 => kernel_rfl
    case hQ_15 => exact fun _ _ _ h => h
    case hw_15 => rfl
    case hy_15 => ((intro w hSw; (try dsimp only at hSw); go_simp); all_goals (with_reducible rfl))
    try simp only [Act.put, List.setIfInBounds_toArray, List.set_cons_zero, List.set_cons_succ]
    refine wpAnyH_take (i := 6) (oi := ?oi_16) (v := ?v_16) ?hi_16 (by kernel_rfl) ?hf_16 ?hr_16 ?hQ_16 (Or.inl ⟨?hw_16, ?hy_16⟩) (by assumption) ?rest_16
    case hi_16 => ((simp only [List.getElem?_toArray, List.getElem?_cons_succ, List.getElem?_cons_zero]); rfl)
    case hf_16 => kernel_rfl
    case hr_16 => kernel_rfl
    case hQ_16 => exact fun _ _ _ h => h
    case hw_16 => rfl
    case hy_16 => ((intro w hSw; (try dsimp only at hSw); go_simp); all_goals (with_reducible rfl))
    try simp only [Act.put, List.setIfInBounds_toArray, List.set_cons_zero, List.set_cons_succ]
    refine wpAnyH_take (i := 7) (oi := ?oi_17) (v := ?v_17) ?hi_17 (by kernel_rfl) ?hf_17 ?hr_17 ?hQ_17 (Or.inl ⟨?hw_17, ?hy_17⟩) (by assumption) ?rest_17
    case hi_17 => ((simp only [List.getElem?_toArray, List.getElem?_cons_succ, List.getElem?_cons_zero]); rfl)
    case hf_17 => kernel_rfl
    case hr_17 => kernel_rfl
    case hQ_17 => exact fun _ _ _ h => h
    case hw_17 => rfl
    case hy_17 => ((intro w hSw; (try dsimp only at hSw); go_simp); all_goals (with_reducible rfl))
    try simp only [Act.put, List.setIfInBounds_toArray, List.set_cons_zero, List.set_cons_succ]
    refine wpAnyH_ready (rs := [3]) (by kernel_rfl) (by simp) ?_
    refine AllReadyH.cons (o := ?o1_18) ?hi_18 (fun K hK => ?rest_18) AllReadyH.nil
    case hi_18 => ((simp only [List.getElem?_toArray, List.getElem?_cons_succ, List.getElem?_cons_zero]); rfl)
    go_simp
    (first | (go_at_call 26; (with_reducible refine (COq.out _ (belStep hw hHeld)).mono ?_); rintro e wq ⟨rfl, hbq⟩) | (go_at_call 40; (with_reducible refine (CAq.out _).mono ?_); rintro e wq ⟨rfl, hbq⟩))
    try go_simp
    refine hK.out _ _ (by exact (show Below W1.heap.size W1 _ from by repeat (first | assumption | exact Below.refl _ _ | refine belDrew ?_ | refine belAlloc ?_ _ | refine belStep ?_ (by assumption)))) (fun hHeld => ?_)
    clear hK K
    try simp only [Act.put, List.setIfInBounds_toArray, List.set_cons_zero, List.set_cons_succ]
    refine wpAnyH_take (i := 5) (oi := ?oi_19) (v := ?v_19) ?hi_19 (by kernel_rfl) ?hf_19 ?hr_19 ?hQ_19 (Or.inl ⟨?hw_19, ?hy_19⟩) (by assumption) ?rest_19
    case hi_19 => ((simp only [List.getElem?_toArray, List.getElem?_cons_succ, List.getElem?_cons_zero]); rfl)
    case hf_19 => kernel_rfl
    case hr_19 => kernel_rfl
    case hQ_19 => exact fun _ _ _ h => h
    case hw_19 => rfl
    case hy_19 => ((intro w hSw; (try dsimp only at hSw); go_simp); all_goals (with_reducible rfl))
    try simp only [Act.put, List.setIfInBounds_toArray, List.set_cons_zero, List.set_cons_succ]
    refine wpAnyH_ready (rs := [8]) (by kernel_rfl) (by simp) ?_
    refine AllReadyH.cons (o := ?o1_20) ?hi_20 (fun K hK => ?rest_20) AllReadyH.nil
    case hi_20 => ((simp only [List.getElem?_toArray, List.getElem?_cons_succ, List.getElem?_cons_zero]); rfl)
    go_simp
    (first | (go_at_call 26; (with_reducible refine (COq.out _ (belStep hw hHeld)).mono ?_); rintro e wq ⟨rfl, hbq⟩) | (go_at_call 40; (with_reducible refine (CAq.out _).mono ?_); rintro e wq ⟨rfl, hbq⟩))
    try go_simp
    refine hK.out _ _ (by exact (show Below W1.heap.size W1 _ from by repeat (first | assumption | exact Below.refl _ _ | refine belDrew ?_ | refine belAlloc ?_ _ | refine belStep ?_ (by assumption)))) (fun hHeld => ?_)
    clear hK K
    try simp only [Act.put, List.setIfInBounds_toArray, List.set_cons_zero, List.set_cons_succ]
    refine wpAnyH_take (i := 9) (oi := ?oi_21) (v := ?v_21) ?hi_21 (by kernel_rfl) ?hf_21 ?hr_21 ?hQ_21 (Or.inl ⟨?hw_21, ?hy_21⟩) (by assumption) ?rest_21
    case hi_21 => ((simp only [List.getElem?_toArray, List.getElem?_cons_succ, List.getElem?_cons_zero]); rfl)
    case hf_21 => kernel_rfl
    case hr_21 => kernel_rfl
    case hQ_21 => exact fun _ _ _ h => h
    case hw_21 => rfl
    case hy_21 => ((intro w hSw; (try dsimp only at hSw); go_simp); all_goals (with_reducible rfl))
    try simp only [Act.put, List.setIfInBounds_toArray, List.set_cons_zero, List.set_cons_succ]
    refine wpAnyH_take (i := 10) (oi := ?oi_22) (v := ?v_22) ?hi_22 (by kernel_rfl) ?hf_22 ?hr_22 ?hQ_22 (Or.inl ⟨?hw_22, ?hy_22⟩) (by assumption) ?rest_22
    case hi_22 => ((simp only [List.getElem?_toArray, List.getElem?_cons_succ, List.getElem?_cons_zero]); rfl)
    case hf_22 => kernel_rfl
    case hr_22 => kernel_rfl
    case hQ_22 => exact fun _ _ _ h => h
    case hw_22 => rfl
    case hy_22 => ((intro w hSw; (try dsimp only at hSw); go_simp); all_goals (with_reducible rfl))
    try simp only [Act.put, List.setIfInBounds_toArray, List.set_cons_zero, List.set_cons_succ]
    refine wpAnyH_done (by kernel_rfl) ?_ _
    have hbel := hHeld
    clear hHeld hix hsub
    obtain ⟨X, hX⟩ : ∃ X, up - ap = X := ⟨_, rfl⟩
    obtain ⟨Y, hY⟩ : ∃ Y, uq - aq = Y := ⟨_, rfl⟩
    have K2 := KEY.out
    rw [hX, hY] at K2
    simp only [hX, hY]
    clear hX hY KEY
    rcases K2 with ⟨k1, k2, k3⟩ | ⟨k1, k2, k3⟩ | ⟨kk, k4⟩
    · have HV := Lib.hid k3
      clear k3
      go_wp2
      go_ret
      exact ⟨ret_bool (by rw [HV.out]), belStep hw hbel⟩
    · have HV := Lib.hid k3
      clear k3
      go_wp2
      go_ret
      exact ⟨ret_bool (by rw [HV.out]), belStep hw hbel⟩
    · rcases k4 with ⟨k5, k6⟩ | ⟨k5, ⟨k6, k7⟩ | ⟨k6, k7⟩⟩
      · have t1 : (p.prio != q.prio) = true := by simpa using k5
        have t2 : (p.prio == q.prio) = false := by simpa using k5
        clear k5
        rcases kk with ⟨k1, k2⟩ | ⟨k1, k2⟩
        all_goals
          have HV := Lib.hid k6
          clear k6
          go_wp2
          go_ret
          exact ⟨ret_bool (by rw [HV.out]), belStep hw hbel⟩
      · have t1 : (X != Y) = true := by simpa using k6
        have t2 : (X == Y) = false := by simpa using k6
        have t3 : (p.prio != q.prio) = false := by simpa using k5
        have t4 : (p.prio == q.prio) = true := by simpa using k5
        clear k5 k6
        rcases kk with ⟨k1, k2⟩ | ⟨k1, k2⟩
        all_goals
          have HV := Lib.hid k7
          clear k7
          go_wp2
          go_ret
          exact ⟨ret_bool (by rw [HV.out]), belStep hw hbel⟩
      · subst k6
        have t3 : (p.prio != q.prio) = false := by simpa using k5
        have t4 : (p.prio == q.prio) = true := by simpa using k5
        clear k5
        rcases kk with ⟨k1, k2⟩ | ⟨k1, k2⟩
        all_goals
          have HV := Lib.hid k7
          clear k7
          go_wp2
          go_ret
          exact ⟨ret_bool (by rw [HV.out]), belStep hw hbel⟩
  · obtain rfl : G = 1 := hG
    have HIXp := Lib.hid (show ∀ u : World, (Instr.index 29 (.agg #[.int .i64 op.a, .int .i64 op.b, .int .i64 op.c]) (.int .i64 1)).run Try.prog u = .ok (.int .i64 up) u from fun u => by rw [← hup0]; kernel_rfl)
    clear hup0
    have HIXq := Lib.hid (show ∀ u : World, (Instr.index 29 (.agg #[.int .i64 oq.a, .int .i64 oq.b, .int .i64 oq.c]) (.int .i64 1)).run Try.prog u = .ok (.int .i64 uq) u from fun u => by rw [← huq0]; kernel_rfl)
    clear huq0
    go_enter Try.func42, Try.ntmps42
    go_upto_region 1 with fail
    have pp0 : (((w.alloc (.cells #[.string p.id, .int .i64 p.prio, .bool p.crit, .int .i64 p.r0, .int .i64 p.r1, .int .i64 p.r2, .int .i64 p.l0, .int .i64 p.l1, .int .i64 p.l2, .string p.img, .int .i64 p.size] 62)).alloc (.cells #[.string q.id, .int .i64 q.prio, .bool q.crit, .int .i64 q.r0, .int .i64 q.r1, .int .i64 q.r2, .int .i64 q.l0, .int .i64 q.l1, .int .i64 q.l2, .string q.img, .int .i64 q.size] 62)).alloc (.cells #[.int .i64 t, .int .i64 x0, .int .i64 x1, .int .i64 x2, .slice a U.length cap] 32)).cell? ⟨w.heap.size, 0, none⟩ = some (.string p.id) := by first | (simp; done) | (rw [World.cell?_alloc_at _ _ _ _ (by simp)]; rfl) | (rw [World.cell?_alloc_past _ _ _ (by simp <;> omega), World.cell?_alloc_at _ _ _ _ (by simp)]; rfl) | (rw [World.cell?_alloc_past _ _ _ (by simp <;> omega), World.cell?_alloc_past _ _ _ (by simp <;> omega), World.cell?_alloc_at _ _ _ _ (by simp)]; rfl)
    have pp1 : (((w.alloc (.cells #[.string p.id, .int .i64 p.prio, .bool p.crit, .int .i64 p.r0, .int .i64 p.r1, .int .i64 p.r2, .int .i64 p.l0, .int .i64 p.l1, .int .i64 p.l2, .string p.img, .int .i64 p.size] 62)).alloc (.cells #[.string q.id, .int .i64 q.prio, .bool q.crit, .int .i64 q.r0, .int .i64 q.r1, .int .i64 q.r2, .int .i64 q.l0, .int .i64 q.l1, .int .i64 q.l2, .string q.img, .int .i64 q.size] 62)).alloc (.cells #[.int .i64 t, .int .i64 x0, .int .i64 x1, .int .i64 x2, .slice a U.length cap] 32)).cell? ⟨w.heap.size, 1, none⟩ = some (.int .i64 p.prio) := by first | (simp; done) | (rw [World.cell?_alloc_at _ _ _ _ (by simp)]; rfl) | (rw [World.cell?_alloc_past _ _ _ (by simp <;> omega), World.cell?_alloc_at _ _ _ _ (by simp)]; rfl) | (rw [World.cell?_alloc_past _ _ _ (by simp <;> omega), World.cell?_alloc_past _ _ _ (by simp <;> omega), World.cell?_alloc_at _ _ _ _ (by simp)]; rfl)
    have pp2 : (((w.alloc (.cells #[.string p.id, .int .i64 p.prio, .bool p.crit, .int .i64 p.r0, .int .i64 p.r1, .int .i64 p.r2, .int .i64 p.l0, .int .i64 p.l1, .int .i64 p.l2, .string p.img, .int .i64 p.size] 62)).alloc (.cells #[.string q.id, .int .i64 q.prio, .bool q.crit, .int .i64 q.r0, .int .i64 q.r1, .int .i64 q.r2, .int .i64 q.l0, .int .i64 q.l1, .int .i64 q.l2, .string q.img, .int .i64 q.size] 62)).alloc (.cells #[.int .i64 t, .int .i64 x0, .int .i64 x1, .int .i64 x2, .slice a U.length cap] 32)).cell? ⟨w.heap.size, 2, none⟩ = some (.bool p.crit) := by first | (simp; done) | (rw [World.cell?_alloc_at _ _ _ _ (by simp)]; rfl) | (rw [World.cell?_alloc_past _ _ _ (by simp <;> omega), World.cell?_alloc_at _ _ _ _ (by simp)]; rfl) | (rw [World.cell?_alloc_past _ _ _ (by simp <;> omega), World.cell?_alloc_past _ _ _ (by simp <;> omega), World.cell?_alloc_at _ _ _ _ (by simp)]; rfl)
    have pp3 : (((w.alloc (.cells #[.string p.id, .int .i64 p.prio, .bool p.crit, .int .i64 p.r0, .int .i64 p.r1, .int .i64 p.r2, .int .i64 p.l0, .int .i64 p.l1, .int .i64 p.l2, .string p.img, .int .i64 p.size] 62)).alloc (.cells #[.string q.id, .int .i64 q.prio, .bool q.crit, .int .i64 q.r0, .int .i64 q.r1, .int .i64 q.r2, .int .i64 q.l0, .int .i64 q.l1, .int .i64 q.l2, .string q.img, .int .i64 q.size] 62)).alloc (.cells #[.int .i64 t, .int .i64 x0, .int .i64 x1, .int .i64 x2, .slice a U.length cap] 32)).cell? ⟨w.heap.size, 3, none⟩ = some (.int .i64 p.r0) := by first | (simp; done) | (rw [World.cell?_alloc_at _ _ _ _ (by simp)]; rfl) | (rw [World.cell?_alloc_past _ _ _ (by simp <;> omega), World.cell?_alloc_at _ _ _ _ (by simp)]; rfl) | (rw [World.cell?_alloc_past _ _ _ (by simp <;> omega), World.cell?_alloc_past _ _ _ (by simp <;> omega), World.cell?_alloc_at _ _ _ _ (by simp)]; rfl)
    have pp4 : (((w.alloc (.cells #[.string p.id, .int .i64 p.prio, .bool p.crit, .int .i64 p.r0, .int .i64 p.r1, .int .i64 p.r2, .int .i64 p.l0, .int .i64 p.l1, .int .i64 p.l2, .string p.img, .int .i64 p.size] 62)).alloc (.cells #[.string q.id, .int .i64 q.prio, .bool q.crit, .int .i64 q.r0, .int .i64 q.r1, .int .i64 q.r2, .int .i64 q.l0, .int .i64 q.l1, .int .i64 q.l2, .string q.img, .int .i64 q.size] 62)).alloc (.cells #[.int .i64 t, .int .i64 x0, .int .i64 x1, .int .i64 x2, .slice a U.length cap] 32)).cell? ⟨w.heap.size, 4, none⟩ = some (.int .i64 p.r1) := by first | (simp; done) | (rw [World.cell?_alloc_at _ _ _ _ (by simp)]; rfl) | (rw [World.cell?_alloc_past _ _ _ (by simp <;> omega), World.cell?_alloc_at _ _ _ _ (by simp)]; rfl) | (rw [World.cell?_alloc_past _ _ _ (by simp <;> omega), World.cell?_alloc_past _ _ _ (by simp <;> omega), World.cell?_alloc_at _ _ _ _ (by simp)]; rfl)
    have pp5 : (((w.alloc (.cells #[.string p.id, .int .i64 p.prio, .bool p.crit, .int .i64 p.r0, .int .i64 p.r1, .int .i64 p.r2, .int .i64 p.l0, .int .i64 p.l1, .int .i64 p.l2, .string p.img, .int .i64 p.size] 62)).alloc (.cells #[.string q.id, .int .i64 q.prio, .bool q.crit, .int .i64 q.r0, .int .i64 q.r1, .int .i64 q.r2, .int .i64 q.l0, .int .i64 q.l1, .int .i64 q.l2, .string q.img, .int .i64 q.size] 62)).alloc (.cells #[.int .i64 t, .int .i64 x0, .int .i64 x1, .int .i64 x2, .slice a U.length cap] 32)).cell? ⟨w.heap.size, 5, none⟩ = some (.int .i64 p.r2) := by first | (simp; done) | (rw [World.cell?_alloc_at _ _ _ _ (by simp)]; rfl) | (rw [World.cell?_alloc_past _ _ _ (by simp <;> omega), World.cell?_alloc_at _ _ _ _ (by simp)]; rfl) | (rw [World.cell?_alloc_past _ _ _ (by simp <;> omega), World.cell?_alloc_past _ _ _ (by simp <;> omega), World.cell?_alloc_at _ _ _ _ (by simp)]; rfl)
    have pp6 : (((w.alloc (.cells #[.string p.id, .int .i64 p.prio, .bool p.crit, .int .i64 p.r0, .int .i64 p.r1, .int .i64 p.r2, .int .i64 p.l0, .int .i64 p.l1, .int .i64 p.l2, .string p.img, .int .i64 p.size] 62)).alloc (.cells #[.string q.id, .int .i64 q.prio, .bool q.crit, .int .i64 q.r0, .int .i64 q.r1, .int .i64 q.r2, .int .i64 q.l0, .int .i64 q.l1, .int .i64 q.l2, .string q.img, .int .i64 q.size] 62)).alloc (.cells #[.int .i64 t, .int .i64 x0, .int .i64 x1, .int .i64 x2, .slice a U.length cap] 32)).cell? ⟨w.heap.size, 6, none⟩ = some (.int .i64 p.l0) := by first | (simp; done) | (rw [World.cell?_alloc_at _ _ _ _ (by simp)]; rfl) | (rw [World.cell?_alloc_past _ _ _ (by simp <;> omega), World.cell?_alloc_at _ _ _ _ (by simp)]; rfl) | (rw [World.cell?_alloc_past _ _ _ (by simp <;> omega), World.cell?_alloc_past _ _ _ (by simp <;> omega), World.cell?_alloc_at _ _ _ _ (by simp)]; rfl)
    have pp7 : (((w.alloc (.cells #[.string p.id, .int .i64 p.prio, .bool p.crit, .int .i64 p.r0, .int .i64 p.r1, .int .i64 p.r2, .int .i64 p.l0, .int .i64 p.l1, .int .i64 p.l2, .string p.img, .int .i64 p.size] 62)).alloc (.cells #[.string q.id, .int .i64 q.prio, .bool q.crit, .int .i64 q.r0, .int .i64 q.r1, .int .i64 q.r2, .int .i64 q.l0, .int .i64 q.l1, .int .i64 q.l2, .string q.img, .int .i64 q.size] 62)).alloc (.cells #[.int .i64 t, .int .i64 x0, .int .i64 x1, .int .i64 x2, .slice a U.length cap] 32)).cell? ⟨w.heap.size, 7, none⟩ = some (.int .i64 p.l1) := by first | (simp; done) | (rw [World.cell?_alloc_at _ _ _ _ (by simp)]; rfl) | (rw [World.cell?_alloc_past _ _ _ (by simp <;> omega), World.cell?_alloc_at _ _ _ _ (by simp)]; rfl) | (rw [World.cell?_alloc_past _ _ _ (by simp <;> omega), World.cell?_alloc_past _ _ _ (by simp <;> omega), World.cell?_alloc_at _ _ _ _ (by simp)]; rfl)
    have pp8 : (((w.alloc (.cells #[.string p.id, .int .i64 p.prio, .bool p.crit, .int .i64 p.r0, .int .i64 p.r1, .int .i64 p.r2, .int .i64 p.l0, .int .i64 p.l1, .int .i64 p.l2, .string p.img, .int .i64 p.size] 62)).alloc (.cells #[.string q.id, .int .i64 q.prio, .bool q.crit, .int .i64 q.r0, .int .i64 q.r1, .int .i64 q.r2, .int .i64 q.l0, .int .i64 q.l1, .int .i64 q.l2, .string q.img, .int .i64 q.size] 62)).alloc (.cells #[.int .i64 t, .int .i64 x0, .int .i64 x1, .int .i64 x2, .slice a U.length cap] 32)).cell? ⟨w.heap.size, 8, none⟩ = some (.int .i64 p.l2) := by first | (simp; done) | (rw [World.cell?_alloc_at _ _ _ _ (by simp)]; rfl) | (rw [World.cell?_alloc_past _ _ _ (by simp <;> omega), World.cell?_alloc_at _ _ _ _ (by simp)]; rfl) | (rw [World.cell?_alloc_past _ _ _ (by simp <;> omega), World.cell?_alloc_past _ _ _ (by simp <;> omega), World.cell?_alloc_at _ _ _ _ (by simp)]; rfl)
    have pp9 : (((w.alloc (.cells #[.string p.id, .int .i64 p.prio, .bool p.crit, .int .i64 p.r0, .int .i64 p.r1, .int .i64 p.r2, .int .i64 p.l0, .int .i64 p.l1, .int .i64 p.l2, .string p.img, .int .i64 p.size] 62)).alloc (.cells #[.string q.id, .int .i64 q.prio, .bool q.crit, .int .i64 q.r0, .int .i64 q.r1, .int .i64 q.r2, .int .i64 q.l0, .int .i64 q.l1, .int .i64 q.l2, .string q.img, .int .i64 q.size] 62)).alloc (.cells #[.int .i64 t, .int .i64 x0, .int .i64 x1, .int .i64 x2, .slice a U.length cap] 32)).cell? ⟨w.heap.size, 9, none⟩ = some (.string p.img) := by first | (simp; done) | (rw [World.cell?_alloc_at _ _ _ _ (by simp)]; rfl) | (rw [World.cell?_alloc_past _ _ _ (by simp <;> omega), World.cell?_alloc_at _ _ _ _ (by simp)]; rfl) | (rw [World.cell?_alloc_past _ _ _ (by simp <;> omega), World.cell?_alloc_past _ _ _ (by simp <;> omega), World.cell?_alloc_at _ _ _ _ (by simp)]; rfl)
    have pp10 : (((w.alloc (.cells #[.string p.id, .int .i64 p.prio, .bool p.crit, .int .i64 p.r0, .int .i64 p.r1, .int .i64 p.r2, .int .i64 p.l0, .int .i64 p.l1, .int .i64 p.l2, .string p.img, .int .i64 p.size] 62)).alloc (.cells #[.string q.id, .int .i64 q.prio, .bool q.crit, .int .i64 q.r0, .int .i64 q.r1, .int .i64 q.r2, .int .i64 q.l0, .int .i64 q.l1, .int .i64 q.l2, .string q.img, .int .i64 q.size] 62)).alloc (.cells #[.int .i64 t, .int .i64 x0, .int .i64 x1, .int .i64 x2, .slice a U.length cap] 32)).cell? ⟨w.heap.size, 10, none⟩ = some (.int .i64 p.size) := by first | (simp; done) | (rw [World.cell?_alloc_at _ _ _ _ (by simp)]; rfl) | (rw [World.cell?_alloc_past _ _ _ (by simp <;> omega), World.cell?_alloc_at _ _ _ _ (by simp)]; rfl) | (rw [World.cell?_alloc_past _ _ _ (by simp <;> omega), World.cell?_alloc_past _ _ _ (by simp <;> omega), World.cell?_alloc_at _ _ _ _ (by simp)]; rfl)
    have qq0 : (((w.alloc (.cells #[.string p.id, .int .i64 p.prio, .bool p.crit, .int .i64 p.r0, .int .i64 p.r1, .int .i64 p.r2, .int .i64 p.l0, .int .i64 p.l1, .int .i64 p.l2, .string p.img, .int .i64 p.size] 62)).alloc (.cells #[.string q.id, .int .i64 q.prio, .bool q.crit, .int .i64 q.r0, .int .i64 q.r1, .int .i64 q.r2, .int .i64 q.l0, .int .i64 q.l1, .int .i64 q.l2, .string q.img, .int .i64 q.size] 62)).alloc (.cells #[.int .i64 t, .int .i64 x0, .int .i64 x1, .int .i64 x2, .slice a U.length cap] 32)).cell? ⟨w.heap.size + 1, 0, none⟩ = some (.string q.id) := by first | (simp; done) | (rw [World.cell?_alloc_at _ _ _ _ (by simp)]; rfl) | (rw [World.cell?_alloc_past _ _ _ (by simp <;> omega), World.cell?_alloc_at _ _ _ _ (by simp)]; rfl) | (rw [World.cell?_alloc_past _ _ _ (by simp <;> omega), World.cell?_alloc_past _ _ _ (by simp <;> omega), World.cell?_alloc_at _ _ _ _ (by simp)]; rfl)
    have qq1 : (((w.alloc (.cells #[.string p.id, .int .i64 p.prio, .bool p.crit, .int .i64 p.r0, .int .i64 p.r1, .int .i64 p.r2, .int .i64 p.l0, .int .i64 p.l1, .int .i64 p.l2, .string p.img, .int .i64 p.size] 62)).alloc (.cells #[.string q.id, .int .i64 q.prio, .bool q.crit, .int .i64 q.r0, .int .i64 q.r1, .int .i64 q.r2, .int .i64 q.l0, .int .i64 q.l1, .int .i64 q.l2, .string q.img, .int .i64 q.size] 62)).alloc (.cells #[.int .i64 t, .int .i64 x0, .int .i64 x1, .int .i64 x2, .slice a U.length cap] 32)).cell? ⟨w.heap.size + 1, 1, none⟩ = some (.int .i64 q.prio) := by first | (simp; done) | (rw [World.cell?_alloc_at _ _ _ _ (by simp)]; rfl) | (rw [World.cell?_alloc_past _ _ _ (by simp <;> omega), World.cell?_alloc_at _ _ _ _ (by simp)]; rfl) | (rw [World.cell?_alloc_past _ _ _ (by simp <;> omega), World.cell?_alloc_past _ _ _ (by simp <;> omega), World.cell?_alloc_at _ _ _ _ (by simp)]; rfl)
    have qq2 : (((w.alloc (.cells #[.string p.id, .int .i64 p.prio, .bool p.crit, .int .i64 p.r0, .int .i64 p.r1, .int .i64 p.r2, .int .i64 p.l0, .int .i64 p.l1, .int .i64 p.l2, .string p.img, .int .i64 p.size] 62)).alloc (.cells #[.string q.id, .int .i64 q.prio, .bool q.crit, .int .i64 q.r0, .int .i64 q.r1, .int .i64 q.r2, .int .i64 q.l0, .int .i64 q.l1, .int .i64 q.l2, .string q.img, .int .i64 q.size] 62)).alloc (.cells #[.int .i64 t, .int .i64 x0, .int .i64 x1, .int .i64 x2, .slice a U.length cap] 32)).cell? ⟨w.heap.size + 1, 2, none⟩ = some (.bool q.crit) := by first | (simp; done) | (rw [World.cell?_alloc_at _ _ _ _ (by simp)]; rfl) | (rw [World.cell?_alloc_past _ _ _ (by simp <;> omega), World.cell?_alloc_at _ _ _ _ (by simp)]; rfl) | (rw [World.cell?_alloc_past _ _ _ (by simp <;> omega), World.cell?_alloc_past _ _ _ (by simp <;> omega), World.cell?_alloc_at _ _ _ _ (by simp)]; rfl)
    have qq3 : (((w.alloc (.cells #[.string p.id, .int .i64 p.prio, .bool p.crit, .int .i64 p.r0, .int .i64 p.r1, .int .i64 p.r2, .int .i64 p.l0, .int .i64 p.l1, .int .i64 p.l2, .string p.img, .int .i64 p.size] 62)).alloc (.cells #[.string q.id, .int .i64 q.prio, .bool q.crit, .int .i64 q.r0, .int .i64 q.r1, .int .i64 q.r2, .int .i64 q.l0, .int .i64 q.l1, .int .i64 q.l2, .string q.img, .int .i64 q.size] 62)).alloc (.cells #[.int .i64 t, .int .i64 x0, .int .i64 x1, .int .i64 x2, .slice a U.length cap] 32)).cell? ⟨w.heap.size + 1, 3, none⟩ = some (.int .i64 q.r0) := by first | (simp; done) | (rw [World.cell?_alloc_at _ _ _ _ (by simp)]; rfl) | (rw [World.cell?_alloc_past _ _ _ (by simp <;> omega), World.cell?_alloc_at _ _ _ _ (by simp)]; rfl) | (rw [World.cell?_alloc_past _ _ _ (by simp <;> omega), World.cell?_alloc_past _ _ _ (by simp <;> omega), World.cell?_alloc_at _ _ _ _ (by simp)]; rfl)
    have qq4 : (((w.alloc (.cells #[.string p.id, .int .i64 p.prio, .bool p.crit, .int .i64 p.r0, .int .i64 p.r1, .int .i64 p.r2, .int .i64 p.l0, .int .i64 p.l1, .int .i64 p.l2, .string p.img, .int .i64 p.size] 62)).alloc (.cells #[.string q.id, .int .i64 q.prio, .bool q.crit, .int .i64 q.r0, .int .i64 q.r1, .int .i64 q.r2, .int .i64 q.l0, .int .i64 q.l1, .int .i64 q.l2, .string q.img, .int .i64 q.size] 62)).alloc (.cells #[.int .i64 t, .int .i64 x0, .int .i64 x1, .int .i64 x2, .slice a U.length cap] 32)).cell? ⟨w.heap.size + 1, 4, none⟩ = some (.int .i64 q.r1) := by first | (simp; done) | (rw [World.cell?_alloc_at _ _ _ _ (by simp)]; rfl) | (rw [World.cell?_alloc_past _ _ _ (by simp <;> omega), World.cell?_alloc_at _ _ _ _ (by simp)]; rfl) | (rw [World.cell?_alloc_past _ _ _ (by simp <;> omega), World.cell?_alloc_past _ _ _ (by simp <;> omega), World.cell?_alloc_at _ _ _ _ (by simp)]; rfl)
    have qq5 : (((w.alloc (.cells #[.string p.id, .int .i64 p.prio, .bool p.crit, .int .i64 p.r0, .int .i64 p.r1, .int .i64 p.r2, .int .i64 p.l0, .int .i64 p.l1, .int .i64 p.l2, .string p.img, .int .i64 p.size] 62)).alloc (.cells #[.string q.id, .int .i64 q.prio, .bool q.crit, .int .i64 q.r0, .int .i64 q.r1, .int .i64 q.r2, .int .i64 q.l0, .int .i64 q.l1, .int .i64 q.l2, .string q.img, .int .i64 q.size] 62)).alloc (.cells #[.int .i64 t, .int .i64 x0, .int .i64 x1, .int .i64 x2, .slice a U.length cap] 32)).cell? ⟨w.heap.size + 1, 5, none⟩ = some (.int .i64 q.r2) := by first | (simp; done) | (rw [World.cell?_alloc_at _ _ _ _ (by simp)]; rfl) | (rw [World.cell?_alloc_past _ _ _ (by simp <;> omega), World.cell?_alloc_at _ _ _ _ (by simp)]; rfl) | (rw [World.cell?_alloc_past _ _ _ (by simp <;> omega), World.cell?_alloc_past _ _ _ (by simp <;> omega), World.cell?_alloc_at _ _ _ _ (by simp)]; rfl)
    have qq6 : (((w.alloc (.cells #[.string p.id, .int .i64 p.prio, .bool p.crit, .int .i64 p.r0, .int .i64 p.r1, .int .i64 p.r2, .int .i64 p.l0, .int .i64 p.l1, .int .i64 p.l2, .string p.img, .int .i64 p.size] 62)).alloc (.cells #[.string q.id, .int .i64 q.prio, .bool q.crit, .int .i64 q.r0, .int .i64 q.r1, .int .i64 q.r2, .int .i64 q.l0, .int .i64 q.l1, .int .i64 q.l2, .string q.img, .int .i64 q.size] 62)).alloc (.cells #[.int .i64 t, .int .i64 x0, .int .i64 x1, .int .i64 x2, .slice a U.length cap] 32)).cell? ⟨w.heap.size + 1, 6, none⟩ = some (.int .i64 q.l0) := by first | (simp; done) | (rw [World.cell?_alloc_at _ _ _ _ (by simp)]; rfl) | (rw [World.cell?_alloc_past _ _ _ (by simp <;> omega), World.cell?_alloc_at _ _ _ _ (by simp)]; rfl) | (rw [World.cell?_alloc_past _ _ _ (by simp <;> omega), World.cell?_alloc_past _ _ _ (by simp <;> omega), World.cell?_alloc_at _ _ _ _ (by simp)]; rfl)
    have qq7 : (((w.alloc (.cells #[.string p.id, .int .i64 p.prio, .bool p.crit, .int .i64 p.r0, .int .i64 p.r1, .int .i64 p.r2, .int .i64 p.l0, .int .i64 p.l1, .int .i64 p.l2, .string p.img, .int .i64 p.size] 62)).alloc (.cells #[.string q.id, .int .i64 q.prio, .bool q.crit, .int .i64 q.r0, .int .i64 q.r1, .int .i64 q.r2, .int .i64 q.l0, .int .i64 q.l1, .int .i64 q.l2, .string q.img, .int .i64 q.size] 62)).alloc (.cells #[.int .i64 t, .int .i64 x0, .int .i64 x1, .int .i64 x2, .slice a U.length cap] 32)).cell? ⟨w.heap.size + 1, 7, none⟩ = some (.int .i64 q.l1) := by first | (simp; done) | (rw [World.cell?_alloc_at _ _ _ _ (by simp)]; rfl) | (rw [World.cell?_alloc_past _ _ _ (by simp <;> omega), World.cell?_alloc_at _ _ _ _ (by simp)]; rfl) | (rw [World.cell?_alloc_past _ _ _ (by simp <;> omega), World.cell?_alloc_past _ _ _ (by simp <;> omega), World.cell?_alloc_at _ _ _ _ (by simp)]; rfl)
    have qq8 : (((w.alloc (.cells #[.string p.id, .int .i64 p.prio, .bool p.crit, .int .i64 p.r0, .int .i64 p.r1, .int .i64 p.r2, .int .i64 p.l0, .int .i64 p.l1, .int .i64 p.l2, .string p.img, .int .i64 p.size] 62)).alloc (.cells #[.string q.id, .int .i64 q.prio, .bool q.crit, .int .i64 q.r0, .int .i64 q.r1, .int .i64 q.r2, .int .i64 q.l0, .int .i64 q.l1, .int .i64 q.l2, .string q.img, .int .i64 q.size] 62)).alloc (.cells #[.int .i64 t, .int .i64 x0, .int .i64 x1, .int .i64 x2, .slice a U.length cap] 32)).cell? ⟨w.heap.size + 1, 8, none⟩ = some (.int .i64 q.l2) := by first | (simp; done) | (rw [World.cell?_alloc_at _ _ _ _ (by simp)]; rfl) | (rw [World.cell?_alloc_past _ _ _ (by simp <;> omega), World.cell?_alloc_at _ _ _ _ (by simp)]; rfl) | (rw [World.cell?_alloc_past _ _ _ (by simp <;> omega), World.cell?_alloc_past _ _ _ (by simp <;> omega), World.cell?_alloc_at _ _ _ _ (by simp)]; rfl)
    have qq9 : (((w.alloc (.cells #[.string p.id, .int .i64 p.prio, .bool p.crit, .int .i64 p.r0, .int .i64 p.r1, .int .i64 p.r2, .int .i64 p.l0, .int .i64 p.l1, .int .i64 p.l2, .string p.img, .int .i64 p.size] 62)).alloc (.cells #[.string q.id, .int .i64 q.prio, .bool q.crit, .int .i64 q.r0, .int .i64 q.r1, .int .i64 q.r2, .int .i64 q.l0, .int .i64 q.l1, .int .i64 q.l2, .string q.img, .int .i64 q.size] 62)).alloc (.cells #[.int .i64 t, .int .i64 x0, .int .i64 x1, .int .i64 x2, .slice a U.length cap] 32)).cell? ⟨w.heap.size + 1, 9, none⟩ = some (.string q.img) := by first | (simp; done) | (rw [World.cell?_alloc_at _ _ _ _ (by simp)]; rfl) | (rw [World.cell?_alloc_past _ _ _ (by simp <;> omega), World.cell?_alloc_at _ _ _ _ (by simp)]; rfl) | (rw [World.cell?_alloc_past _ _ _ (by simp <;> omega), World.cell?_alloc_past _ _ _ (by simp <;> omega), World.cell?_alloc_at _ _ _ _ (by simp)]; rfl)
    have qq10 : (((w.alloc (.cells #[.string p.id, .int .i64 p.prio, .bool p.crit, .int .i64 p.r0, .int .i64 p.r1, .int .i64 p.r2, .int .i64 p.l0, .int .i64 p.l1, .int .i64 p.l2, .string p.img, .int .i64 p.size] 62)).alloc (.cells #[.string q.id, .int .i64 q.prio, .bool q.crit, .int .i64 q.r0, .int .i64 q.r1, .int .i64 q.r2, .int .i64 q.l0, .int .i64 q.l1, .int .i64 q.l2, .string q.img, .int .i64 q.size] 62)).alloc (.cells #[.int .i64 t, .int .i64 x0, .int .i64 x1, .int .i64 x2, .slice a U.length cap] 32)).cell? ⟨w.heap.size + 1, 10, none⟩ = some (.int .i64 q.size) := by first | (simp; done) | (rw [World.cell?_alloc_at _ _ _ _ (by simp)]; rfl) | (rw [World.cell?_alloc_past _ _ _ (by simp <;> omega), World.cell?_alloc_at _ _ _ _ (by simp)]; rfl) | (rw [World.cell?_alloc_past _ _ _ (by simp <;> omega), World.cell?_alloc_past _ _ _ (by simp <;> omega), World.cell?_alloc_at _ _ _ _ (by simp)]; rfl)
    have sp0 : (((w.alloc (.cells #[.string p.id, .int .i64 p.prio, .bool p.crit, .int .i64 p.r0, .int .i64 p.r1, .int .i64 p.r2, .int .i64 p.l0, .int .i64 p.l1, .int .i64 p.l2, .string p.img, .int .i64 p.size] 62)).alloc (.cells #[.string q.id, .int .i64 q.prio, .bool q.crit, .int .i64 q.r0, .int .i64 q.r1, .int .i64 q.r2, .int .i64 q.l0, .int .i64 q.l1, .int .i64 q.l2, .string q.img, .int .i64 q.size] 62)).alloc (.cells #[.int .i64 t, .int .i64 x0, .int .i64 x1, .int .i64 x2, .slice a U.length cap] 32)).cell? ⟨w.heap.size + 2, 0, none⟩ = some (.int .i64 t) := by first | (simp; done) | (rw [World.cell?_alloc_at _ _ _ _ (by simp)]; rfl) | (rw [World.cell?_alloc_past _ _ _ (by simp <;> omega), World.cell?_alloc_at _ _ _ _ (by simp)]; rfl) | (rw [World.cell?_alloc_past _ _ _ (by simp <;> omega), World.cell?_alloc_past _ _ _ (by simp <;> omega), World.cell?_alloc_at _ _ _ _ (by simp)]; rfl)
    have sp1 : (((w.alloc (.cells #[.string p.id, .int .i64 p.prio, .bool p.crit, .int .i64 p.r0, .int .i64 p.r1, .int .i64 p.r2, .int .i64 p.l0, .int .i64 p.l1, .int .i64 p.l2, .string p.img, .int .i64 p.size] 62)).alloc (.cells #[.string q.id, .int .i64 q.prio, .bool q.crit, .int .i64 q.r0, .int .i64 q.r1, .int .i64 q.r2, .int .i64 q.l0, .int .i64 q.l1, .int .i64 q.l2, .string q.img, .int .i64 q.size] 62)).alloc (.cells #[.int .i64 t, .int .i64 x0, .int .i64 x1, .int .i64 x2, .slice a U.length cap] 32)).cell? ⟨w.heap.size + 2, 1, none⟩ = some (.int .i64 x0) := by first | (simp; done) | (rw [World.cell?_alloc_at _ _ _ _ (by simp)]; rfl) | (rw [World.cell?_alloc_past _ _ _ (by simp <;> omega), World.cell?_alloc_at _ _ _ _ (by simp)]; rfl) | (rw [World.cell?_alloc_past _ _ _ (by simp <;> omega), World.cell?_alloc_past _ _ _ (by simp <;> omega), World.cell?_alloc_at _ _ _ _ (by simp)]; rfl)
    have sp2 : (((w.alloc (.cells #[.string p.id, .int .i64 p.prio, .bool p.crit, .int .i64 p.r0, .int .i64 p.r1, .int .i64 p.r2, .int .i64 p.l0, .int .i64 p.l1, .int .i64 p.l2, .string p.img, .int .i64 p.size] 62)).alloc (.cells #[.string q.id, .int .i64 q.prio, .bool q.crit, .int .i64 q.r0, .int .i64 q.r1, .int .i64 q.r2, .int .i64 q.l0, .int .i64 q.l1, .int .i64 q.l2, .string q.img, .int .i64 q.size] 62)).alloc (.cells #[.int .i64 t, .int .i64 x0, .int .i64 x1, .int .i64 x2, .slice a U.length cap] 32)).cell? ⟨w.heap.size + 2, 2, none⟩ = some (.int .i64 x1) := by first | (simp; done) | (rw [World.cell?_alloc_at _ _ _ _ (by simp)]; rfl) | (rw [World.cell?_alloc_past _ _ _ (by simp <;> omega), World.cell?_alloc_at _ _ _ _ (by simp)]; rfl) | (rw [World.cell?_alloc_past _ _ _ (by simp <;> omega), World.cell?_alloc_past _ _ _ (by simp <;> omega), World.cell?_alloc_at _ _ _ _ (by simp)]; rfl)
    have sp3 : (((w.alloc (.cells #[.string p.id, .int .i64 p.prio, .bool p.crit, .int .i64 p.r0, .int .i64 p.r1, .int .i64 p.r2, .int .i64 p.l0, .int .i64 p.l1, .int .i64 p.l2, .string p.img, .int .i64 p.size] 62)).alloc (.cells #[.string q.id, .int .i64 q.prio, .bool q.crit, .int .i64 q.r0, .int .i64 q.r1, .int .i64 q.r2, .int .i64 q.l0, .int .i64 q.l1, .int .i64 q.l2, .string q.img, .int .i64 q.size] 62)).alloc (.cells #[.int .i64 t, .int .i64 x0, .int .i64 x1, .int .i64 x2, .slice a U.length cap] 32)).cell? ⟨w.heap.size + 2, 3, none⟩ = some (.int .i64 x2) := by first | (simp; done) | (rw [World.cell?_alloc_at _ _ _ _ (by simp)]; rfl) | (rw [World.cell?_alloc_past _ _ _ (by simp <;> omega), World.cell?_alloc_at _ _ _ _ (by simp)]; rfl) | (rw [World.cell?_alloc_past _ _ _ (by simp <;> omega), World.cell?_alloc_past _ _ _ (by simp <;> omega), World.cell?_alloc_at _ _ _ _ (by simp)]; rfl)
    have sp4 : (((w.alloc (.cells #[.string p.id, .int .i64 p.prio, .bool p.crit, .int .i64 p.r0, .int .i64 p.r1, .int .i64 p.r2, .int .i64 p.l0, .int .i64 p.l1, .int .i64 p.l2, .string p.img, .int .i64 p.size] 62)).alloc (.cells #[.string q.id, .int .i64 q.prio, .bool q.crit, .int .i64 q.r0, .int .i64 q.r1, .int .i64 q.r2, .int .i64 q.l0, .int .i64 q.l1, .int .i64 q.l2, .string q.img, .int .i64 q.size] 62)).alloc (.cells #[.int .i64 t, .int .i64 x0, .int .i64 x1, .int .i64 x2, .slice a U.length cap] 32)).cell? ⟨w.heap.size + 2, 4, none⟩ = some (.slice a U.length cap) := by first | (simp; done) | (rw [World.cell?_alloc_at _ _ _ _ (by simp)]; rfl) | (rw [World.cell?_alloc_past _ _ _ (by simp <;> omega), World.cell?_alloc_at _ _ _ _ (by simp)]; rfl) | (rw [World.cell?_alloc_past _ _ _ (by simp <;> omega), World.cell?_alloc_past _ _ _ (by simp <;> omega), World.cell?_alloc_at _ _ _ _ (by simp)]; rfl)
    have hb2 := (by repeat (first | exact hbel | refine belAlloc ?_ _ | refine belDrew ?_ | refine belSet ?_ _ _ (by simp)) : Below w.heap.size w (((w.alloc (.cells #[.string p.id, .int .i64 p.prio, .bool p.crit, .int .i64 p.r0, .int .i64 p.r1, .int .i64 p.r2, .int .i64 p.l0, .int .i64 p.l1, .int .i64 p.l2, .string p.img, .int .i64 p.size] 62)).alloc (.cells #[.string q.id, .int .i64 q.prio, .bool q.crit, .int .i64 q.r0, .int .i64 q.r1, .int .i64 q.r2, .int .i64 q.l0, .int .i64 q.l1, .int .i64 q.l2, .string q.img, .int .i64 q.size] 62)).alloc (.cells #[.int .i64 t, .int .i64 x0, .int .i64 x1, .int .i64 x2, .slice a U.length cap] 32)))
    replace hw := belStep hw hb2
    clear hb2 hbel
    generalize ((w.alloc (.cells #[.string p.id, .int .i64 p.prio, .bool p.crit, .int .i64 p.r0, .int .i64 p.r1, .int .i64 p.r2, .int .i64 p.l0, .int .i64 p.l1, .int .i64 p.l2, .string p.img, .int .i64 p.size] 62)).alloc (.cells #[.string q.id, .int .i64 q.prio, .bool q.crit, .int .i64 q.r0, .int .i64 q.r1, .int .i64 q.r2, .int .i64 q.l0, .int .i64 q.l1, .int .i64 q.l2, .string q.img, .int .i64 q.size] 62)).alloc (.cells #[.int .i64 t, .int .i64 x0, .int .i64 x1, .int .i64 x2, .slice a U.length cap] 32) = W1 at *
    replace pp0 := keep pp0
    replace pp1 := keep pp1
    replace pp2 := keep pp2
    replace pp3 := keep pp3
    replace pp4 := keep pp4
    replace pp5 := keep pp5
    replace pp6 := keep pp6
    replace pp7 := keep pp7
    replace pp8 := keep pp8
    replace pp9 := keep pp9
    replace pp10 := keep pp10
    replace qq0 := keep qq0
    replace qq1 := keep qq1
    replace qq2 := keep qq2
    replace qq3 := keep qq3
    replace qq4 := keep qq4
    replace qq5 := keep qq5
    replace qq6 := keep qq6
    replace qq7 := keep qq7
    replace qq8 := keep qq8
    replace qq9 := keep qq9
    replace qq10 := keep qq10
    replace sp0 := keep sp0
    replace sp1 := keep sp1
    replace sp2 := keep sp2
    replace sp3 := keep sp3
    replace sp4 := keep sp4
    have hbel : Below W1.heap.size W1 W1 := Below.refl _ _
    skip
    have hix := HIXp.out
    have hsub := HSUBp.out
    clear hbel
    refine wp_region_held_drew (S := (fun u => Below W1.heap.size W1 u)) (by kernel_rfl) (by exact (show Below W1.heap.size W1 _ from by repeat (first | assumption | exact Below.refl _ _ | refine belDrew ?_ | refine belAlloc ?_ _ | refine belStep ?_ (by assumption)))) (fun hHeld => ?_)
    refine wpAnyH_take (i := 0) (oi := ?oi_23) (v := ?v_23) ?hi_23 (by kernel_rfl) ?hf_23 ?hr_23 ?hQ_23 (Or.inl ⟨?hw_23, ?hy_23⟩) (by assumption) ?rest_23
    case hi_23 => ((simp only [List.getElem?_toArray, List.getElem?_cons_succ, List.getElem?_cons_zero]); rfl)
    case hf_23 => kernel_rfl
    case hr_23 => kernel_rfl
    case hQ_23 => exact fun _ _ _ h => h
    case hw_23 => rfl
    case hy_23 => ((intro w hSw; (try dsimp only at hSw); go_simp); all_goals (with_reducible rfl))
    try simp only [Act.put, List.setIfInBounds_toArray, List.set_cons_zero, List.set_cons_succ]
    refine wpAnyH_take (i := 1) (oi := ?oi_24) (v := ?v_24) ?hi_24 (by kernel_rfl) ?hf_24 ?hr_24 ?hQ_24 (Or.inl ⟨?hw_24, ?hy_24⟩) (by assumption) ?rest_24
    case hi_24 => ((simp only [List.getElem?_toArray, List.getElem?_cons_succ, List.getElem?_cons_zero]); rfl)
    case hf_24 => kernel_rfl
    case hr_24 => kernel_rfl
    case hQ_24 => exact fun _ _ _ h => h
    case hw_24 => rfl
    case hy_24 => ((intro w hSw; (try dsimp only at hSw); go_simp); all_goals (with_reducible rfl))
    try simp only [Act.put, List.setIfInBounds_toArray, List.set_cons_zero, List.set_cons_succ]
    refine wpAnyH_take (i := 2) (oi := ?oi_25) (v := ?v_25) ?hi_25 (by kernel_rfl) ?hf_25 ?hr_25 ?hQ_25 (Or.inl ⟨?hw_25, ?hy_25⟩) (by assumption) ?rest_25
    case hi_25 => ((simp only [List.getElem?_toArray, List.getElem?_cons_succ, List.getElem?_cons_zero]); rfl)
    case hf_25 => kernel_rfl
    case hr_25 => kernel_rfl
    case hQ_25 => exact fun _ _ _ h => h
    case hw_25 => rfl
    case hy_25 => ((intro w hSw; (try dsimp only at hSw); go_simp); all_goals (with_reducible rfl))
    try simp only [Act.put, List.setIfInBounds_toArray, List.set_cons_zero, List.set_cons_succ]
    refine wpAnyH_take (i := 4) (oi := ?oi_26) (v := ?v_26) ?hi_26 (by kernel_rfl) ?hf_26 ?hr_26 ?hQ_26 (Or.inl ⟨?hw_26, ?hy_26⟩) (by assumption) ?rest_26
    case hi_26 => ((simp only [List.getElem?_toArray, List.getElem?_cons_succ, List.getElem?_cons_zero]); rfl)
    case hf_26 => kernel_rfl
    case hr_26 => kernel_rfl
    case hQ_26 => exact fun _ _ _ h => h
    case hw_26 => rfl
    case hy_26 => ((intro w hSw; (try dsimp only at hSw); go_simp); all_goals (with_reducible rfl))
    try simp only [Act.put, List.setIfInBounds_toArray, List.set_cons_zero, List.set_cons_succ]
    refine wpAnyH_take (i := 6) (oi := ?oi_27) (v := ?v_27) ?hi_27 (by kernel_rfl) ?hf_27 ?hr_27 ?hQ_27 (Or.inl ⟨?hw_27, ?hy_27⟩) (by assumption) ?rest_27
    case hi_27 => ((simp only [List.getElem?_toArray, List.getElem?_cons_succ, List.getElem?_cons_zero]); rfl)
    case hf_27 => kernel_rfl
    case hr_27 => kernel_rfl
    case hQ_27 => exact fun _ _ _ h => h
    case hw_27 => rfl
    case hy_27 => ((intro w hSw; (try dsimp only at hSw); go_simp); all_goals (with_reducible rfl))
    try simp only [Act.put, List.setIfInBounds_toArray, List.set_cons_zero, List.set_cons_succ]
    refine wpAnyH_take (i := 7) (oi := ?oi_28) (v := ?v_28) ?hi_28 (by kernel_rfl) ?hf_28 ?hr_28 ?hQ_28 (Or.inl ⟨?hw_28, ?hy_28⟩) (by assumption) ?rest_28
    case hi_28 => ((simp only [List.getElem?_toArray, List.getElem?_cons_succ, List.getElem?_cons_zero]); rfl)
    case hf_28 => kernel_rfl
    case hr_28 => kernel_rfl
    case hQ_28 => exact fun _ _ _ h => h
    case hw_28 => rfl
    case hy_28 => ((intro w hSw; (try dsimp only at hSw); go_simp); all_goals (with_reducible rfl))
    try simp only [Act.put, List.setIfInBounds_toArray, List.set_cons_zero, List.set_cons_succ]
    refine wpAnyH_ready (rs := [3]) (by kernel_rfl) (by simp) ?_
    refine AllReadyH.cons (o := ?o1_29) ?hi_29 (fun K hK => ?rest_29) AllReadyH.nil
    case hi_29 => ((simp only [List.getElem?_toArray, List.getElem?_cons_succ, List.getElem?_cons_zero]); rfl)
    go_simp
    (first | (go_at_call 26; (with_reducible refine (COp.out _ (belStep hw hHeld)).mono ?_); rintro e wq ⟨rfl, hbq⟩) | (go_at_call 40; (with_reducible refine (CAp.out _).mono ?_); rintro e wq ⟨rfl, hbq⟩))
    try go_simp
    refine hK.out _ _ (by exact (show Below W1.heap.size W1 _ from by repeat (first | assumption | exact Below.refl _ _ | refine belDrew ?_ | refine belAlloc ?_ _ | refine belStep ?_ (by assumption)))) (fun hHeld => ?_)
    clear hK K
    try simp only [Act.put, List.setIfInBounds_toArray, List.set_cons_zero, List.set_cons_succ]
    refine wpAnyH_take (i := 5) (oi := ?oi_30) (v := ?v_30) ?hi_30 (by kernel_rfl) ?hf_30 ?hr_30 ?hQ_30 (Or.inl ⟨?hw_30, ?hy_30⟩) (by assumption) ?rest_30
    case hi_30 => ((simp only [List.getElem?_toArray, List.getElem?_cons_succ, List.getElem?_cons_zero]); rfl)
    case hf_30 => kernel_rfl
    case hr_30 => kernel_rfl
    case hQ_30 => exact fun _ _ _ h => h
    case hw_30 => rfl
    case hy_30 => ((intro w hSw; (try dsimp only at hSw); go_simp); all_goals (with_reducible rfl))
    try simp only [Act.put, List.setIfInBounds_toArray, List.set_cons_zero, List.set_cons_succ]
    refine wpAnyH_ready (rs := [8]) (by kernel_rfl) (by simp) ?_
    refine AllReadyH.cons (o := ?o1_31) ?hi_31 (fun K hK => ?rest_31) AllReadyH.nil
    case hi_31 => ((simp only [List.getElem?_toArray, List.getElem?_cons_succ, List.getElem?_cons_zero]); rfl)
    go_simp
    (first | (go_at_call 26; (with_reducible refine (COp.out _ (belStep hw hHeld)).mono ?_); rintro e wq ⟨rfl, hbq⟩) | (go_at_call 40; (with_reducible refine (CAp.out _).mono ?_); rintro e wq ⟨rfl, hbq⟩))
    try go_simp
    refine hK.out _ _ (by exact (show Below W1.heap.size W1 _ from by repeat (first | assumption | exact Below.refl _ _ | refine belDrew ?_ | refine belAlloc ?_ _ | refine belStep ?_ (by assumption)))) (fun hHeld => ?_)
    clear hK K
    try simp only [Act.put, List.setIfInBounds_toArray, List.set_cons_zero, List.set_cons_succ]
    refine wpAnyH_take (i := 9) (oi := ?oi_32) (v := ?v_32) ?hi_32 (by kernel_rfl) ?hf_32 ?hr_32 ?hQ_32 (Or.inl ⟨?hw_32, ?hy_32⟩) (by assumption) ?rest_32
    case hi_32 => ((simp only [List.getElem?_toArray, List.getElem?_cons_succ, List.getElem?_cons_zero]); rfl)
    case hf_32 => kernel_rfl
    case hr_32 => kernel_rfl
    case hQ_32 => exact fun _ _ _ h => h
    case hw_32 => rfl
    case hy_32 => ((intro w hSw; (try dsimp only at hSw); go_simp); all_goals (with_reducible rfl))
    try simp only [Act.put, List.setIfInBounds_toArray, List.set_cons_zero, List.set_cons_succ]
    refine wpAnyH_take (i := 10) (oi := ?oi_33) (v := ?v_33) ?hi_33 (by kernel_rfl) ?hf_33 ?hr_33 ?hQ_33 (Or.inl ⟨?hw_33, ?hy_33⟩) (by assumption) ?rest_33
    case hi_33 => ((simp only [List.getElem?_toArray, List.getElem?_cons_succ, List.getElem?_cons_zero]); rfl)
    case hf_33 => kernel_rfl
    case hr_33 => kernel_rfl
    case hQ_33 => exact fun _ _ _ h => h
    case hw_33 => rfl
    case hy_33 => ((intro w hSw; (try dsimp only at hSw); go_simp); all_goals (with_reducible rfl))
    try simp only [Act.put, List.setIfInBounds_toArray, List.set_cons_zero, List.set_cons_succ]
    refine wpAnyH_done (by kernel_rfl) ?_ _
    have hbel := hHeld
    clear hHeld hix hsub
    go_upto_region 2 with fail
    have hix := HIXq.out
    have hsub := HSUBq.out
    refine wp_region_held_drew (S := (fun u => Below W1.heap.size W1 u)) (by kernel_rfl) (by exact (show Below W1.heap.size W1 _ from by repeat (first | assumption | exact Below.refl _ _ | refine belDrew ?_ | refine belAlloc ?_ _ | refine belStep ?_ (by assumption)))) (fun hHeld => ?_)
    refine wpAnyH_take (i := 0) (oi := ?oi_34) (v := ?v_34) ?hi_34 (by kernel_rfl) ?hf_34 ?hr_34 ?hQ_34 (Or.inl ⟨?hw_34, ?hy_34⟩) (by assumption) ?rest_34
    case hi_34 => ((simp only [List.getElem?_toArray, List.getElem?_cons_succ, List.getElem?_cons_zero]); rfl)
    case hf_34 => kernel_rfl
    case hr_34 => kernel_rfl
    case hQ_34 => exact fun _ _ _ h => h
    case hw_34 => rfl
    case hy_34 => ((intro w hSw; (try dsimp only at hSw); go_simp); all_goals (with_reducible rfl))
    try simp only [Act.put, List.setIfInBounds_toArray, List.set_cons_zero, List.set_cons_succ]
    refine wpAnyH_take (i := 1) (oi := ?oi_35) (v := ?v_35) ?hi_35 (by kernel_rfl) ?hf_35 ?hr_35 ?hQ_35 (Or.inl ⟨?hw_35, ?hy_35⟩) (by assumption) ?rest_35
    case hi_35 => ((simp only [List.getElem?_toArray, List.getElem?_cons_succ, List.getElem?_cons_zero]); rfl)
    case hf_35 => kernel_rfl
    case hr_35 => kernel_rfl
    case hQ_35 => exact fun _ _ _ h => h
    case hw_35 => rfl
    case hy_35 => ((intro w hSw; (try dsimp only at hSw); go_simp); all_goals (with_reducible rfl))
    try simp only [Act.put, List.setIfInBounds_toArray, List.set_cons_zero, List.set_cons_succ]
    refine wpAnyH_take (i := 2) (oi := ?oi_36) (v := ?v_36) ?hi_36 (by kernel_rfl) ?hf_36 ?hr_36 ?hQ_36 (Or.inl ⟨?hw_36, ?hy_36⟩) (by assumption) ?rest_36
    case hi_36 => ((simp only [List.getElem?_toArray, List.getElem?_cons_succ, List.getElem?_cons_zero]); rfl)
    case hf_36 => kernel_rfl
    case hr_36 => kernel_rfl
    case hQ_36 => exact fun _ _ _ h => h
    case hw_36 => rfl
    case hy_36 => ((intro w hSw; (try dsimp only at hSw); go_simp); all_goals (with_reducible rfl))
    try simp only [Act.put, List.setIfInBounds_toArray, List.set_cons_zero, List.set_cons_succ]
    refine wpAnyH_take (i := 4) (oi := ?oi_37) (v := ?v_37) ?hi_37 (by kernel_rfl) ?hf_37 ?hr_37 ?hQ_37 (Or.inl ⟨?hw_37, ?hy_37⟩) (by assumption) ?rest_37
    case hi_37 => ((simp only [List.getElem?_toArray, List.getElem?_cons_succ, List.getElem?_cons_zero]); rfl)
    case hf_37 => kernel_rfl
    case hr_37 => kernel_rfl
    case hQ_37 => exact fun _ _ _ h => h
    case hw_37 => rfl
    case hy_37 => ((intro w hSw; (try dsimp only at hSw); go_simp); all_goals (with_reducible rfl))
    try simp only [Act.put, List.setIfInBounds_toArray, List.set_cons_zero, List.set_cons_succ]
    refine wpAnyH_take (i := 6) (oi := ?oi_38) (v := ?v_38) ?hi_38 (by kernel_rfl) ?hf_38 ?hr_38 ?hQ_38 (Or.inl ⟨?hw_38, ?hy_38⟩) (by assumption) ?rest_38
    case hi_38 => ((simp only [List.getElem?_toArray, List.getElem?_cons_succ, List.getElem?_cons_zero]); rfl)
    case hf_38 => kernel_rfl
    case hr_38 => kernel_rfl
    case hQ_38 => exact fun _ _ _ h => h
    case hw_38 => rfl
    case hy_38 => ((intro w hSw; (try dsimp only at hSw); go_simp); all_goals (with_reducible rfl))
    try simp only [Act.put, List.setIfInBounds_toArray, List.set_cons_zero, List.set_cons_succ]
    refine wpAnyH_take (i := 7) (oi := ?oi_39) (v := ?v_39) ?hi_39 (by kernel_rfl) ?hf_39 ?hr_39 ?hQ_39 (Or.inl ⟨?hw_39, ?hy_39⟩) (by assumption) ?rest_39
    case hi_39 => ((simp only [List.getElem?_toArray, List.getElem?_cons_succ, List.getElem?_cons_zero]); rfl)
    case hf_39 => kernel_rfl
    case hr_39 => kernel_rfl
    case hQ_39 => exact fun _ _ _ h => h
    case hw_39 => rfl
    case hy_39 => ((intro w hSw; (try dsimp only at hSw); go_simp); all_goals (with_reducible rfl))
    try simp only [Act.put, List.setIfInBounds_toArray, List.set_cons_zero, List.set_cons_succ]
    refine wpAnyH_ready (rs := [3]) (by kernel_rfl) (by simp) ?_
    refine AllReadyH.cons (o := ?o1_40) ?hi_40 (fun K hK => ?rest_40) AllReadyH.nil
    case hi_40 => ((simp only [List.getElem?_toArray, List.getElem?_cons_succ, List.getElem?_cons_zero]); rfl)
    go_simp
    (first | (go_at_call 26; (with_reducible refine (COq.out _ (belStep hw hHeld)).mono ?_); rintro e wq ⟨rfl, hbq⟩) | (go_at_call 40; (with_reducible refine (CAq.out _).mono ?_); rintro e wq ⟨rfl, hbq⟩))
    try go_simp
    refine hK.out _ _ (by exact (show Below W1.heap.size W1 _ from by repeat (first | assumption | exact Below.refl _ _ | refine belDrew ?_ | refine belAlloc ?_ _ | refine belStep ?_ (by assumption)))) (fun hHeld => ?_)
    clear hK K
    try simp only [Act.put, List.setIfInBounds_toArray, List.set_cons_zero, List.set_cons_succ]
    refine wpAnyH_take (i := 5) (oi := ?oi_41) (v := ?v_41) ?hi_41 (by kernel_rfl) ?hf_41 ?hr_41 ?hQ_41 (Or.inl ⟨?hw_41, ?hy_41⟩) (by assumption) ?rest_41
    case hi_41 => ((simp only [List.getElem?_toArray, List.getElem?_cons_succ, List.getElem?_cons_zero]); rfl)
    case hf_41 => kernel_rfl
    case hr_41 => kernel_rfl
    case hQ_41 => exact fun _ _ _ h => h
    case hw_41 => rfl
    case hy_41 => ((intro w hSw; (try dsimp only at hSw); go_simp); all_goals (with_reducible rfl))
    try simp only [Act.put, List.setIfInBounds_toArray, List.set_cons_zero, List.set_cons_succ]
    refine wpAnyH_ready (rs := [8]) (by kernel_rfl) (by simp) ?_
    refine AllReadyH.cons (o := ?o1_42) ?hi_42 (fun K hK => ?rest_42) AllReadyH.nil
    case hi_42 => ((simp only [List.getElem?_toArray, List.getElem?_cons_succ, List.getElem?_cons_zero]); rfl)
    go_simp
    (first | (go_at_call 26; (with_reducible refine (COq.out _ (belStep hw hHeld)).mono ?_); rintro e wq ⟨rfl, hbq⟩) | (go_at_call 40; (with_reducible refine (CAq.out _).mono ?_); rintro e wq ⟨rfl, hbq⟩))
    try go_simp
    refine hK.out _ _ (by exact (show Below W1.heap.size W1 _ from by repeat (first | assumption | exact Below.refl _ _ | refine belDrew ?_ | refine belAlloc ?_ _ | refine belStep ?_ (by assumption)))) (fun hHeld => ?_)
    clear hK K
    try simp only [Act.put, List.setIfInBounds_toArray, List.set_cons_zero, List.set_cons_succ]
    refine wpAnyH_take (i := 9) (oi := ?oi_43) (v := ?v_43) ?hi_43 (by kernel_rfl) ?hf_43 ?hr_43 ?hQ_43 (Or.inl ⟨?hw_43, ?hy_43⟩) (by assumption) ?rest_43
    case hi_43 => ((simp only [List.getElem?_toArray, List.getElem?_cons_succ, List.getElem?_cons_zero]); rfl)
    case hf_43 => kernel_rfl
    case hr_43 => kernel_rfl
    case hQ_43 => exact fun _ _ _ h => h
    case hw_43 => rfl
    case hy_43 => ((intro w hSw; (try dsimp only at hSw); go_simp); all_goals (with_reducible rfl))
    try simp only [Act.put, List.setIfInBounds_toArray, List.set_cons_zero, List.set_cons_succ]
    refine wpAnyH_take (i := 10) (oi := ?oi_44) (v := ?v_44) ?hi_44 (by kernel_rfl) ?hf_44 ?hr_44 ?hQ_44 (Or.inl ⟨?hw_44, ?hy_44⟩) (by assumption) ?rest_44
    case hi_44 => ((simp only [List.getElem?_toArray, List.getElem?_cons_succ, List.getElem?_cons_zero]); rfl)
    case hf_44 => kernel_rfl
    case hr_44 => kernel_rfl
    case hQ_44 => exact fun _ _ _ h => h
    case hw_44 => rfl
    case hy_44 => ((intro w hSw; (try dsimp only at hSw); go_simp); all_goals (with_reducible rfl))
    try simp only [Act.put, List.setIfInBounds_toArray, List.set_cons_zero, List.set_cons_succ]
    refine wpAnyH_done (by kernel_rfl) ?_ _
    have hbel := hHeld
    clear hHeld hix hsub
    obtain ⟨X, hX⟩ : ∃ X, up - ap = X := ⟨_, rfl⟩
    obtain ⟨Y, hY⟩ : ∃ Y, uq - aq = Y := ⟨_, rfl⟩
    have K2 := KEY.out
    rw [hX, hY] at K2
    simp only [hX, hY]
    clear hX hY KEY
    rcases K2 with ⟨k1, k2, k3⟩ | ⟨k1, k2, k3⟩ | ⟨kk, k4⟩
    · have HV := Lib.hid k3
      clear k3
      go_wp2
      go_ret
      exact ⟨ret_bool (by rw [HV.out]), belStep hw hbel⟩
    · have HV := Lib.hid k3
      clear k3
      go_wp2
      go_ret
      exact ⟨ret_bool (by rw [HV.out]), belStep hw hbel⟩
    · rcases k4 with ⟨k5, k6⟩ | ⟨k5, ⟨k6, k7⟩ | ⟨k6, k7⟩⟩
      · have t1 : (p.prio != q.prio) = true := by simpa using k5
        have t2 : (p.prio == q.prio) = false := by simpa using k5
        clear k5
        rcases kk with ⟨k1, k2⟩ | ⟨k1, k2⟩
        all_goals
          have HV := Lib.hid k6
          clear k6
          go_wp2
          go_ret
          exact ⟨ret_bool (by rw [HV.out]), belStep hw hbel⟩
      · have t1 : (X != Y) = true := by simpa using k6
        have t2 : (X == Y) = false := by simpa using k6
        have t3 : (p.prio != q.prio) = false := by simpa using k5
        have t4 : (p.prio == q.prio) = true := by simpa using k5
        clear k5 k6
        rcases kk with ⟨k1, k2⟩ | ⟨k1, k2⟩
        all_goals
          have HV := Lib.hid k7
          clear k7
          go_wp2
          go_ret
          exact ⟨ret_bool (by rw [HV.out]), belStep hw hbel⟩
      · subst k6
        have t3 : (p.prio != q.prio) = false := by simpa using k5
        have t4 : (p.prio == q.prio) = true := by simpa using k5
        clear k5
        rcases kk with ⟨k1, k2⟩ | ⟨k1, k2⟩
        all_goals
          have HV := Lib.hid k7
          clear k7
          go_wp2
          go_ret
          exact ⟨ret_bool (by rw [HV.out]), belStep hw hbel⟩
  · obtain rfl : G = 2 := hG
    have HIXp := Lib.hid (show ∀ u : World, (Instr.index 29 (.agg #[.int .i64 op.a, .int .i64 op.b, .int .i64 op.c]) (.int .i64 2)).run Try.prog u = .ok (.int .i64 up) u from fun u => by rw [← hup0]; kernel_rfl)
    clear hup0
    have HIXq := Lib.hid (show ∀ u : World, (Instr.index 29 (.agg #[.int .i64 oq.a, .int .i64 oq.b, .int .i64 oq.c]) (.int .i64 2)).run Try.prog u = .ok (.int .i64 uq) u from fun u => by rw [← huq0]; kernel_rfl)
    clear huq0
    go_enter Try.func42, Try.ntmps42
    go_upto_region 1 with fail
    have pp0 : (((w.alloc (.cells #[.string p.id, .int .i64 p.prio, .bool p.crit, .int .i64 p.r0, .int .i64 p.r1, .int .i64 p.r2, .int .i64 p.l0, .int .i64 p.l1, .int .i64 p.l2, .string p.img, .int .i64 p.size] 62)).alloc (.cells #[.string q.id, .int .i64 q.prio, .bool q.crit, .int .i64 q.r0, .int .i64 q.r1, .int .i64 q.r2, .int .i64 q.l0, .int .i64 q.l1, .int .i64 q.l2, .string q.img, .int .i64 q.size] 62)).alloc (.cells #[.int .i64 t, .int .i64 x0, .int .i64 x1, .int .i64 x2, .slice a U.length cap] 32)).cell? ⟨w.heap.size, 0, none⟩ = some (.string p.id) := by first | (simp; done) | (rw [World.cell?_alloc_at _ _ _ _ (by simp)]; rfl) | (rw [World.cell?_alloc_past _ _ _ (by simp <;> omega), World.cell?_alloc_at _ _ _ _ (by simp)]; rfl) | (rw [World.cell?_alloc_past _ _ _ (by simp <;> omega), World.cell?_alloc_past _ _ _ (by simp <;> omega), World.cell?_alloc_at _ _ _ _ (by simp)]; rfl)
    have pp1 : (((w.alloc (.cells #[.string p.id, .int .i64 p.prio, .bool p.crit, .int .i64 p.r0, .int .i64 p.r1, .int .i64 p.r2, .int .i64 p.l0, .int .i64 p.l1, .int .i64 p.l2, .string p.img, .int .i64 p.size] 62)).alloc (.cells #[.string q.id, .int .i64 q.prio, .bool q.crit, .int .i64 q.r0, .int .i64 q.r1, .int .i64 q.r2, .int .i64 q.l0, .int .i64 q.l1, .int .i64 q.l2, .string q.img, .int .i64 q.size] 62)).alloc (.cells #[.int .i64 t, .int .i64 x0, .int .i64 x1, .int .i64 x2, .slice a U.length cap] 32)).cell? ⟨w.heap.size, 1, none⟩ = some (.int .i64 p.prio) := by first | (simp; done) | (rw [World.cell?_alloc_at _ _ _ _ (by simp)]; rfl) | (rw [World.cell?_alloc_past _ _ _ (by simp <;> omega), World.cell?_alloc_at _ _ _ _ (by simp)]; rfl) | (rw [World.cell?_alloc_past _ _ _ (by simp <;> omega), World.cell?_alloc_past _ _ _ (by simp <;> omega), World.cell?_alloc_at _ _ _ _ (by simp)]; rfl)
    have pp2 : (((w.alloc (.cells #[.string p.id, .int .i64 p.prio, .bool p.crit, .int .i64 p.r0, .int .i64 p.r1, .int .i64 p.r2, .int .i64 p.l0, .int .i64 p.l1, .int .i64 p.l2, .string p.img, .int .i64 p.size] 62)).alloc (.cells #[.string q.id, .int .i64 q.prio, .bool q.crit, .int .i64 q.r0, .int .i64 q.r1, .int .i64 q.r2, .int .i64 q.l0, .int .i64 q.l1, .int .i64 q.l2, .string q.img, .int .i64 q.size] 62)).alloc (.cells #[.int .i64 t, .int .i64 x0, .int .i64 x1, .int .i64 x2, .slice a U.length cap] 32)).cell? ⟨w.heap.size, 2, none⟩ = some (.bool p.crit) := by first | (simp; done) | (rw [World.cell?_alloc_at _ _ _ _ (by simp)]; rfl) | (rw [World.cell?_alloc_past _ _ _ (by simp <;> omega), World.cell?_alloc_at _ _ _ _ (by simp)]; rfl) | (rw [World.cell?_alloc_past _ _ _ (by simp <;> omega), World.cell?_alloc_past _ _ _ (by simp <;> omega), World.cell?_alloc_at _ _ _ _ (by simp)]; rfl)
    have pp3 : (((w.alloc (.cells #[.string p.id, .int .i64 p.prio, .bool p.crit, .int .i64 p.r0, .int .i64 p.r1, .int .i64 p.r2, .int .i64 p.l0, .int .i64 p.l1, .int .i64 p.l2, .string p.img, .int .i64 p.size] 62)).alloc (.cells #[.string q.id, .int .i64 q.prio, .bool q.crit, .int .i64 q.r0, .int .i64 q.r1, .int .i64 q.r2, .int .i64 q.l0, .int .i64 q.l1, .int .i64 q.l2, .string q.img, .int .i64 q.size] 62)).alloc (.cells #[.int .i64 t, .int .i64 x0, .int .i64 x1, .int .i64 x2, .slice a U.length cap] 32)).cell? ⟨w.heap.size, 3, none⟩ = some (.int .i64 p.r0) := by first | (simp; done) | (rw [World.cell?_alloc_at _ _ _ _ (by simp)]; rfl) | (rw [World.cell?_alloc_past _ _ _ (by simp <;> omega), World.cell?_alloc_at _ _ _ _ (by simp)]; rfl) | (rw [World.cell?_alloc_past _ _ _ (by simp <;> omega), World.cell?_alloc_past _ _ _ (by simp <;> omega), World.cell?_alloc_at _ _ _ _ (by simp)]; rfl)
    have pp4 : (((w.alloc (.cells #[.string p.id, .int .i64 p.prio, .bool p.crit, .int .i64 p.r0, .int .i64 p.r1, .int .i64 p.r2, .int .i64 p.l0, .int .i64 p.l1, .int .i64 p.l2, .string p.img, .int .i64 p.size] 62)).alloc (.cells #[.string q.id, .int .i64 q.prio, .bool q.crit, .int .i64 q.r0, .int .i64 q.r1, .int .i64 q.r2, .int .i64 q.l0, .int .i64 q.l1, .int .i64 q.l2, .string q.img, .int .i64 q.size] 62)).alloc (.cells #[.int .i64 t, .int .i64 x0, .int .i64 x1, .int .i64 x2, .slice a U.length cap] 32)).cell? ⟨w.heap.size, 4, none⟩ = some (.int .i64 p.r1) := by first | (simp; done) | (rw [World.cell?_alloc_at _ _ _ _ (by simp)]; rfl) | (rw [World.cell?_alloc_past _ _ _ (by simp <;> omega), World.cell?_alloc_at _ _ _ _ (by simp)]; rfl) | (rw [World.cell?_alloc_past _ _ _ (by simp <;> omega), World.cell?_alloc_past _ _ _ (by simp <;> omega), World.cell?_alloc_at _ _ _ _ (by simp)]; rfl)
    have pp5 : (((w.alloc (.cells #[.string p.id, .int .i64 p.prio, .bool p.crit, .int .i64 p.r0, .int .i64 p.r1, .int .i64 p.r2, .int .i64 p.l0, .int .i64 p.l1, .int .i64 p.l2, .string p.img, .int .i64 p.size] 62)).alloc (.cells #[.string q.id, .int .i64 q.prio, .bool q.crit, .int .i64 q.r0, .int .i64 q.r1, .int .i64 q.r2, .int .i64 q.l0, .int .i64 q.l1, .int .i64 q.l2, .string q.img, .int .i64 q.size] 62)).alloc (.cells #[.int .i64 t, .int .i64 x0, .int .i64 x1, .int .i64 x2, .slice a U.length cap] 32)).cell? ⟨w.heap.size, 5, none⟩ = some (.int .i64 p.r2) := by first | (simp; done) | (rw [World.cell?_alloc_at _ _ _ _ (by simp)]; rfl) | (rw [World.cell?_alloc_past _ _ _ (by simp <;> omega), World.cell?_alloc_at _ _ _ _ (by simp)]; rfl) | (rw [World.cell?_alloc_past _ _ _ (by simp <;> omega), World.cell?_alloc_past _ _ _ (by simp <;> omega), World.cell?_alloc_at _ _ _ _ (by simp)]; rfl)
    have pp6 : (((w.alloc (.cells #[.string p.id, .int .i64 p.prio, .bool p.crit, .int .i64 p.r0, .int .i64 p.r1, .int .i64 p.r2, .int .i64 p.l0, .int .i64 p.l1, .int .i64 p.l2, .string p.img, .int .i64 p.size] 62)).alloc (.cells #[.string q.id, .int .i64 q.prio, .bool q.crit, .int .i64 q.r0, .int .i64 q.r1, .int .i64 q.r2, .int .i64 q.l0, .int .i64 q.l1, .int .i64 q.l2, .string q.img, .int .i64 q.size] 62)).alloc (.cells #[.int .i64 t, .int .i64 x0, .int .i64 x1, .int .i64 x2, .slice a U.length cap] 32)).cell? ⟨w.heap.size, 6, none⟩ = some (.int .i64 p.l0) := by first | (simp; done) | (rw [World.cell?_alloc_at _ _ _ _ (by simp)]; rfl) | (rw [World.cell?_alloc_past _ _ _ (by simp <;> omega), World.cell?_alloc_at _ _ _ _ (by simp)]; rfl) | (rw [World.cell?_alloc_past _ _ _ (by simp <;> omega), World.cell?_alloc_past _ _ _ (by simp <;> omega), World.cell?_alloc_at _ _ _ _ (by simp)]; rfl)
    have pp7 : (((w.alloc (.cells #[.string p.id, .int .i64 p.prio, .bool p.crit, .int .i64 p.r0, .int .i64 p.r1, .int .i64 p.r2, .int .i64 p.l0, .int .i64 p.l1, .int .i64 p.l2, .string p.img, .int .i64 p.size] 62)).alloc (.cells #[.string q.id, .int .i64 q.prio, .bool q.crit, .int .i64 q.r0, .int .i64 q.r1, .int .i64 q.r2, .int .i64 q.l0, .int .i64 q.l1, .int .i64 q.l2, .string q.img, .int .i64 q.size] 62)).alloc (.cells #[.int .i64 t, .int .i64 x0, .int .i64 x1, .int .i64 x2, .slice a U.length cap] 32)).cell? ⟨w.heap.size, 7, none⟩ = some (.int .i64 p.l1) := by first | (simp; done) | (rw [World.cell?_alloc_at _ _ _ _ (by simp)]; rfl) | (rw [World.cell?_alloc_past _ _ _ (by simp <;> omega), World.cell?_alloc_at _ _ _ _ (by simp)]; rfl) | (rw [World.cell?_alloc_past _ _ _ (by simp <;> omega), World.cell?_alloc_past _ _ _ (by simp <;> omega), World.cell?_alloc_at _ _ _ _ (by simp)]; rfl)
    have pp8 : (((w.alloc (.cells #[.string p.id, .int .i64 p.prio, .bool p.crit, .int .i64 p.r0, .int .i64 p.r1, .int .i64 p.r2, .int .i64 p.l0, .int .i64 p.l1, .int .i64 p.l2, .string p.img, .int .i64 p.size] 62)).alloc (.cells #[.string q.id, .int .i64 q.prio, .bool q.crit, .int .i64 q.r0, .int .i64 q.r1, .int .i64 q.r2, .int .i64 q.l0, .int .i64 q.l1, .int .i64 q.l2, .string q.img, .int .i64 q.size] 62)).alloc (.cells #[.int .i64 t, .int .i64 x0, .int .i64 x1, .int .i64 x2, .slice a U.length cap] 32)).cell? ⟨w.heap.size, 8, none⟩ = some (.int .i64 p.l2) := by first | (simp; done) | (rw [World.cell?_alloc_at _ _ _ _ (by simp)]; rfl) | (rw [World.cell?_alloc_past _ _ _ (by simp <;> omega), World.cell?_alloc_at _ _ _ _ (by simp)]; rfl) | (rw [World.cell?_alloc_past _ _ _ (by simp <;> omega), World.cell?_alloc_past _ _ _ (by simp <;> omega), World.cell?_alloc_at _ _ _ _ (by simp)]; rfl)
    have pp9 : (((w.alloc (.cells #[.string p.id, .int .i64 p.prio, .bool p.crit, .int .i64 p.r0, .int .i64 p.r1, .int .i64 p.r2, .int .i64 p.l0, .int .i64 p.l1, .int .i64 p.l2, .string p.img, .int .i64 p.size] 62)).alloc (.cells #[.string q.id, .int .i64 q.prio, .bool q.crit, .int .i64 q.r0, .int .i64 q.r1, .int .i64 q.r2, .int .i64 q.l0, .int .i64 q.l1, .int .i64 q.l2, .string q.img, .int .i64 q.size] 62)).alloc (.cells #[.int .i64 t, .int .i64 x0, .int .i64 x1, .int .i64 x2, .slice a U.length cap] 32)).cell? ⟨w.heap.size, 9, none⟩ = some (.string p.img) := by first | (simp; done) | (rw [World.cell?_alloc_at _ _ _ _ (by simp)]; rfl) | (rw [World.cell?_alloc_past _ _ _ (by simp <;> omega), World.cell?_alloc_at _ _ _ _ (by simp)]; rfl) | (rw [World.cell?_alloc_past _ _ _ (by simp <;> omega), World.cell?_alloc_past _ _ _ (by simp <;> omega), World.cell?_alloc_at _ _ _ _ (by simp)]; rfl)
    have pp10 : (((w.alloc (.cells #[.string p.id, .int .i64 p.prio, .bool p.crit, .int .i64 p.r0, .int .i64 p.r1, .int .i64 p.r2, .int .i64 p.l0, .int .i64 p.l1, .int .i64 p.l2, .string p.img, .int .i64 p.size] 62)).alloc (.cells #[.string q.id, .int .i64 q.prio, .bool q.crit, .int .i64 q.r0, .int .i64 q.r1, .int .i64 q.r2, .int .i64 q.l0, .int .i64 q.l1, .int .i64 q.l2, .string q.img, .int .i64 q.size] 62)).alloc (.cells #[.int .i64 t, .int .i64 x0, .int .i64 x1, .int .i64 x2, .slice a U.length cap] 32)).cell? ⟨w.heap.size, 10, none⟩ = some (.int .i64 p.size) := by first | (simp; done) | (rw [World.cell?_alloc_at _ _ _ _ (by simp)]; rfl) | (rw [World.cell?_alloc_past _ _ _ (by simp <;> omega), World.cell?_alloc_at _ _ _ _ (by simp)]; rfl) | (rw [World.cell?_alloc_past _ _ _ (by simp <;> omega), World.cell?_alloc_past _ _ _ (by simp <;> omega), World.cell?_alloc_at _ _ _ _ (by simp)]; rfl)
    have qq0 : (((w.alloc (.cells #[.string p.id, .int .i64 p.prio, .bool p.crit, .int .i64 p.r0, .int .i64 p.r1, .int .i64 p.r2, .int .i64 p.l0, .int .i64 p.l1, .int .i64 p.l2, .string p.img, .int .i64 p.size] 62)).alloc (.cells #[.string q.id, .int .i64 q.prio, .bool q.crit, .int .i64 q.r0, .int .i64 q.r1, .int .i64 q.r2, .int .i64 q.l0, .int .i64 q.l1, .int .i64 q.l2, .string q.img, .int .i64 q.size] 62)).alloc (.cells #[.int .i64 t, .int .i64 x0, .int .i64 x1, .int .i64 x2, .slice a U.length cap] 32)).cell? ⟨w.heap.size + 1, 0, none⟩ = some (.string q.id) := by first | (simp; done) | (rw [World.cell?_alloc_at _ _ _ _ (by simp)]; rfl) | (rw [World.cell?_alloc_past _ _ _ (by simp <;> omega), World.cell?_alloc_at _ _ _ _ (by simp)]; rfl) | (rw [World.cell?_alloc_past _ _ _ (by simp <;> omega), World.cell?_alloc_past _ _ _ (by simp <;> omega), World.cell?_alloc_at _ _ _ _ (by simp)]; rfl)
    have qq1 : (((w.alloc (.cells #[.string p.id, .int .i64 p.prio, .bool p.crit, .int .i64 p.r0, .int .i64 p.r1, .int .i64 p.r2, .int .i64 p.l0, .int .i64 p.l1, .int .i64 p.l2, .string p.img, .int .i64 p.size] 62)).alloc (.cells #[.string q.id, .int .i64 q.prio, .bool q.crit, .int .i64 q.r0, .int .i64 q.r1, .int .i64 q.r2, .int .i64 q.l0, .int .i64 q.l1, .int .i64 q.l2, .string q.img, .int .i64 q.size] 62)).alloc (.cells #[.int .i64 t, .int .i64 x0, .int .i64 x1, .int .i64 x2, .slice a U.length cap] 32)).cell? ⟨w.heap.size + 1, 1, none⟩ = some (.int .i64 q.prio) := by first | (simp; done) | (rw [World.cell?_alloc_at _ _ _ _ (by simp)]; rfl) | (rw [World.cell?_alloc_past _ _ _ (by simp <;> omega), World.cell?_alloc_at _ _ _ _ (by simp)]; rfl) | (rw [World.cell?_alloc_past _ _ _ (by simp <;> omega), World.cell?_alloc_past _ _ _ (by simp <;> omega), World.cell?_alloc_at _ _ _ _ (by simp)]; rfl)
    have qq2 : (((w.alloc (.cells #[.string p.id, .int .i64 p.prio, .bool p.crit, .int .i64 p.r0, .int .i64 p.r1, .int .i64 p.r2, .int .i64 p.l0, .int .i64 p.l1, .int .i64 p.l2, .string p.img, .int .i64 p.size] 62)).alloc (.cells #[.string q.id, .int .i64 q.prio, .bool q.crit, .int .i64 q.r0, .int .i64 q.r1, .int .i64 q.r2, .int .i64 q.l0, .int .i64 q.l1, .int .i64 q.l2, .string q.img, .int .i64 q.size] 62)).alloc (.cells #[.int .i64 t, .int .i64 x0, .int .i64 x1, .int .i64 x2, .slice a U.length cap] 32)).cell? ⟨w.heap.size + 1, 2, none⟩ = some (.bool q.crit) := by first | (simp; done) | (rw [World.cell?_alloc_at _ _ _ _ (by simp)]; rfl) | (rw [World.cell?_alloc_past _ _ _ (by simp <;> omega), World.cell?_alloc_at _ _ _ _ (by simp)]; rfl) | (rw [World.cell?_alloc_past _ _ _ (by simp <;> omega), World.cell?_alloc_past _ _ _ (by simp <;> omega), World.cell?_alloc_at _ _ _ _ (by simp)]; rfl)
    have qq3 : (((w.alloc (.cells #[.string p.id, .int .i64 p.prio, .bool p.crit, .int .i64 p.r0, .int .i64 p.r1, .int .i64 p.r2, .int .i64 p.l0, .int .i64 p.l1, .int .i64 p.l2, .string p.img, .int .i64 p.size] 62)).alloc (.cells #[.string q.id, .int .i64 q.prio, .bool q.crit, .int .i64 q.r0, .int .i64 q.r1, .int .i64 q.r2, .int .i64 q.l0, .int .i64 q.l1, .int .i64 q.l2, .string q.img, .int .i64 q.size] 62)).alloc (.cells #[.int .i64 t, .int .i64 x0, .int .i64 x1, .int .i64 x2, .slice a U.length cap] 32)).cell? ⟨w.heap.size + 1, 3, none⟩ = some (.int .i64 q.r0) := by first | (simp; done) | (rw [World.cell?_alloc_at _ _ _ _ (by simp)]; rfl) | (rw [World.cell?_alloc_past _ _ _ (by simp <;> omega), World.cell?_alloc_at _ _ _ _ (by simp)]; rfl) | (rw [World.cell?_alloc_past _ _ _ (by simp <;> omega), World.cell?_alloc_past _ _ _ (by simp <;> omega), World.cell?_alloc_at _ _ _ _ (by simp)]; rfl)
    have qq4 : (((w.alloc (.cells #[.string p.id, .int .i64 p.prio, .bool p.crit, .int .i64 p.r0, .int .i64 p.r1, .int .i64 p.r2, .int .i64 p.l0, .int .i64 p.l1, .int .i64 p.l2, .string p.img, .int .i64 p.size] 62)).alloc (.cells #[.string q.id, .int .i64 q.prio, .bool q.crit, .int .i64 q.r0, .int .i64 q.r1, .int .i64 q.r2, .int .i64 q.l0, .int .i64 q.l1, .int .i64 q.l2, .string q.img, .int .i64 q.size] 62)).alloc (.cells #[.int .i64 t, .int .i64 x0, .int .i64 x1, .int .i64 x2, .slice a U.length cap] 32)).cell? ⟨w.heap.size + 1, 4, none⟩ = some (.int .i64 q.r1) := by first | (simp; done) | (rw [World.cell?_alloc_at _ _ _ _ (by simp)]; rfl) | (rw [World.cell?_alloc_past _ _ _ (by simp <;> omega), World.cell?_alloc_at _ _ _ _ (by simp)]; rfl) | (rw [World.cell?_alloc_past _ _ _ (by simp <;> omega), World.cell?_alloc_past _ _ _ (by simp <;> omega), World.cell?_alloc_at _ _ _ _ (by simp)]; rfl)
    have qq5 : (((w.alloc (.cells #[.string p.id, .int .i64 p.prio, .bool p.crit, .int .i64 p.r0, .int .i64 p.r1, .int .i64 p.r2, .int .i64 p.l0, .int .i64 p.l1, .int .i64 p.l2, .string p.img, .int .i64 p.size] 62)).alloc (.cells #[.string q.id, .int .i64 q.prio, .bool q.crit, .int .i64 q.r0, .int .i64 q.r1, .int .i64 q.r2, .int .i64 q.l0, .int .i64 q.l1, .int .i64 q.l2, .string q.img, .int .i64 q.size] 62)).alloc (.cells #[.int .i64 t, .int .i64 x0, .int .i64 x1, .int .i64 x2, .slice a U.length cap] 32)).cell? ⟨w.heap.size + 1, 5, none⟩ = some (.int .i64 q.r2) := by first | (simp; done) | (rw [World.cell?_alloc_at _ _ _ _ (by simp)]; rfl) | (rw [World.cell?_alloc_past _ _ _ (by simp <;> omega), World.cell?_alloc_at _ _ _ _ (by simp)]; rfl) | (rw [World.cell?_alloc_past _ _ _ (by simp <;> omega), World.cell?_alloc_past _ _ _ (by simp <;> omega), World.cell?_alloc_at _ _ _ _ (by simp)]; rfl)
    have qq6 : (((w.alloc (.cells #[.string p.id, .int .i64 p.prio, .bool p.crit, .int .i64 p.r0, .int .i64 p.r1, .int .i64 p.r2, .int .i64 p.l0, .int .i64 p.l1, .int .i64 p.l2, .string p.img, .int .i64 p.size] 62)).alloc (.cells #[.string q.id, .int .i64 q.prio, .bool q.crit, .int .i64 q.r0, .int .i64 q.r1, .int .i64 q.r2, .int .i64 q.l0, .int .i64 q.l1, .int .i64 q.l2, .string q.img, .int .i64 q.size] 62)).alloc (.cells #[.int .i64 t, .int .i64 x0, .int .i64 x1, .int .i64 x2, .slice a U.length cap] 32)).cell? ⟨w.heap.size + 1, 6, none⟩ = some (.int .i64 q.l0) := by first | (simp; done) | (rw [World.cell?_alloc_at _ _ _ _ (by simp)]; rfl) | (rw [World.cell?_alloc_past _ _ _ (by simp <;> omega), World.cell?_alloc_at _ _ _ _ (by simp)]; rfl) | (rw [World.cell?_alloc_past _ _ _ (by simp <;> omega), World.cell?_alloc_past _ _ _ (by simp <;> omega), World.cell?_alloc_at _ _ _ _ (by simp)]; rfl)
    have qq7 : (((w.alloc (.cells #[.string p.id, .int .i64 p.prio, .bool p.crit, .int .i64 p.r0, .int .i64 p.r1, .int .i64 p.r2, .int .i64 p.l0, .int .i64 p.l1, .int .i64 p.l2, .string p.img, .int .i64 p.size] 62)).alloc (.cells #[.string q.id, .int .i64 q.prio, .bool q.crit, .int .i64 q.r0, .int .i64 q.r1, .int .i64 q.r2, .int .i64 q.l0, .int .i64 q.l1, .int .i64 q.l2, .string q.img, .int .i64 q.size] 62)).alloc (.cells #[.int .i64 t, .int .i64 x0, .int .i64 x1, .int .i64 x2, .slice a U.length cap] 32)).cell? ⟨w.heap.size + 1, 7, none⟩ = some (.int .i64 q.l1) := by first | (simp; done) | (rw [World.cell?_alloc_at _ _ _ _ (by simp)]; rfl) | (rw [World.cell?_alloc_past _ _ _ (by simp <;> omega), World.cell?_alloc_at _ _ _ _ (by simp)]; rfl) | (rw [World.cell?_alloc_past _ _ _ (by simp <;> omega), World.cell?_alloc_past _ _ _ (by simp <;> omega), World.cell?_alloc_at _ _ _ _ (by simp)]; rfl)
    have qq8 : (((w.alloc (.cells #[.string p.id, .int .i64 p.prio, .bool p.crit, .int .i64 p.r0, .int .i64 p.r1, .int .i64 p.r2, .int .i64 p.l0, .int .i64 p.l1, .int .i64 p.l2, .string p.img, .int .i64 p.size] 62)).alloc (.cells #[.string q.id, .int .i64 q.prio, .bool q.crit, .int .i64 q.r0, .int .i64 q.r1, .int .i64 q.r2, .int .i64 q.l0, .int .i64 q.l1, .int .i64 q.l2, .string q.img, .int .i64 q.size] 62)).alloc (.cells #[.int .i64 t, .int .i64 x0, .int .i64 x1, .int .i64 x2, .slice a U.length cap] 32)).cell? ⟨w.heap.size + 1, 8, none⟩ = some (.int .i64 q.l2) := by first | (simp; done) | (rw [World.cell?_alloc_at _ _ _ _ (by simp)]; rfl) | (rw [World.cell?_alloc_past _ _ _ (by simp <;> omega), World.cell?_alloc_at _ _ _ _ (by simp)]; rfl) | (rw [World.cell?_alloc_past _ _ _ (by simp <;> omega), World.cell?_alloc_past _ _ _ (by simp <;> omega), World.cell?_alloc_at _ _ _ _ (by simp)]; rfl)
    have qq9 : (((w.alloc (.cells #[.string p.id, .int .i64 p.prio, .bool p.crit, .int .i64 p.r0, .int .i64 p.r1, .int .i64 p.r2, .int .i64 p.l0, .int .i64 p.l1, .int .i64 p.l2, .string p.img, .int .i64 p.size] 62)).alloc (.cells #[.string q.id, .int .i64 q.prio, .bool q.crit, .int .i64 q.r0, .int .i64 q.r1, .int .i64 q.r2, .int .i64 q.l0, .int .i64 q.l1, .int .i64 q.l2, .string q.img, .int .i64 q.size] 62)).alloc (.cells #[.int .i64 t, .int .i64 x0, .int .i64 x1, .int .i64 x2, .slice a U.length cap] 32)).cell? ⟨w.heap.size + 1, 9, none⟩ = some (.string q.img) := by first | (simp; done) | (rw [World.cell?_alloc_at _ _ _ _ (by simp)]; rfl) | (rw [World.cell?_alloc_past _ _ _ (by simp <;> omega), World.cell?_alloc_at _ _ _ _ (by simp)]; rfl) | (rw [World.cell?_alloc_past _ _ _ (by simp <;> omega), World.cell?_alloc_past _ _ _ (by simp <;> omega), World.cell?_alloc_at _ _ _ _ (by simp)]; rfl)
    have qq10 : (((w.alloc (.cells #[.string p.id, .int .i64 p.prio, .bool p.crit, .int .i64 p.r0, .int .i64 p.r1, .int .i64 p.r2, .int .i64 p.l0, .int .i64 p.l1, .int .i64 p.l2, .string p.img, .int .i64 p.size] 62)).alloc (.cells #[.string q.id, .int .i64 q.prio, .bool q.crit, .int .i64 q.r0, .int .i64 q.r1, .int .i64 q.r2, .int .i64 q.l0, .int .i64 q.l1, .int .i64 q.l2, .string q.img, .int .i64 q.size] 62)).alloc (.cells #[.int .i64 t, .int .i64 x0, .int .i64 x1, .int .i64 x2, .slice a U.length cap] 32)).cell? ⟨w.heap.size + 1, 10, none⟩ = some (.int .i64 q.size) := by first | (simp; done) | (rw [World.cell?_alloc_at _ _ _ _ (by simp)]; rfl) | (rw [World.cell?_alloc_past _ _ _ (by simp <;> omega), World.cell?_alloc_at _ _ _ _ (by simp)]; rfl) | (rw [World.cell?_alloc_past _ _ _ (by simp <;> omega), World.cell?_alloc_past _ _ _ (by simp <;> omega), World.cell?_alloc_at _ _ _ _ (by simp)]; rfl)
    have sp0 : (((w.alloc (.cells #[.string p.id, .int .i64 p.prio, .bool p.crit, .int .i64 p.r0, .int .i64 p.r1, .int .i64 p.r2, .int .i64 p.l0, .int .i64 p.l1, .int .i64 p.l2, .string p.img, .int .i64 p.size] 62)).alloc (.cells #[.string q.id, .int .i64 q.prio, .bool q.crit, .int .i64 q.r0, .int .i64 q.r1, .int .i64 q.r2, .int .i64 q.l0, .int .i64 q.l1, .int .i64 q.l2, .string q.img, .int .i64 q.size] 62)).alloc (.cells #[.int .i64 t, .int .i64 x0, .int .i64 x1, .int .i64 x2, .slice a U.length cap] 32)).cell? ⟨w.heap.size + 2, 0, none⟩ = some (.int .i64 t) := by first | (simp; done) | (rw [World.cell?_alloc_at _ _ _ _ (by simp)]; rfl) | (rw [World.cell?_alloc_past _ _ _ (by simp <;> omega), World.cell?_alloc_at _ _ _ _ (by simp)]; rfl) | (rw [World.cell?_alloc_past _ _ _ (by simp <;> omega), World.cell?_alloc_past _ _ _ (by simp <;> omega), World.cell?_alloc_at _ _ _ _ (by simp)]; rfl)
    have sp1 : (((w.alloc (.cells #[.string p.id, .int .i64 p.prio, .bool p.crit, .int .i64 p.r0, .int .i64 p.r1, .int .i64 p.r2, .int .i64 p.l0, .int .i64 p.l1, .int .i64 p.l2, .string p.img, .int .i64 p.size] 62)).alloc (.cells #[.string q.id, .int .i64 q.prio, .bool q.crit, .int .i64 q.r0, .int .i64 q.r1, .int .i64 q.r2, .int .i64 q.l0, .int .i64 q.l1, .int .i64 q.l2, .string q.img, .int .i64 q.size] 62)).alloc (.cells #[.int .i64 t, .int .i64 x0, .int .i64 x1, .int .i64 x2, .slice a U.length cap] 32)).cell? ⟨w.heap.size + 2, 1, none⟩ = some (.int .i64 x0) := by first | (simp; done) | (rw [World.cell?_alloc_at _ _ _ _ (by simp)]; rfl) | (rw [World.cell?_alloc_past _ _ _ (by simp <;> omega), World.cell?_alloc_at _ _ _ _ (by simp)]; rfl) | (rw [World.cell?_alloc_past _ _ _ (by simp <;> omega), World.cell?_alloc_past _ _ _ (by simp <;> omega), World.cell?_alloc_at _ _ _ _ (by simp)]; rfl)
    have sp2 : (((w.alloc (.cells #[.string p.id, .int .i64 p.prio, .bool p.crit, .int .i64 p.r0, .int .i64 p.r1, .int .i64 p.r2, .int .i64 p.l0, .int .i64 p.l1, .int .i64 p.l2, .string p.img, .int .i64 p.size] 62)).alloc (.cells #[.string q.id, .int .i64 q.prio, .bool q.crit, .int .i64 q.r0, .int .i64 q.r1, .int .i64 q.r2, .int .i64 q.l0, .int .i64 q.l1, .int .i64 q.l2, .string q.img, .int .i64 q.size] 62)).alloc (.cells #[.int .i64 t, .int .i64 x0, .int .i64 x1, .int .i64 x2, .slice a U.length cap] 32)).cell? ⟨w.heap.size + 2, 2, none⟩ = some (.int .i64 x1) := by first | (simp; done) | (rw [World.cell?_alloc_at _ _ _ _ (by simp)]; rfl) | (rw [World.cell?_alloc_past _ _ _ (by simp <;> omega), World.cell?_alloc_at _ _ _ _ (by simp)]; rfl) | (rw [World.cell?_alloc_past _ _ _ (by simp <;> omega), World.cell?_alloc_past _ _ _ (by simp <;> omega), World.cell?_alloc_at _ _ _ _ (by simp)]; rfl)
    have sp3 : (((w.alloc (.cells #[.string p.id, .int .i64 p.prio, .bool p.crit, .int .i64 p.r0, .int .i64 p.r1, .int .i64 p.r2, .int .i64 p.l0, .int .i64 p.l1, .int .i64 p.l2, .string p.img, .int .i64 p.size] 62)).alloc (.cells #[.string q.id, .int .i64 q.prio, .bool q.crit, .int .i64 q.r0, .int .i64 q.r1, .int .i64 q.r2, .int .i64 q.l0, .int .i64 q.l1, .int .i64 q.l2, .string q.img, .int .i64 q.size] 62)).alloc (.cells #[.int .i64 t, .int .i64 x0, .int .i64 x1, .int .i64 x2, .slice a U.length cap] 32)).cell? ⟨w.heap.size + 2, 3, none⟩ = some (.int .i64 x2) := by first | (simp; done) | (rw [World.cell?_alloc_at _ _ _ _ (by simp)]; rfl) | (rw [World.cell?_alloc_past _ _ _ (by simp <;> omega), World.cell?_alloc_at _ _ _ _ (by simp)]; rfl) | (rw [World.cell?_alloc_past _ _ _ (by simp <;> omega), World.cell?_alloc_past _ _ _ (by simp <;> omega), World.cell?_alloc_at _ _ _ _ (by simp)]; rfl)
    have sp4 : (((w.alloc (.cells #[.string p.id, .int .i64 p.prio, .bool p.crit, .int .i64 p.r0, .int .i64 p.r1, .int .i64 p.r2, .int .i64 p.l0, .int .i64 p.l1, .int .i64 p.l2, .string p.img, .int .i64 p.size] 62)).alloc (.cells #[.string q.id, .int .i64 q.prio, .bool q.crit, .int .i64 q.r0, .int .i64 q.r1, .int .i64 q.r2, .int .i64 q.l0, .int .i64 q.l1, .int .i64 q.l2, .string q.img, .int .i64 q.size] 62)).alloc (.cells #[.int .i64 t, .int .i64 x0, .int .i64 x1, .int .i64 x2, .slice a U.length cap] 32)).cell? ⟨w.heap.size + 2, 4, none⟩ = some (.slice a U.length cap) := by first | (simp; done) | (rw [World.cell?_alloc_at _ _ _ _ (by simp)]; rfl) | (rw [World.cell?_alloc_past _ _ _ (by simp <;> omega), World.cell?_alloc_at _ _ _ _ (by simp)]; rfl) | (rw [World.cell?_alloc_past _ _ _ (by simp <;> omega), World.cell?_alloc_past _ _ _ (by simp <;> omega), World.cell?_alloc_at _ _ _ _ (by simp)]; rfl)
    have hb2 := (by repeat (first | exact hbel | refine belAlloc ?_ _ | refine belDrew ?_ | refine belSet ?_ _ _ (by simp)) : Below w.heap.size w (((w.alloc (.cells #[.string p.id, .int .i64 p.prio, .bool p.crit, .int .i64 p.r0, .int .i64 p.r1, .int .i64 p.r2, .int .i64 p.l0, .int .i64 p.l1, .int .i64 p.l2, .string p.img, .int .i64 p.size] 62)).alloc (.cells #[.string q.id, .int .i64 q.prio, .bool q.crit, .int .i64 q.r0, .int .i64 q.r1, .int .i64 q.r2, .int .i64 q.l0, .int .i64 q.l1, .int .i64 q.l2, .string q.img, .int .i64 q.size] 62)).alloc (.cells #[.int .i64 t, .int .i64 x0, .int .i64 x1, .int .i64 x2, .slice a U.length cap] 32)))
    replace hw := belStep hw hb2
    clear hb2 hbel
    generalize ((w.alloc (.cells #[.string p.id, .int .i64 p.prio, .bool p.crit, .int .i64 p.r0, .int .i64 p.r1, .int .i64 p.r2, .int .i64 p.l0, .int .i64 p.l1, .int .i64 p.l2, .string p.img, .int .i64 p.size] 62)).alloc (.cells #[.string q.id, .int .i64 q.prio, .bool q.crit, .int .i64 q.r0, .int .i64 q.r1, .int .i64 q.r2, .int .i64 q.l0, .int .i64 q.l1, .int .i64 q.l2, .string q.img, .int .i64 q.size] 62)).alloc (.cells #[.int .i64 t, .int .i64 x0, .int .i64 x1, .int .i64 x2, .slice a U.length cap] 32) = W1 at *
    replace pp0 := keep pp0
    replace pp1 := keep pp1
    replace pp2 := keep pp2
    replace pp3 := keep pp3
    replace pp4 := keep pp4
    replace pp5 := keep pp5
    replace pp6 := keep pp6
    replace pp7 := keep pp7
    replace pp8 := keep pp8
    replace pp9 := keep pp9
    replace pp10 := keep pp10
    replace qq0 := keep qq0
    replace qq1 := keep qq1
    replace qq2 := keep qq2
    replace qq3 := keep qq3
    replace qq4 := keep qq4
    replace qq5 := keep qq5
    replace qq6 := keep qq6
    replace qq7 := keep qq7
    replace qq8 := keep qq8
    replace qq9 := keep qq9
    replace qq10 := keep qq10
    replace sp0 := keep sp0
    replace sp1 := keep sp1
    replace sp2 := keep sp2
    replace sp3 := keep sp3
    replace sp4 := keep sp4
    have hbel : Below W1.heap.size W1 W1 := Below.refl _ _
    skip
    have hix := HIXp.out
    have hsub := HSUBp.out
    clear hbel
    refine wp_region_held_drew (S := (fun u => Below W1.heap.size W1 u)) (by kernel_rfl) (by exact (show Below W1.heap.size W1 _ from by repeat (first | assumption | exact Below.refl _ _ | refine belDrew ?_ | refine belAlloc ?_ _ | refine belStep ?_ (by assumption)))) (fun hHeld => ?_)
    refine wpAnyH_take (i := 0) (oi := ?oi_45) (v := ?v_45) ?hi_45 (by kernel_rfl) ?hf_45 ?hr_45 ?hQ_45 (Or.inl ⟨?hw_45, ?hy_45⟩) (by assumption) ?rest_45
    case hi_45 => ((simp only [List.getElem?_toArray, List.getElem?_cons_succ, List.getElem?_cons_zero]); rfl)
    case hf_45 => kernel_rfl
    case hr_45 => kernel_rfl
    case hQ_45 => exact fun _ _ _ h => h
    case hw_45 => rfl
    case hy_45 => ((intro w hSw; (try dsimp only at hSw); go_simp); all_goals (with_reducible rfl))
    try simp only [Act.put, List.setIfInBounds_toArray, List.set_cons_zero, List.set_cons_succ]
    refine wpAnyH_take (i := 1) (oi := ?oi_46) (v := ?v_46) ?hi_46 (by kernel_rfl) ?hf_46 ?hr_46 ?hQ_46 (Or.inl ⟨?hw_46, ?hy_46⟩) (by assumption) ?rest_46
    case hi_46 => ((simp only [List.getElem?_toArray, List.getElem?_cons_succ, List.getElem?_cons_zero]); rfl)
    case hf_46 => kernel_rfl
    case hr_46 => kernel_rfl
    case hQ_46 => exact fun _ _ _ h => h
    case hw_46 => rfl
    case hy_46 => ((intro w hSw; (try dsimp only at hSw); go_simp); all_goals (with_reducible rfl))
    try simp only [Act.put, List.setIfInBounds_toArray, List.set_cons_zero, List.set_cons_succ]
    refine wpAnyH_take (i := 2) (oi := ?oi_47) (v := ?v_47) ?hi_47 (by kernel_rfl) ?hf_47 ?hr_47 ?hQ_47 (Or.inl ⟨?hw_47, ?hy_47⟩) (by assumption) ?rest_47
    case hi_47 => ((simp only [List.getElem?_toArray, List.getElem?_cons_succ, List.getElem?_cons_zero]); rfl)
    case hf_47 => kernel_rfl
    case hr_47 => kernel_rfl
    case hQ_47 => exact fun _ _ _ h => h
    case hw_47 => rfl
    case hy_47 => ((intro w hSw; (try dsimp only at hSw); go_simp); all_goals (with_reducible rfl))
    try simp only [Act.put, List.setIfInBounds_toArray, List.set_cons_zero, List.set_cons_succ]
    refine wpAnyH_take (i := 4) (oi := ?oi_48) (v := ?v_48) ?hi_48 (by kernel_rfl) ?hf_48 ?hr_48 ?hQ_48 (Or.inl ⟨?hw_48, ?hy_48⟩) (by assumption) ?rest_48
    case hi_48 => ((simp only [List.getElem?_toArray, List.getElem?_cons_succ, List.getElem?_cons_zero]); rfl)
    case hf_48 => kernel_rfl
    case hr_48 => kernel_rfl
    case hQ_48 => exact fun _ _ _ h => h
    case hw_48 => rfl
    case hy_48 => ((intro w hSw; (try dsimp only at hSw); go_simp); all_goals (with_reducible rfl))
    try simp only [Act.put, List.setIfInBounds_toArray, List.set_cons_zero, List.set_cons_succ]
    refine wpAnyH_take (i := 6) (oi := ?oi_49) (v := ?v_49) ?hi_49 (by kernel_rfl) ?hf_49 ?hr_49 ?hQ_49 (Or.inl ⟨?hw_49, ?hy_49⟩) (by assumption) ?rest_49
    case hi_49 => ((simp only [List.getElem?_toArray, List.getElem?_cons_succ, List.getElem?_cons_zero]); rfl)
    case hf_49 => kernel_rfl
    case hr_49 => kernel_rfl
    case hQ_49 => exact fun _ _ _ h => h
    case hw_49 => rfl
    case hy_49 => ((intro w hSw; (try dsimp only at hSw); go_simp); all_goals (with_reducible rfl))
    try simp only [Act.put, List.setIfInBounds_toArray, List.set_cons_zero, List.set_cons_succ]
    refine wpAnyH_take (i := 7) (oi := ?oi_50) (v := ?v_50) ?hi_50 (by kernel_rfl) ?hf_50 ?hr_50 ?hQ_50 (Or.inl ⟨?hw_50, ?hy_50⟩) (by assumption) ?rest_50
    case hi_50 => ((simp only [List.getElem?_toArray, List.getElem?_cons_succ, List.getElem?_cons_zero]); rfl)
    case hf_50 => kernel_rfl
    case hr_50 => kernel_rfl
    case hQ_50 => exact fun _ _ _ h => h
    case hw_50 => rfl
    case hy_50 => ((intro w hSw; (try dsimp only at hSw); go_simp); all_goals (with_reducible rfl))
    try simp only [Act.put, List.setIfInBounds_toArray, List.set_cons_zero, List.set_cons_succ]
    refine wpAnyH_ready (rs := [3]) (by kernel_rfl) (by simp) ?_
    refine AllReadyH.cons (o := ?o1_51) ?hi_51 (fun K hK => ?rest_51) AllReadyH.nil
    case hi_51 => ((simp only [List.getElem?_toArray, List.getElem?_cons_succ, List.getElem?_cons_zero]); rfl)
    go_simp
    (first | (go_at_call 26; (with_reducible refine (COp.out _ (belStep hw hHeld)).mono ?_); rintro e wq ⟨rfl, hbq⟩) | (go_at_call 40; (with_reducible refine (CAp.out _).mono ?_); rintro e wq ⟨rfl, hbq⟩))
    try go_simp
    refine hK.out _ _ (by exact (show Below W1.heap.size W1 _ from by repeat (first | assumption | exact Below.refl _ _ | refine belDrew ?_ | refine belAlloc ?_ _ | refine belStep ?_ (by assumption)))) (fun hHeld => ?_)
    clear hK K
    try simp only [Act.put, List.setIfInBounds_toArray, List.set_cons_zero, List.set_cons_succ]
    refine wpAnyH_take (i := 5) (oi := ?oi_52) (v := ?v_52) ?hi_52 (by kernel_rfl) ?hf_52 ?hr_52 ?hQ_52 (Or.inl ⟨?hw_52, ?hy_52⟩) (by assumption) ?rest_52
    case hi_52 => ((simp only [List.getElem?_toArray, List.getElem?_cons_succ, List.getElem?_cons_zero]); rfl)
    case hf_52 => kernel_rfl
    case hr_52 => kernel_rfl
    case hQ_52 => exact fun _ _ _ h => h
    case hw_52 => rfl
    case hy_52 => ((intro w hSw; (try dsimp only at hSw); go_simp); all_goals (with_reducible rfl))
    try simp only [Act.put, List.setIfInBounds_toArray, List.set_cons_zero, List.set_cons_succ]
    refine wpAnyH_ready (rs := [8]) (by kernel_rfl) (by simp) ?_
    refine AllReadyH.cons (o := ?o1_53) ?hi_53 (fun K hK => ?rest_53) AllReadyH.nil
    case hi_53 => ((simp only [List.getElem?_toArray, List.getElem?_cons_succ, List.getElem?_cons_zero]); rfl)
    go_simp
    (first | (go_at_call 26; (with_reducible refine (COp.out _ (belStep hw hHeld)).mono ?_); rintro e wq ⟨rfl, hbq⟩) | (go_at_call 40; (with_reducible refine (CAp.out _).mono ?_); rintro e wq ⟨rfl, hbq⟩))
    try go_simp
    refine hK.out _ _ (by exact (show Below W1.heap.size W1 _ from by repeat (first | assumption | exact Below.refl _ _ | refine belDrew ?_ | refine belAlloc ?_ _ | refine belStep ?_ (by assumption)))) (fun hHeld => ?_)
    clear hK K
    try simp only [Act.put, List.setIfInBounds_toArray, List.set_cons_zero, List.set_cons_succ]
    refine wpAnyH_take (i := 9) (oi := ?oi_54) (v := ?v_54) ?hi_54 (by kernel_rfl) ?hf_54 ?hr_54 ?hQ_54 (Or.inl ⟨?hw_54, ?hy_54⟩) (by assumption) ?rest_54
    case hi_54 => ((simp only [List.getElem?_toArray, List.getElem?_cons_succ, List.getElem?_cons_zero]); rfl)
    case hf_54 => kernel_rfl
    case hr_54 => kernel_rfl
    case hQ_54 => exact fun _ _ _ h => h
    case hw_54 => rfl
    case hy_54 => ((intro w hSw; (try dsimp only at hSw); go_simp); all_goals (with_reducible rfl))
    try simp only [Act.put, List.setIfInBounds_toArray, List.set_cons_zero, List.set_cons_succ]
    refine wpAnyH_take (i := 10) (oi := ?oi_55) (v := ?v_55) ?hi_55 (by kernel_rfl) ?hf_55 ?hr_55 ?hQ_55 (Or.inl ⟨?hw_55, ?hy_55⟩) (by assumption) ?rest_55
    case hi_55 => ((simp only [List.getElem?_toArray, List.getElem?_cons_succ, List.getElem?_cons_zero]); rfl)
    case hf_55 => kernel_rfl
    case hr_55 => kernel_rfl
    case hQ_55 => exact fun _ _ _ h => h
    case hw_55 => rfl
    case hy_55 => ((intro w hSw; (try dsimp only at hSw); go_simp); all_goals (with_reducible rfl))
    try simp only [Act.put, List.setIfInBounds_toArray, List.set_cons_zero, List.set_cons_succ]
    refine wpAnyH_done (by kernel_rfl) ?_ _
    have hbel := hHeld
    clear hHeld hix hsub
    go_upto_region 2 with fail
    have hix := HIXq.out
    have hsub := HSUBq.out
    refine wp_region_held_drew (S := (fun u => Below W1.heap.size W1 u)) (by kernel_rfl) (by exact (show Below W1.heap.size W1 _ from by repeat (first | assumption | exact Below.refl _ _ | refine belDrew ?_ | refine belAlloc ?_ _ | refine belStep ?_ (by assumption)))) (fun hHeld => ?_)
    refine wpAnyH_take (i := 0) (oi := ?oi_56) (v := ?v_56) ?hi_56 (by kernel_rfl) ?hf_56 ?hr_56 ?hQ_56 (Or.inl ⟨?hw_56, ?hy_56⟩) (by assumption) ?rest_56
    case hi_56 => ((simp only [List.getElem?_toArray, List.getElem?_cons_succ, List.getElem?_cons_zero]); rfl)
    case hf_56 => kernel_rfl
    case hr_56 => kernel_rfl
    case hQ_56 => exact fun _ _ _ h => h
    case hw_56 => rfl
    case hy_56 => ((intro w hSw; (try dsimp only at hSw); go_simp); all_goals (with_reducible rfl))
    try simp only [Act.put, List.setIfInBounds_toArray, List.set_cons_zero, List.set_cons_succ]
    refine wpAnyH_take (i := 1) (oi := ?oi_57) (v := ?v_57) ?hi_57 (by kernel_rfl) ?hf_57 ?hr_57 ?hQ_57 (Or.inl ⟨?hw_57, ?hy_57⟩) (by assumption) ?rest_57
    case hi_57 => ((simp only [List.getElem?_toArray, List.getElem?_cons_succ, List.getElem?_cons_zero]); rfl)
    case hf_57 => kernel_rfl
    case hr_57 => kernel_rfl
    case hQ_57 => exact fun _ _ _ h => h
    case hw_57 => rfl
    case hy_57 => ((intro w hSw; (try dsimp only at hSw); go_simp); all_goals (with_reducible rfl))
    try simp only [Act.put, List.setIfInBounds_toArray, List.set_cons_zero, List.set_cons_succ]
    refine wpAnyH_take (i := 2) (oi := ?oi_58) (v := ?v_58) ?hi_58 (by kernel_rfl) ?hf_58 ?hr_58 ?hQ_58 (Or.inl ⟨?hw_58, ?hy_58⟩) (by assumption) ?rest_58
    case hi_58 => ((simp only [List.getElem?_toArray, List.getElem?_cons_succ, List.getElem?_cons_zero]); rfl)
    case hf_58 => kernel_rfl
    case hr_58 => kernel_rfl
    case hQ_58 => exact fun _ _ _ h => h
    case hw_58 => rfl
    case hy_58 => ((intro w hSw; (try dsimp only at hSw); go_simp); all_goals (with_reducible rfl))
    try simp only [Act.put, List.setIfInBounds_toArray, List.set_cons_zero, List.set_cons_succ]
    refine wpAnyH_take (i := 4) (oi := ?oi_59) (v := ?v_59) ?hi_59 (by kernel_rfl) ?hf_59 ?hr_59 ?hQ_59 (Or.inl ⟨?hw_59, ?hy_59⟩) (by assumption) ?rest_59
    case hi_59 => ((simp only [List.getElem?_toArray, List.getElem?_cons_succ, List.getElem?_cons_zero]); rfl)
    case hf_59 => kernel_rfl
    case hr_59 => kernel_rfl
    case hQ_59 => exact fun _ _ _ h => h
    case hw_59 => rfl
    case hy_59 => ((intro w hSw; (try dsimp only at hSw); go_simp); all_goals (with_reducible rfl))
    try simp only [Act.put, List.setIfInBounds_toArray, List.set_cons_zero, List.set_cons_succ]
    refine wpAnyH_take (i := 6) (oi := ?oi_60) (v := ?v_60) ?hi_60 (by kernel_rfl) ?hf_60 ?hr_60 ?hQ_60 (Or.inl ⟨?hw_60, ?hy_60⟩) (by assumption) ?rest_60
    case hi_60 => ((simp only [List.getElem?_toArray, List.getElem?_cons_succ, List.getElem?_cons_zero]); rfl)
    case hf_60 => kernel_rfl
    case hr_60 => kernel_rfl
    case hQ_60 => exact fun _ _ _ h => h
    case hw_60 => rfl
    case hy_60 => ((intro w hSw; (try dsimp only at hSw); go_simp); all_goals (with_reducible rfl))
    try simp only [Act.put, List.setIfInBounds_toArray, List.set_cons_zero, List.set_cons_succ]
    refine wpAnyH_take (i := 7) (oi := ?oi_61) (v := ?v_61) ?hi_61 (by kernel_rfl) ?hf_61 ?hr_61 ?hQ_61 (Or.inl ⟨?hw_61, ?hy_61⟩) (by assumption) ?rest_61
    case hi_61 => ((simp only [List.getElem?_toArray, List.getElem?_cons_succ, List.getElem?_cons_zero]); rfl)
    case hf_61 => kernel_rfl
    case hr_61 => kernel_rfl
    case hQ_61 => exact fun _ _ _ h => h
    case hw_61 => rfl
    case hy_61 => ((intro w hSw; (try dsimp only at hSw); go_simp); all_goals (with_reducible rfl))
    try simp only [Act.put, List.setIfInBounds_toArray, List.set_cons_zero, List.set_cons_succ]
    refine wpAnyH_ready (rs := [3]) (by kernel_rfl) (by simp) ?_
    refine AllReadyH.cons (o := ?o1_62) ?hi_62 (fun K hK => ?rest_62) AllReadyH.nil
    case hi_62 => ((simp only [List.getElem?_toArray, List.getElem?_cons_succ, List.getElem?_cons_zero]); rfl)
    go_simp
    (first | (go_at_call 26; (with_reducible refine (COq.out _ (belStep hw hHeld)).mono ?_); rintro e wq ⟨rfl, hbq⟩) | (go_at_call 40; (with_reducible refine (CAq.out _).mono ?_); rintro e wq ⟨rfl, hbq⟩))
    try go_simp
    refine hK.out _ _ (by exact (show Below W1.heap.size W1 _ from by repeat (first | assumption | exact Below.refl _ _ | refine belDrew ?_ | refine belAlloc ?_ _ | refine belStep ?_ (by assumption)))) (fun hHeld => ?_)
    clear hK K
    try simp only [Act.put, List.setIfInBounds_toArray, List.set_cons_zero, List.set_cons_succ]
    refine wpAnyH_take (i := 5) (oi := ?oi_63) (v := ?v_63) ?hi_63 (by kernel_rfl) ?hf_63 ?hr_63 ?hQ_63 (Or.inl ⟨?hw_63, ?hy_63⟩) (by assumption) ?rest_63
    case hi_63 => ((simp only [List.getElem?_toArray, List.getElem?_cons_succ, List.getElem?_cons_zero]); rfl)
    case hf_63 => kernel_rfl
    case hr_63 => kernel_rfl
    case hQ_63 => exact fun _ _ _ h => h
    case hw_63 => rfl
    case hy_63 => ((intro w hSw; (try dsimp only at hSw); go_simp); all_goals (with_reducible rfl))
    try simp only [Act.put, List.setIfInBounds_toArray, List.set_cons_zero, List.set_cons_succ]
    refine wpAnyH_ready (rs := [8]) (by kernel_rfl) (by simp) ?_
    refine AllReadyH.cons (o := ?o1_64) ?hi_64 (fun K hK => ?rest_64) AllReadyH.nil
    case hi_64 => ((simp only [List.getElem?_toArray, List.getElem?_cons_succ, List.getElem?_cons_zero]); rfl)
    go_simp
    (first | (go_at_call 26; (with_reducible refine (COq.out _ (belStep hw hHeld)).mono ?_); rintro e wq ⟨rfl, hbq⟩) | (go_at_call 40; (with_reducible refine (CAq.out _).mono ?_); rintro e wq ⟨rfl, hbq⟩))
    try go_simp
    refine hK.out _ _ (by exact (show Below W1.heap.size W1 _ from by repeat (first | assumption | exact Below.refl _ _ | refine belDrew ?_ | refine belAlloc ?_ _ | refine belStep ?_ (by assumption)))) (fun hHeld => ?_)
    clear hK K
    try simp only [Act.put, List.setIfInBounds_toArray, List.set_cons_zero, List.set_cons_succ]
    refine wpAnyH_take (i := 9) (oi := ?oi_65) (v := ?v_65) ?hi_65 (by kernel_rfl) ?hf_65 ?hr_65 ?hQ_65 (Or.inl ⟨?hw_65, ?hy_65⟩) (by assumption) ?rest_65
    case hi_65 => ((simp only [List.getElem?_toArray, List.getElem?_cons_succ, List.getElem?_cons_zero]); rfl)
    case hf_65 => kernel_rfl
    case hr_65 => kernel_rfl
    case hQ_65 => exact fun _ _ _ h => h
    case hw_65 => rfl
    case hy_65 => ((intro w hSw; (try dsimp only at hSw); go_simp); all_goals (with_reducible rfl))
    try simp only [Act.put, List.setIfInBounds_toArray, List.set_cons_zero, List.set_cons_succ]
    refine wpAnyH_take (i := 10) (oi := ?oi_66) (v := ?v_66) ?hi_66 (by kernel_rfl) ?hf_66 ?hr_66 ?hQ_66 (Or.inl ⟨?hw_66, ?hy_66⟩) (by assumption) ?rest_66
    case hi_66 => ((simp only [List.getElem?_toArray, List.getElem?_cons_succ, List.getElem?_cons_zero]); rfl)
    case hf_66 => kernel_rfl
    case hr_66 => kernel_rfl
    case hQ_66 => exact fun _ _ _ h => h
    case hw_66 => rfl
    case hy_66 => ((intro w hSw; (try dsimp only at hSw); go_simp); all_goals (with_reducible rfl))
    try simp only [Act.put, List.setIfInBounds_toArray, List.set_cons_zero, List.set_cons_succ]
    refine wpAnyH_done (by kernel_rfl) ?_ _
    have hbel := hHeld
    clear hHeld hix hsub
    obtain ⟨X, hX⟩ : ∃ X, up - ap = X := ⟨_, rfl⟩
    obtain ⟨Y, hY⟩ : ∃ Y, uq - aq = Y := ⟨_, rfl⟩
    have K2 := KEY.out
    rw [hX, hY] at K2
    simp only [hX, hY]
    clear hX hY KEY
    rcases K2 with ⟨k1, k2, k3⟩ | ⟨k1, k2, k3⟩ | ⟨kk, k4⟩
    · have HV := Lib.hid k3
      clear k3
      go_wp2
      go_ret
      exact ⟨ret_bool (by rw [HV.out]), belStep hw hbel⟩
    · have HV := Lib.hid k3
      clear k3
      go_wp2
      go_ret
      exact ⟨ret_bool (by rw [HV.out]), belStep hw hbel⟩
    · rcases k4 with ⟨k5, k6⟩ | ⟨k5, ⟨k6, k7⟩ | ⟨k6, k7⟩⟩
      · have t1 : (p.prio != q.prio) = true := by simpa using k5
        have t2 : (p.prio == q.prio) = false := by simpa using k5
        clear k5
        rcases kk with ⟨k1, k2⟩ | ⟨k1, k2⟩
        all_goals
          have HV := Lib.hid k6
          clear k6
          go_wp2
          go_ret
          exact ⟨ret_bool (by rw [HV.out]), belStep hw hbel⟩
      · have t1 : (X != Y) = true := by simpa using k6
        have t2 : (X == Y) = false := by simpa using k6
        have t3 : (p.prio != q.prio) = false := by simpa using k5
        have t4 : (p.prio == q.prio) = true := by simpa using k5
        clear k5 k6
        rcases kk with ⟨k1, k2⟩ | ⟨k1, k2⟩
        all_goals
          have HV := Lib.hid k7
          clear k7
          go_wp2
          go_ret
          exact ⟨ret_bool (by rw [HV.out]), belStep hw hbel⟩
      · subst k6
        have t3 : (p.prio != q.prio) = false := by simpa using k5
        have t4 : (p.prio == q.prio) = true := by simpa using k5
        clear k5
        rcases kk with ⟨k1, k2⟩ | ⟨k1, k2⟩
        all_goals
          have HV := Lib.hid k7
          clear k7
          go_wp2
          go_ret
          exact ⟨ret_bool (by rw [HV.out]), belStep hw hbel⟩
end Go.Proofs.Ytcgpmihjodolmaa
