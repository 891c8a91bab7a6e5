
/- pod.numbers, pod.Put: contracts. -/
import Derived.Test.YtpmkhimmlpnbpaaPodMath
namespace Go.Proofs.Ytpmkhimmlpnbpaa
open Go.RowKit
set_option linter.unusedVariables false
set_option linter.unusedSimpArgs false

theorem info_u8 : (Try.prog.info? 5).map (fun i => (i.zero, i.size, i.bytes)) = some (some (.int .u8 0), 1, 1) := by kernel_rfl
set_option maxRecDepth 100000 in
set_option maxHeartbeats 4000000 in
theorem pod_numbers (M : Nat) (w : World) :
    Calls Try.prog 50 #[.pointer (some ⟨M, 0, none⟩)] w fun e w' => ∃ g, e = .returned (.slice (some ⟨g, 0, none⟩) 8 8) ∧ w.heap.size ≤ g ∧ Blk w' g (ptrs M) 88 ∧ Below w.heap.size w w' := by
  go_enter Try.func50, Try.ntmps50
  go_wp2
  go_still_tail 30, (by kernel_rfl)
  change wpList _ _ _ _ _ (w.drewN 1)
  have hb : Below w.heap.size w (w.drewN 1) := belDrewN (Below.refl _ _) 1
  have hz : w.heap.size = (w.drewN 1).heap.size := rfl
  generalize w.drewN 1 = W1 at *
  have HZ := Lib.hid hz
  clear hz
  go_wp2
  go_ret
  exact ⟨_, rfl, by rw [HZ.out]; exact Nat.le_refl _, Blk.new W1 (ptrs M) 88, hb.trans ((belAlloc (Below.refl _ _) _ : Below W1.heap.size W1 _).mono (by rw [HZ.out]; exact Nat.le_refl _))⟩

set_option maxRecDepth 100000 in
set_option maxHeartbeats 2000000 in
theorem pod_Put_no (p : PodV) (w : World) (hp : p.ok) (hr : rightB p = false) :
    Calls Try.prog 33 #[.agg #[.string p.id, .int .i64 p.prio, .bool p.crit, .int .i64 p.r0, .int .i64 p.r1, .int .i64 p.r2, .int .i64 p.l0, .int .i64 p.l1, .int .i64 p.l2, .string p.img, .int .i64 p.size]] w fun e w' => e = .returned (.tuple #[.slice none 0 0, .int .i64 1]) ∧ Below w.heap.size w w' := by
  have hw : Below w.heap.size w w := Below.refl _ _
  have hbel := hw
  have cr := fun v => pod_Right p v hp
  rw [hr] at cr
  have CR := Lib.hid cr
  clear cr hr
  go_enter Try.func33, Try.ntmps33
  go_upto_region 1 with fail
  have a0 : (w.alloc (.cells #[.string p.id, .int .i64 p.prio, .bool p.crit, .int .i64 p.r0, .int .i64 p.r1, .int .i64 p.r2, .int .i64 p.l0, .int .i64 p.l1, .int .i64 p.l2, .string p.img, .int .i64 p.size] 44)).cell? ⟨w.heap.size, 0, none⟩ = some (.string p.id) := by first | (simp; done) | (rw [World.cell?_alloc_at _ _ _ _ (by simp)]; rfl) | (rw [World.cell?_alloc_past _ _ _ (by simp <;> omega), World.cell?_alloc_at _ _ _ _ (by simp)]; rfl) | (rw [World.cell?_alloc_past _ _ _ (by simp <;> omega), World.cell?_alloc_past _ _ _ (by simp <;> omega), World.cell?_alloc_at _ _ _ _ (by simp)]; rfl)
  have a1 : (w.alloc (.cells #[.string p.id, .int .i64 p.prio, .bool p.crit, .int .i64 p.r0, .int .i64 p.r1, .int .i64 p.r2, .int .i64 p.l0, .int .i64 p.l1, .int .i64 p.l2, .string p.img, .int .i64 p.size] 44)).cell? ⟨w.heap.size, 1, none⟩ = some (.int .i64 p.prio) := by first | (simp; done) | (rw [World.cell?_alloc_at _ _ _ _ (by simp)]; rfl) | (rw [World.cell?_alloc_past _ _ _ (by simp <;> omega), World.cell?_alloc_at _ _ _ _ (by simp)]; rfl) | (rw [World.cell?_alloc_past _ _ _ (by simp <;> omega), World.cell?_alloc_past _ _ _ (by simp <;> omega), World.cell?_alloc_at _ _ _ _ (by simp)]; rfl)
  have a2 : (w.alloc (.cells #[.string p.id, .int .i64 p.prio, .bool p.crit, .int .i64 p.r0, .int .i64 p.r1, .int .i64 p.r2, .int .i64 p.l0, .int .i64 p.l1, .int .i64 p.l2, .string p.img, .int .i64 p.size] 44)).cell? ⟨w.heap.size, 2, none⟩ = some (.bool p.crit) := by first | (simp; done) | (rw [World.cell?_alloc_at _ _ _ _ (by simp)]; rfl) | (rw [World.cell?_alloc_past _ _ _ (by simp <;> omega), World.cell?_alloc_at _ _ _ _ (by simp)]; rfl) | (rw [World.cell?_alloc_past _ _ _ (by simp <;> omega), World.cell?_alloc_past _ _ _ (by simp <;> omega), World.cell?_alloc_at _ _ _ _ (by simp)]; rfl)
  have a3 : (w.alloc (.cells #[.string p.id, .int .i64 p.prio, .bool p.crit, .int .i64 p.r0, .int .i64 p.r1, .int .i64 p.r2, .int .i64 p.l0, .int .i64 p.l1, .int .i64 p.l2, .string p.img, .int .i64 p.size] 44)).cell? ⟨w.heap.size, 3, none⟩ = some (.int .i64 p.r0) := by first | (simp; done) | (rw [World.cell?_alloc_at _ _ _ _ (by simp)]; rfl) | (rw [World.cell?_alloc_past _ _ _ (by simp <;> omega), World.cell?_alloc_at _ _ _ _ (by simp)]; rfl) | (rw [World.cell?_alloc_past _ _ _ (by simp <;> omega), World.cell?_alloc_past _ _ _ (by simp <;> omega), World.cell?_alloc_at _ _ _ _ (by simp)]; rfl)
  have a4 : (w.alloc (.cells #[.string p.id, .int .i64 p.prio, .bool p.crit, .int .i64 p.r0, .int .i64 p.r1, .int .i64 p.r2, .int .i64 p.l0, .int .i64 p.l1, .int .i64 p.l2, .string p.img, .int .i64 p.size] 44)).cell? ⟨w.heap.size, 4, none⟩ = some (.int .i64 p.r1) := by first | (simp; done) | (rw [World.cell?_alloc_at _ _ _ _ (by simp)]; rfl) | (rw [World.cell?_alloc_past _ _ _ (by simp <;> omega), World.cell?_alloc_at _ _ _ _ (by simp)]; rfl) | (rw [World.cell?_alloc_past _ _ _ (by simp <;> omega), World.cell?_alloc_past _ _ _ (by simp <;> omega), World.cell?_alloc_at _ _ _ _ (by simp)]; rfl)
  have a5 : (w.alloc (.cells #[.string p.id, .int .i64 p.prio, .bool p.crit, .int .i64 p.r0, .int .i64 p.r1, .int .i64 p.r2, .int .i64 p.l0, .int .i64 p.l1, .int .i64 p.l2, .string p.img, .int .i64 p.size] 44)).cell? ⟨w.heap.size, 5, none⟩ = some (.int .i64 p.r2) := by first | (simp; done) | (rw [World.cell?_alloc_at _ _ _ _ (by simp)]; rfl) | (rw [World.cell?_alloc_past _ _ _ (by simp <;> omega), World.cell?_alloc_at _ _ _ _ (by simp)]; rfl) | (rw [World.cell?_alloc_past _ _ _ (by simp <;> omega), World.cell?_alloc_past _ _ _ (by simp <;> omega), World.cell?_alloc_at _ _ _ _ (by simp)]; rfl)
  have a6 : (w.alloc (.cells #[.string p.id, .int .i64 p.prio, .bool p.crit, .int .i64 p.r0, .int .i64 p.r1, .int .i64 p.r2, .int .i64 p.l0, .int .i64 p.l1, .int .i64 p.l2, .string p.img, .int .i64 p.size] 44)).cell? ⟨w.heap.size, 6, none⟩ = some (.int .i64 p.l0) := by first | (simp; done) | (rw [World.cell?_alloc_at _ _ _ _ (by simp)]; rfl) | (rw [World.cell?_alloc_past _ _ _ (by simp <;> omega), World.cell?_alloc_at _ _ _ _ (by simp)]; rfl) | (rw [World.cell?_alloc_past _ _ _ (by simp <;> omega), World.cell?_alloc_past _ _ _ (by simp <;> omega), World.cell?_alloc_at _ _ _ _ (by simp)]; rfl)
  have a7 : (w.alloc (.cells #[.string p.id, .int .i64 p.prio, .bool p.crit, .int .i64 p.r0, .int .i64 p.r1, .int .i64 p.r2, .int .i64 p.l0, .int .i64 p.l1, .int .i64 p.l2, .string p.img, .int .i64 p.size] 44)).cell? ⟨w.heap.size, 7, none⟩ = some (.int .i64 p.l1) := by first | (simp; done) | (rw [World.cell?_alloc_at _ _ _ _ (by simp)]; rfl) | (rw [World.cell?_alloc_past _ _ _ (by simp <;> omega), World.cell?_alloc_at _ _ _ _ (by simp)]; rfl) | (rw [World.cell?_alloc_past _ _ _ (by simp <;> omega), World.cell?_alloc_past _ _ _ (by simp <;> omega), World.cell?_alloc_at _ _ _ _ (by simp)]; rfl)
  have a8 : (w.alloc (.cells #[.string p.id, .int .i64 p.prio, .bool p.crit, .int .i64 p.r0, .int .i64 p.r1, .int .i64 p.r2, .int .i64 p.l0, .int .i64 p.l1, .int .i64 p.l2, .string p.img, .int .i64 p.size] 44)).cell? ⟨w.heap.size, 8, none⟩ = some (.int .i64 p.l2) := by first | (simp; done) | (rw [World.cell?_alloc_at _ _ _ _ (by simp)]; rfl) | (rw [World.cell?_alloc_past _ _ _ (by simp <;> omega), World.cell?_alloc_at _ _ _ _ (by simp)]; rfl) | (rw [World.cell?_alloc_past _ _ _ (by simp <;> omega), World.cell?_alloc_past _ _ _ (by simp <;> omega), World.cell?_alloc_at _ _ _ _ (by simp)]; rfl)
  have a9 : (w.alloc (.cells #[.string p.id, .int .i64 p.prio, .bool p.crit, .int .i64 p.r0, .int .i64 p.r1, .int .i64 p.r2, .int .i64 p.l0, .int .i64 p.l1, .int .i64 p.l2, .string p.img, .int .i64 p.size] 44)).cell? ⟨w.heap.size, 9, none⟩ = some (.string p.img) := by first | (simp; done) | (rw [World.cell?_alloc_at _ _ _ _ (by simp)]; rfl) | (rw [World.cell?_alloc_past _ _ _ (by simp <;> omega), World.cell?_alloc_at _ _ _ _ (by simp)]; rfl) | (rw [World.cell?_alloc_past _ _ _ (by simp <;> omega), World.cell?_alloc_past _ _ _ (by simp <;> omega), World.cell?_alloc_at _ _ _ _ (by simp)]; rfl)
  have a10 : (w.alloc (.cells #[.string p.id, .int .i64 p.prio, .bool p.crit, .int .i64 p.r0, .int .i64 p.r1, .int .i64 p.r2, .int .i64 p.l0, .int .i64 p.l1, .int .i64 p.l2, .string p.img, .int .i64 p.size] 44)).cell? ⟨w.heap.size, 10, none⟩ = some (.int .i64 p.size) := by first | (simp; done) | (rw [World.cell?_alloc_at _ _ _ _ (by simp)]; rfl) | (rw [World.cell?_alloc_past _ _ _ (by simp <;> omega), World.cell?_alloc_at _ _ _ _ (by simp)]; rfl) | (rw [World.cell?_alloc_past _ _ _ (by simp <;> omega), World.cell?_alloc_past _ _ _ (by simp <;> omega), World.cell?_alloc_at _ _ _ _ (by simp)]; rfl)
  have hb2 := (by repeat (first | exact hbel | refine belAlloc ?_ _ | refine belDrew ?_ | refine belSet ?_ _ _ (by simp)) : Below w.heap.size w (w.alloc (.cells #[.string p.id, .int .i64 p.prio, .bool p.crit, .int .i64 p.r0, .int .i64 p.r1, .int .i64 p.r2, .int .i64 p.l0, .int .i64 p.l1, .int .i64 p.l2, .string p.img, .int .i64 p.size] 44)))
  replace hw := belStep hw hb2
  clear hb2 hbel
  generalize w.alloc (.cells #[.string p.id, .int .i64 p.prio, .bool p.crit, .int .i64 p.r0, .int .i64 p.r1, .int .i64 p.r2, .int .i64 p.l0, .int .i64 p.l1, .int .i64 p.l2, .string p.img, .int .i64 p.size] 44) = W1 at *
  replace a0 := keep a0
  replace a1 := keep a1
  replace a2 := keep a2
  replace a3 := keep a3
  replace a4 := keep a4
  replace a5 := keep a5
  replace a6 := keep a6
  replace a7 := keep a7
  replace a8 := keep a8
  replace a9 := keep a9
  replace a10 := keep a10
  have hbel : Below W1.heap.size W1 W1 := Below.refl _ _
  skip
  go_wp2_with (go_at_call 34; (with_reducible refine (CR.out _).mono ?_); rintro e w2 ⟨rfl, hb2⟩; replace hbel := belStep hbel hb2; clear hb2)
  go_ret2
  exact ⟨rfl, belStep hw hbel⟩

set_option maxRecDepth 100000 in
set_option maxHeartbeats 8000000 in
theorem pod_Put (p : PodV) (w : World) (hp : p.ok) (hr : rightB p = true) :
    Calls Try.prog 33 #[.agg #[.string p.id, .int .i64 p.prio, .bool p.crit, .int .i64 p.r0, .int .i64 p.r1, .int .i64 p.r2, .int .i64 p.l0, .int .i64 p.l1, .int .i64 p.l2, .string p.img, .int .i64 p.size]] w fun e w' => ∃ v, e = .returned (.tuple #[v, .int .i64 0]) ∧ OwnI w' w.heap.size 5 .u8 v p.bytes ∧ Below w.heap.size w w' := by
  have hw : Below w.heap.size w w := Below.refl _ _
  have hbel := hw
  have hf := PodV.fine hr
  have cr := fun v => pod_Right p v hp
  rw [hr] at cr
  have CR := Lib.hid cr
  have HF := Lib.hid hf
  have hs1 := nameB_size hf.id
  have hs2 := nameB_size hf.img
  have hprio := hf.prio
  have HP := Lib.hid hp
  clear cr hr hp hf
  go_enter Try.func33, Try.ntmps33
  go_upto_region 1 with fail
  have a0 : (w.alloc (.cells #[.string p.id, .int .i64 p.prio, .bool p.crit, .int .i64 p.r0, .int .i64 p.r1, .int .i64 p.r2, .int .i64 p.l0, .int .i64 p.l1, .int .i64 p.l2, .string p.img, .int .i64 p.size] 44)).cell? ⟨w.heap.size, 0, none⟩ = some (.string p.id) := by first | (simp; done) | (rw [World.cell?_alloc_at _ _ _ _ (by simp)]; rfl) | (rw [World.cell?_alloc_past _ _ _ (by simp <;> omega), World.cell?_alloc_at _ _ _ _ (by simp)]; rfl) | (rw [World.cell?_alloc_past _ _ _ (by simp <;> omega), World.cell?_alloc_past _ _ _ (by simp <;> omega), World.cell?_alloc_at _ _ _ _ (by simp)]; rfl)
  have a1 : (w.alloc (.cells #[.string p.id, .int .i64 p.prio, .bool p.crit, .int .i64 p.r0, .int .i64 p.r1, .int .i64 p.r2, .int .i64 p.l0, .int .i64 p.l1, .int .i64 p.l2, .string p.img, .int .i64 p.size] 44)).cell? ⟨w.heap.size, 1, none⟩ = some (.int .i64 p.prio) := by first | (simp; done) | (rw [World.cell?_alloc_at _ _ _ _ (by simp)]; rfl) | (rw [World.cell?_alloc_past _ _ _ (by simp <;> omega), World.cell?_alloc_at _ _ _ _ (by simp)]; rfl) | (rw [World.cell?_alloc_past _ _ _ (by simp <;> omega), World.cell?_alloc_past _ _ _ (by simp <;> omega), World.cell?_alloc_at _ _ _ _ (by simp)]; rfl)
  have a2 : (w.alloc (.cells #[.string p.id, .int .i64 p.prio, .bool p.crit, .int .i64 p.r0, .int .i64 p.r1, .int .i64 p.r2, .int .i64 p.l0, .int .i64 p.l1, .int .i64 p.l2, .string p.img, .int .i64 p.size] 44)).cell? ⟨w.heap.size, 2, none⟩ = some (.bool p.crit) := by first | (simp; done) | (rw [World.cell?_alloc_at _ _ _ _ (by simp)]; rfl) | (rw [World.cell?_alloc_past _ _ _ (by simp <;> omega), World.cell?_alloc_at _ _ _ _ (by simp)]; rfl) | (rw [World.cell?_alloc_past _ _ _ (by simp <;> omega), World.cell?_alloc_past _ _ _ (by simp <;> omega), World.cell?_alloc_at _ _ _ _ (by simp)]; rfl)
  have a3 : (w.alloc (.cells #[.string p.id, .int .i64 p.prio, .bool p.crit, .int .i64 p.r0, .int .i64 p.r1, .int .i64 p.r2, .int .i64 p.l0, .int .i64 p.l1, .int .i64 p.l2, .string p.img, .int .i64 p.size] 44)).cell? ⟨w.heap.size, 3, none⟩ = some (.int .i64 p.r0) := by first | (simp; done) | (rw [World.cell?_alloc_at _ _ _ _ (by simp)]; rfl) | (rw [World.cell?_alloc_past _ _ _ (by simp <;> omega), World.cell?_alloc_at _ _ _ _ (by simp)]; rfl) | (rw [World.cell?_alloc_past _ _ _ (by simp <;> omega), World.cell?_alloc_past _ _ _ (by simp <;> omega), World.cell?_alloc_at _ _ _ _ (by simp)]; rfl)
  have a4 : (w.alloc (.cells #[.string p.id, .int .i64 p.prio, .bool p.crit, .int .i64 p.r0, .int .i64 p.r1, .int .i64 p.r2, .int .i64 p.l0, .int .i64 p.l1, .int .i64 p.l2, .string p.img, .int .i64 p.size] 44)).cell? ⟨w.heap.size, 4, none⟩ = some (.int .i64 p.r1) := by first | (simp; done) | (rw [World.cell?_alloc_at _ _ _ _ (by simp)]; rfl) | (rw [World.cell?_alloc_past _ _ _ (by simp <;> omega), World.cell?_alloc_at _ _ _ _ (by simp)]; rfl) | (rw [World.cell?_alloc_past _ _ _ (by simp <;> omega), World.cell?_alloc_past _ _ _ (by simp <;> omega), World.cell?_alloc_at _ _ _ _ (by simp)]; rfl)
  have a5 : (w.alloc (.cells #[.string p.id, .int .i64 p.prio, .bool p.crit, .int .i64 p.r0, .int .i64 p.r1, .int .i64 p.r2, .int .i64 p.l0, .int .i64 p.l1, .int .i64 p.l2, .string p.img, .int .i64 p.size] 44)).cell? ⟨w.heap.size, 5, none⟩ = some (.int .i64 p.r2) := by first | (simp; done) | (rw [World.cell?_alloc_at _ _ _ _ (by simp)]; rfl) | (rw [World.cell?_alloc_past _ _ _ (by simp <;> omega), World.cell?_alloc_at _ _ _ _ (by simp)]; rfl) | (rw [World.cell?_alloc_past _ _ _ (by simp <;> omega), World.cell?_alloc_past _ _ _ (by simp <;> omega), World.cell?_alloc_at _ _ _ _ (by simp)]; rfl)
  have a6 : (w.alloc (.cells #[.string p.id, .int .i64 p.prio, .bool p.crit, .int .i64 p.r0, .int .i64 p.r1, .int .i64 p.r2, .int .i64 p.l0, .int .i64 p.l1, .int .i64 p.l2, .string p.img, .int .i64 p.size] 44)).cell? ⟨w.heap.size, 6, none⟩ = some (.int .i64 p.l0) := by first | (simp; done) | (rw [World.cell?_alloc_at _ _ _ _ (by simp)]; rfl) | (rw [World.cell?_alloc_past _ _ _ (by simp <;> omega), World.cell?_alloc_at _ _ _ _ (by simp)]; rfl) | (rw [World.cell?_alloc_past _ _ _ (by simp <;> omega), World.cell?_alloc_past _ _ _ (by simp <;> omega), World.cell?_alloc_at _ _ _ _ (by simp)]; rfl)
  have a7 : (w.alloc (.cells #[.string p.id, .int .i64 p.prio, .bool p.crit, .int .i64 p.r0, .int .i64 p.r1, .int .i64 p.r2, .int .i64 p.l0, .int .i64 p.l1, .int .i64 p.l2, .string p.img, .int .i64 p.size] 44)).cell? ⟨w.heap.size, 7, none⟩ = some (.int .i64 p.l1) := by first | (simp; done) | (rw [World.cell?_alloc_at _ _ _ _ (by simp)]; rfl) | (rw [World.cell?_alloc_past _ _ _ (by simp <;> omega), World.cell?_alloc_at _ _ _ _ (by simp)]; rfl) | (rw [World.cell?_alloc_past _ _ _ (by simp <;> omega), World.cell?_alloc_past _ _ _ (by simp <;> omega), World.cell?_alloc_at _ _ _ _ (by simp)]; rfl)
  have a8 : (w.alloc (.cells #[.string p.id, .int .i64 p.prio, .bool p.crit, .int .i64 p.r0, .int .i64 p.r1, .int .i64 p.r2, .int .i64 p.l0, .int .i64 p.l1, .int .i64 p.l2, .string p.img, .int .i64 p.size] 44)).cell? ⟨w.heap.size, 8, none⟩ = some (.int .i64 p.l2) := by first | (simp; done) | (rw [World.cell?_alloc_at _ _ _ _ (by simp)]; rfl) | (rw [World.cell?_alloc_past _ _ _ (by simp <;> omega), World.cell?_alloc_at _ _ _ _ (by simp)]; rfl) | (rw [World.cell?_alloc_past _ _ _ (by simp <;> omega), World.cell?_alloc_past _ _ _ (by simp <;> omega), World.cell?_alloc_at _ _ _ _ (by simp)]; rfl)
  have a9 : (w.alloc (.cells #[.string p.id, .int .i64 p.prio, .bool p.crit, .int .i64 p.r0, .int .i64 p.r1, .int .i64 p.r2, .int .i64 p.l0, .int .i64 p.l1, .int .i64 p.l2, .string p.img, .int .i64 p.size] 44)).cell? ⟨w.heap.size, 9, none⟩ = some (.string p.img) := by first | (simp; done) | (rw [World.cell?_alloc_at _ _ _ _ (by simp)]; rfl) | (rw [World.cell?_alloc_past _ _ _ (by simp <;> omega), World.cell?_alloc_at _ _ _ _ (by simp)]; rfl) | (rw [World.cell?_alloc_past _ _ _ (by simp <;> omega), World.cell?_alloc_past _ _ _ (by simp <;> omega), World.cell?_alloc_at _ _ _ _ (by simp)]; rfl)
  have a10 : (w.alloc (.cells #[.string p.id, .int .i64 p.prio, .bool p.crit, .int .i64 p.r0, .int .i64 p.r1, .int .i64 p.r2, .int .i64 p.l0, .int .i64 p.l1, .int .i64 p.l2, .string p.img, .int .i64 p.size] 44)).cell? ⟨w.heap.size, 10, none⟩ = some (.int .i64 p.size) := by first | (simp; done) | (rw [World.cell?_alloc_at _ _ _ _ (by simp)]; rfl) | (rw [World.cell?_alloc_past _ _ _ (by simp <;> omega), World.cell?_alloc_at _ _ _ _ (by simp)]; rfl) | (rw [World.cell?_alloc_past _ _ _ (by simp <;> omega), World.cell?_alloc_past _ _ _ (by simp <;> omega), World.cell?_alloc_at _ _ _ _ (by simp)]; rfl)
  have hb2 := (by repeat (first | exact hbel | refine belAlloc ?_ _ | refine belDrew ?_ | refine belSet ?_ _ _ (by simp)) : Below w.heap.size w (w.alloc (.cells #[.string p.id, .int .i64 p.prio, .bool p.crit, .int .i64 p.r0, .int .i64 p.r1, .int .i64 p.r2, .int .i64 p.l0, .int .i64 p.l1, .int .i64 p.l2, .string p.img, .int .i64 p.size] 44)))
  replace hw := belStep hw hb2
  have aB : Blk (w.alloc (.cells #[.string p.id, .int .i64 p.prio, .bool p.crit, .int .i64 p.r0, .int .i64 p.r1, .int .i64 p.r2, .int .i64 p.l0, .int .i64 p.l1, .int .i64 p.l2, .string p.img, .int .i64 p.size] 44)) (w.heap.size) [.string p.id, .int .i64 p.prio, .bool p.crit, .int .i64 p.r0, .int .i64 p.r1, .int .i64 p.r2, .int .i64 p.l0, .int .i64 p.l1, .int .i64 p.l2, .string p.img, .int .i64 p.size] 44 := (Blk.at (by simp) : Blk (w.alloc (.cells #[.string p.id, .int .i64 p.prio, .bool p.crit, .int .i64 p.r0, .int .i64 p.r1, .int .i64 p.r2, .int .i64 p.l0, .int .i64 p.l1, .int .i64 p.l2, .string p.img, .int .i64 p.size] 44)) (w.heap.size) [.string p.id, .int .i64 p.prio, .bool p.crit, .int .i64 p.r0, .int .i64 p.r1, .int .i64 p.r2, .int .i64 p.l0, .int .i64 p.l1, .int .i64 p.l2, .string p.img, .int .i64 p.size] 44).later (by repeat (first | exact Below.refl _ _ | refine belAlloc ?_ _))
  have aF := Blk.keepF aB
  replace aB := Blk.keepB aB
  clear hb2 hbel
  generalize w.alloc (.cells #[.string p.id, .int .i64 p.prio, .bool p.crit, .int .i64 p.r0, .int .i64 p.r1, .int .i64 p.r2, .int .i64 p.l0, .int .i64 p.l1, .int .i64 p.l2, .string p.img, .int .i64 p.size] 44) = W1 at *
  replace a0 := keep a0
  replace a1 := keep a1
  replace a2 := keep a2
  replace a3 := keep a3
  replace a4 := keep a4
  replace a5 := keep a5
  replace a6 := keep a6
  replace a7 := keep a7
  replace a8 := keep a8
  replace a9 := keep a9
  replace a10 := keep a10
  have hbel : Below W1.heap.size W1 W1 := Below.refl _ _
  skip
  go_upto_region 4 with (go_at_call 34; (with_reducible refine (CR.out _).mono ?_); rintro e w2 ⟨rfl, hb2⟩; replace hbel := belStep hbel hb2; clear hb2)
  replace a0 := keepOnP a0 hbel
  replace a1 := keepOnP a1 hbel
  replace a2 := keepOnP a2 hbel
  replace a3 := keepOnP a3 hbel
  replace a4 := keepOnP a4 hbel
  replace a5 := keepOnP a5 hbel
  replace a6 := keepOnP a6 hbel
  replace a7 := keepOnP a7 hbel
  replace a8 := keepOnP a8 hbel
  replace a9 := keepOnP a9 hbel
  replace a10 := keepOnP a10 hbel
  replace aF := keepOnP aF hbel
  replace aB := keepOnP aB hbel
  replace hw := belStep hw hbel
  clear hbel
  generalize w2 = W2 at *
  have hbel : Below W2.heap.size W2 W2 := Below.refl _ _
  go_wp2
  have s0 : (W2.alloc (.cells #[.string p.id, .string p.img] 9)).cell? ⟨W2.heap.size, 0, none⟩ = some (.string p.id) := by first | (simp; done) | (rw [World.cell?_alloc_at _ _ _ _ (by simp)]; rfl) | (rw [World.cell?_alloc_past _ _ _ (by simp <;> omega), World.cell?_alloc_at _ _ _ _ (by simp)]; rfl) | (rw [World.cell?_alloc_past _ _ _ (by simp <;> omega), World.cell?_alloc_past _ _ _ (by simp <;> omega), World.cell?_alloc_at _ _ _ _ (by simp)]; rfl)
  have s1 : (W2.alloc (.cells #[.string p.id, .string p.img] 9)).cell? ⟨W2.heap.size, 1, none⟩ = some (.string p.img) := by first | (simp; done) | (rw [World.cell?_alloc_at _ _ _ _ (by simp)]; rfl) | (rw [World.cell?_alloc_past _ _ _ (by simp <;> omega), World.cell?_alloc_at _ _ _ _ (by simp)]; rfl) | (rw [World.cell?_alloc_past _ _ _ (by simp <;> omega), World.cell?_alloc_past _ _ _ (by simp <;> omega), World.cell?_alloc_at _ _ _ _ (by simp)]; rfl)
  have hb2 := (by repeat (first | exact hbel | refine belAlloc ?_ _ | refine belDrew ?_ | refine belSet ?_ _ _ (by simp)) : Below W2.heap.size W2 (W2.alloc (.cells #[.string p.id, .string p.img] 9)))
  replace a0 := keepOnP a0 hb2
  replace a1 := keepOnP a1 hb2
  replace a2 := keepOnP a2 hb2
  replace a3 := keepOnP a3 hb2
  replace a4 := keepOnP a4 hb2
  replace a5 := keepOnP a5 hb2
  replace a6 := keepOnP a6 hb2
  replace a7 := keepOnP a7 hb2
  replace a8 := keepOnP a8 hb2
  replace a9 := keepOnP a9 hb2
  replace a10 := keepOnP a10 hb2
  replace aF := keepOnP aF hb2
  replace aB := keepOnP aB hb2
  replace hw := belStep hw hb2
  clear hb2 hbel
  generalize W2.alloc (.cells #[.string p.id, .string p.img] 9) = W3 at *
  replace s0 := keep s0
  replace s1 := keep s1
  generalize W2.heap.size = S at *
  have hbel : Below W3.heap.size W3 W3 := Below.refl _ _
  skip
  have hBk := aB W3 hbel
  have hM3 : w.heap.size < W3.heap.size := hBk.lt
  have HBK := Lib.hid hBk
  clear a0 a2 a3 a4 a5 a6 a7 a8 a9 a10 aF aB hBk
  have hw3 : Below w.heap.size w W3 := hw
  clear hbel
  go_loopw [4, 19] (fun v i wr => ((i = .int .i64 0 ∧ OwnI wr W3.heap.size 5 .u8 v []) ∨ (i = .int .i64 1 ∧ OwnI wr W3.heap.size 5 .u8 v ([(p.id.size : Int)] ++ sbl p.id)) ∨ (i = .int .i64 2 ∧ OwnI wr W3.heap.size 5 .u8 v p.head)) ∧ Below W3.heap.size W3 wr) (fun _ i _ => 2 - (intOf i).toNat)
  case atStart => exact ⟨.inl ⟨rfl, OwnI.nil _ _ _ _⟩, Below.refl _ _⟩
  case round =>
    obtain ⟨h3, hbel⟩ := hrel
    rcases h3 with ⟨rfl, ho⟩ | ⟨rfl, ho⟩ | ⟨rfl, ho⟩
    · have HO := Lib.hid ho
      clear ho
      have hsz : W3.heap.size ≤ wr.heap.size := hbel.size
      go_wp2_with (first | (at_builtin; refine wpList_app_one rfl _ _ 28 rfl W3.heap.size 5 .u8 1 Try.underlying28 info_u8 _ _ rfl (HO.out.alloc (.cells #[.int .u8 (p.id.size : Int)] 5)) _ _ rfl (by simp; rfl) (by simp only [List.length_nil]; unfold maxLen; omega) (by simp only [List.length_nil]; omega) (by simp; omega) ?_; intro v4 w4 ho4 hb4 hg4 hm4; have hb34 := (belAlloc hbel _ : Below W3.heap.size W3 _).trans hb4; have HO4 := Lib.hid ho4; clear ho4 hb4 hg4 hm4) | (at_builtin; refine wpList_app_str rfl _ _ 28 9 rfl W3.heap.size 5 Try.underlying28 Try.underlying9 info_u8 _ _ rfl HO4.out p.id rfl (by simp; omega) hb34.size ?_; intro v5 w5 ho5 hb5 hg5; replace hb34 := hb34.trans hb5; have HO5 := Lib.hid ho5; clear ho5 hb5 hg5))
      go_roundw
      case rel => exact ⟨.inr (.inl ⟨rfl, by first | exact HO5.out | simpa using HO5.out⟩), hb34⟩
      case measure => simp [intOf]
    · have HO := Lib.hid ho
      clear ho
      have hsz : W3.heap.size ≤ wr.heap.size := hbel.size
      have E1 := Lib.hid (show ([(p.id.size : Int)] ++ sbl p.id).length = p.id.size + 1 by simp [sbl_len])
      have E2 := Lib.hid (show ([(p.id.size : Int)] ++ sbl p.id ++ [(p.img.size : Int)]).length = p.id.size + 2 by simp [sbl_len])
      go_wp2_with (first | (at_builtin; refine wpList_app_one rfl _ _ 28 rfl W3.heap.size 5 .u8 1 Try.underlying28 info_u8 _ _ rfl (HO.out.alloc (.cells #[.int .u8 (p.img.size : Int)] 5)) _ _ rfl (by simp; rfl) (by rw [E1.out]; unfold maxLen; omega) (by rw [E1.out]; omega) (by simp; omega) ?_; intro v4 w4 ho4 hb4 hg4 hm4; have hb34 := (belAlloc hbel _ : Below W3.heap.size W3 _).trans hb4; have HO4 := Lib.hid ho4; clear ho4 hb4 hg4 hm4) | (at_builtin; refine wpList_app_str rfl _ _ 28 9 rfl W3.heap.size 5 Try.underlying28 Try.underlying9 info_u8 _ _ rfl HO4.out p.img rfl (by rw [E2.out]; omega) hb34.size ?_; intro v5 w5 ho5 hb5 hg5; replace hb34 := hb34.trans hb5; have HO5 := Lib.hid ho5; clear ho5 hb5 hg5))
      go_roundw
      case rel => exact ⟨.inr (.inr ⟨rfl, by have := HO5.out; simp only [List.append_assoc] at this; exact this⟩), hb34⟩
      case measure => simp [intOf]
    · have hBr := HBK.out.below hbel hM3
      have x1 : wr.cell? ⟨w.heap.size, 1, none⟩ = some (.int .i64 p.prio) := hBr.cell rfl
      have f1 := hBr.frozen 1
      have hB4 := hBr.set 1 (.int .i64 (p.prio + 1073741824))
      have hO4 := ho.setFar (a := ⟨w.heap.size, 1, none⟩) hM3 (.int .i64 (p.prio + 1073741824))
      have hbw4 := (hw3.trans (hbel.mono (Nat.le_of_lt hM3))).setCell (p := ⟨w.heap.size, 1, none⟩) (Nat.le_refl _) (.int .i64 (p.prio + 1073741824))
      have hsz4 : (wr.setCell ⟨w.heap.size, 1, none⟩ (.int .i64 (p.prio + 1073741824))).heap.size = wr.heap.size := by simp
      have hs3 : W3.heap.size ≤ wr.heap.size := hbel.size
      have HB4 := Lib.hid hB4
      have HO4 := Lib.hid hO4
      have HW4 := Lib.hid hbw4
      have HZ4 := Lib.hid hsz4
      clear hBr hB4 hO4 hbw4 hsz4 ho s0 s1
      go_wp2_with (go_at_call 50; (with_reducible refine (pod_numbers _ _).mono ?_); rintro e w5 ⟨g, rfl, hg5, hbg, hb5⟩)
      have HP4 := Lib.hid (HB4.out.later hb5)
      have HO5 := Lib.hid (HO4.out.later hb5)
      have hg5' : wr.heap.size ≤ g := by rw [HZ4.out] at hg5; exact hg5
      have hne : u4.ownBlock ≠ some g := fun e => by have := (World.ownsRow.lt HO4.out g e).2; omega
      have hw5 := HW4.out.trans (hb5.mono (by rw [HZ4.out]; omega))
      have hs5 : W3.heap.size ≤ w5.heap.size := by have := hb5.size; rw [HZ4.out] at this; omega
      have HBG := Lib.hid hbg
      clear hb5 HB4 HO4 HW4 HZ4 hg5 hbg hbel x1 f1 hs3 HBK
      go_loopw [4, 39] (fun v i wr => ∃ m : Nat, m ≤ 8 ∧ i = .int .i64 m ∧ OwnI wr W3.heap.size 5 .u8 v (p.head ++ (p.nums.take m).flatMap W8) ∧ v.ownBlock ≠ some g ∧ Blk wr g (ptrs w.heap.size) 88 ∧ Blk wr w.heap.size p.raised 44 ∧ Below w.heap.size w wr ∧ W3.heap.size ≤ wr.heap.size ∧ g < wr.heap.size) (fun _ i _ => 8 - (intOf i).toNat)
      case atStart => exact ⟨0, by omega, rfl, by simpa using HO5.out, hne, HBG.out, HP4.out, hw5, hs5, HBG.out.lt⟩
      case round =>
        obtain ⟨m, hm, rfl, ho, hne, hbg, hbp, hbw, hsz, hgl⟩ := hrel
        by_cases hm8 : m < 8
        · obtain ⟨o, nv, q1, q2, q3, q4⟩ := ptr_case HP.out HF.out w.heap.size m hm8
          have x1 := hbg.cell q1
          have HNS := Lib.hid (nums_snoc q2)
          have HQ3 := Lib.hid q3
          have HO := Lib.hid ho
          have HBG2 := Lib.hid hbg
          have HBP := Lib.hid hbp
          have hl8 : (p.head ++ (p.nums.take m).flatMap W8).length ≤ 200 := by
            rw [List.length_append, PodV.head_len, flat8_len, List.length_take]
            have : p.nums.length = 8 := rfl
            omega
          obtain ⟨pre, epre⟩ : ∃ pre, p.head ++ (p.nums.take m).flatMap W8 = pre := ⟨_, rfl⟩
          rw [epre] at HO hl8
          have EP := Lib.hid epre
          clear ho hbg hbp q1 q2 q3 epre
          have hd8 : decide ((m : Int) < 8) = true := decide_eq_true (by omega)
          go_wp2
          obtain ⟨wo, rfl⟩ : ∃ wo : World, wo = wr := ⟨_, rfl⟩
          go_loopw [4, 9] (fun v i wr => ∃ j : Nat, ((∃ sh : Nat, sh + 8 * j = 56 ∧ j < 8 ∧ i = .int .i64 sh) ∨ (j = 8 ∧ i = .int .i64 (-8))) ∧ OwnI wr W3.heap.size 5 .u8 v (pre ++ (W8 nv).take j) ∧ v.ownBlock ≠ some g ∧ Blk wr g (ptrs w.heap.size) 88 ∧ Blk wr w.heap.size p.raised 44 ∧ Below w.heap.size w wr ∧ W3.heap.size ≤ wr.heap.size ∧ g < wr.heap.size) (fun _ i _ => (intOf i + 8).toNat)
          case atStart => exact ⟨0, .inl ⟨56, rfl, by omega, rfl⟩, by simpa using HO.out, hne, HBG2.out, HBP.out, hbw, hsz, hgl⟩
          case round =>
            clear hne hbw hsz hgl HO HBG2 HBP
            obtain ⟨j, hj, ho, hne, hbg, hbp, hbw, hsz, hgl⟩ := hrel
            rcases hj with ⟨sh, hsh, hj8, rfl⟩ | ⟨rfl, rfl⟩
            · have x2 := hbp.cell HQ3.out
              have hlen : (pre ++ (W8 nv).take j).length ≤ 208 := by rw [List.length_append, List.length_take]; omega
              have HT := Lib.hid (W8_take nv j hj8)
              have HO := Lib.hid ho
              have HBG2 := Lib.hid hbg
              have HBP := Lib.hid hbp
              have HNE := Lib.hid hne
              clear ho hbg hbp hne
              have hby : ((nv / 2 ^ (56 - 8 * j) % 256 : Nat) : Int) = (nv : Int) / 2 ^ sh % 256 := by rw [show 56 - 8 * j = sh by omega]; push_cast; rfl
              have HBY := Lib.hid hby
              clear hby
              go_wp2_with (at_builtin; refine wpList_app_one rfl _ _ 28 rfl W3.heap.size 5 .u8 1 Try.underlying28 info_u8 _ _ rfl (HO.out.alloc (.cells #[.int .u8 ((nv : Int) / 2 ^ sh % 256)] 5)) _ _ rfl (by simp; rfl) (by unfold maxLen; omega) (by omega) (by simp; omega) ?_; intro v6 w6 ho6 hb6 hg6 hm6; have hs6 := hg6.size; have hne6 : v6.ownBlock ≠ some g := (fun e => (hm6 g e).elim HNE.out (fun q => by simp at q; omega)); have HO6 := Lib.hid ho6; have HG6 := Lib.hid ((HBG2.out.later (belAlloc (Below.refl _ _) _)).grown hg6 HNE.out); have HP6 := Lib.hid ((HBP.out.later (belAlloc (Below.refl _ _) _)).below hb6 hM3); have hbw6 := (belAlloc hbw _).trans (hb6.mono (Nat.le_of_lt hM3)); have HNE6 := Lib.hid hne6; clear ho6 hb6 hg6 hm6 hne6)
              go_roundw
              case rel =>
                refine ⟨j + 1, ?_, by rw [HT.out, HBY.out, ← List.append_assoc]; exact HO6.out, HNE6.out, HG6.out, HP6.out, hbw6, by simp at hs6; omega, by simp at hs6; omega⟩
                by_cases h7 : j + 1 < 8
                · exact .inl ⟨sh - 8, by omega, h7, by congr 1; omega⟩
                · exact .inr ⟨by omega, by congr 1; omega⟩
              case measure => simp [intOf] <;> omega
            · rw [List.take_of_length_le (by rw [W8_len]; exact Nat.le_refl _)] at ho
              have HO := Lib.hid ho
              have HBG2 := Lib.hid hbg
              have HBP := Lib.hid hbp
              have HNE := Lib.hid hne
              clear ho hbg hbp hne
              go_wp2
              go_roundw
              case rel => exact ⟨m + 1, by omega, by push_cast; rfl, by rw [HNS.out, ← List.append_assoc, EP.out]; exact HO.out, HNE.out, HBG2.out, HBP.out, hbw, hsz, hgl⟩
              case measure => simp [intOf] <;> omega
        · obtain rfl : m = 8 := by omega
          have x2 : wr.cell? ⟨w.heap.size, 2, none⟩ = some (.bool p.crit) := hbp.cell rfl
          have hlen : (p.head ++ (p.nums.take 8).flatMap W8).length ≤ 200 := by
            rw [List.length_append, PodV.head_len, flat8_len, List.length_take]
            have : p.nums.length = 8 := rfl
            omega
          have e8 : p.nums.take 8 = p.nums := rfl
          rw [e8] at ho hlen
          have HO := Lib.hid ho
          have hfin : p.head ++ (p.nums.flatMap W8 ++ [if p.crit then 1 else 0]) = p.bytes := rfl
          have HFI := Lib.hid hfin
          obtain ⟨cr, ecr⟩ : ∃ c, p.crit = c := ⟨_, rfl⟩
          have hcr : (if p.crit = true then (1 : Int) else 0) = if cr = true then 1 else 0 := by rw [ecr]
          rw [ecr] at x2
          have HCR := Lib.hid hcr
          clear ho hbg hbp hne e8 hfin ecr hcr
          cases cr with
          | true =>
            go_wp2_with (at_builtin; refine wpList_app_one rfl _ _ 28 rfl W3.heap.size 5 .u8 1 Try.underlying28 info_u8 _ _ rfl (HO.out.alloc (.cells #[.int .u8 1] 5)) _ _ rfl (by simp; rfl) (by unfold maxLen; omega) (by omega) (by simp; omega) ?_; intro v6 w6 ho6 hb6 hg6 hm6; have hbw6 := (belAlloc hbw _).trans (hb6.mono (Nat.le_of_lt hM3)); have HO6 := Lib.hid ho6; clear ho6 hb6 hg6 hm6)
            go_ret2
            exact ⟨_, rfl, by rw [← HFI.out, HCR.out, ← List.append_assoc]; exact OwnI.mono HO6.out (Nat.le_of_lt hM3), hbw6⟩
          | false =>
            go_wp2_with (at_builtin; refine wpList_app_one rfl _ _ 28 rfl W3.heap.size 5 .u8 1 Try.underlying28 info_u8 _ _ rfl (HO.out.alloc (.cells #[.int .u8 0] 5)) _ _ rfl (by simp; rfl) (by unfold maxLen; omega) (by omega) (by simp; omega) ?_; intro v6 w6 ho6 hb6 hg6 hm6; have hbw6 := (belAlloc hbw _).trans (hb6.mono (Nat.le_of_lt hM3)); have HO6 := Lib.hid ho6; clear ho6 hb6 hg6 hm6)
            go_ret2
            exact ⟨_, rfl, by rw [← HFI.out, HCR.out, ← List.append_assoc]; exact OwnI.mono HO6.out (Nat.le_of_lt hM3), hbw6⟩
end Go.Proofs.Ytpmkhimmlpnbpaa
