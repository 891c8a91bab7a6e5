/- QosLimits holds for whatever cpu, memory, pids, more and which. No conditions. -/
import Derived.Test.YtnfblpiapendeaaAwake13
namespace Go.Proofs.Ytnfblpiapendeaa.qosLimits
open Go.ChangeShapes Go.WideShapes Go.ChangeAt Go.RowKit
open Go.ChangeMaps (open_string shut_string)
set_option linter.unusedVariables false

set_option maxRecDepth 100000 in
set_option maxHeartbeats 8000000 in
theorem walk (a b c more k : Int) (w : World) (ha : 0 ≤ a ∧ a ≤ 4294967295) (hb : 0 ≤ b ∧ b ≤ 4294967295) (hc : 0 ≤ c ∧ c ≤ 4294967295) (hm : 0 ≤ more ∧ more ≤ 65535) (hk : 0 ≤ k ∧ k ≤ 255) :
    Calls Try.prog 13 #[.int .u32 a, .int .u32 b, .int .u32 c, .int .u16 more, .int .u8 k] w fun e w' => e = .returned (.bool true) ∧ Below w.heap.size w w' := by
  have hw : Below w.heap.size w w := Below.refl _ _
  have hbel := hw
  obtain ⟨a0, a1⟩ := ha
  obtain ⟨b0, b1⟩ := hb
  obtain ⟨c0, c1⟩ := hc
  obtain ⟨m0, m1⟩ := hm
  obtain ⟨k0, k1⟩ := hk
  have cp := fun v => qos_Class ⟨#[112]⟩ 0 false (1 + a) (1 + b) c (1 + a) (1 + b) 0 ⟨#[120]⟩ 0 v
  have cn := fun v => qos_Class ⟨#[110]⟩ 0 false 0 0 0 0 0 0 ⟨#[120]⟩ 0 v
  have cm := fun v => qos_Class ⟨#[110]⟩ 0 false 0 0 0 0 0 (1 + more) ⟨#[120]⟩ 0 v
  have cr0 := fun v => qos_Class ⟨#[112]⟩ 0 false (1 + a) (1 + b) c 0 (1 + b) 0 ⟨#[120]⟩ 0 v
  have cr1 := fun v => qos_Class ⟨#[112]⟩ 0 false (1 + a) (1 + b) c (1 + a) 0 0 ⟨#[120]⟩ 0 v
  have cq0 := fun v => qos_Class ⟨#[112]⟩ 0 false (1 + a) (1 + b) c (1 + a + 1 + more) (1 + b) 0 ⟨#[120]⟩ 0 v
  have cq1 := fun v => qos_Class ⟨#[112]⟩ 0 false (1 + a) (1 + b) c (1 + a) (1 + b + 1 + more) 0 ⟨#[120]⟩ 0 v
  rw [show classI (1 + a) (1 + b) c (1 + a) (1 + b) 0 = 1 from by unfold classI zeroes bnd; simp; omega] at cp
  rw [show classI 0 0 0 0 0 0 = 3 from by decide] at cn
  rw [show classI 0 0 0 0 0 (1 + more) = 2 from by unfold classI zeroes bnd; simp; omega] at cm
  rw [show classI (1 + a) (1 + b) c 0 (1 + b) 0 = 2 from by unfold classI zeroes bnd; simp; omega] at cr0
  rw [show classI (1 + a) (1 + b) c (1 + a) 0 0 = 2 from by unfold classI zeroes bnd; simp; omega] at cr1
  rw [show classI (1 + a) (1 + b) c (1 + a + 1 + more) (1 + b) 0 = 2 from by unfold classI zeroes bnd; simp; omega] at cq0
  rw [show classI (1 + a) (1 + b) c (1 + a) (1 + b + 1 + more) 0 = 2 from by unfold classI zeroes bnd; simp; omega] at cq1
  have CP := Lib.hid cp
  have CN := Lib.hid cn
  have CM := Lib.hid cm
  have CR0 := Lib.hid cr0
  have CR1 := Lib.hid cr1
  have CQ0 := Lib.hid cq0
  have CQ1 := Lib.hid cq1
  clear cp cn cm cr0 cr1 cq0 cq1
  have e5 : k % 2 = 0 ∨ k % 2 = 1 := by omega
  rcases e5 with e5 | e5
  · go_enter Try.func13, Try.ntmps13
    go_upto_region 5 with (first | (go_at_call 28; (with_reducible refine (awake13 _).mono ?_); rintro e w1 ⟨rfl, hb1⟩; replace hbel := belStep hbel hb1; clear hb1))
    have p0 : (w1.alloc (.cells #[.string ⟨#[112]⟩, .int .i64 0, .bool false, .int .i64 (1 + a), .int .i64 (1 + b), .int .i64 c, .int .i64 (1 + a), .int .i64 (1 + b), .int .i64 0, .string ⟨#[120]⟩, .int .i64 0] 24)).cell? ⟨w1.heap.size, 0, none⟩ = some (.string ⟨#[112]⟩) := by first | (simp; done) | (rw [World.cell?_alloc_at _ _ _ _ (by simp)]; rfl) | (rw [World.cell?_alloc_past _ _ _ (by simp <;> omega), World.cell?_alloc_at _ _ _ _ (by simp)]; rfl) | (rw [World.cell?_alloc_past _ _ _ (by simp <;> omega), World.cell?_alloc_past _ _ _ (by simp <;> omega), World.cell?_alloc_at _ _ _ _ (by simp)]; rfl)
    have p1 : (w1.alloc (.cells #[.string ⟨#[112]⟩, .int .i64 0, .bool false, .int .i64 (1 + a), .int .i64 (1 + b), .int .i64 c, .int .i64 (1 + a), .int .i64 (1 + b), .int .i64 0, .string ⟨#[120]⟩, .int .i64 0] 24)).cell? ⟨w1.heap.size, 1, none⟩ = some (.int .i64 0) := by first | (simp; done) | (rw [World.cell?_alloc_at _ _ _ _ (by simp)]; rfl) | (rw [World.cell?_alloc_past _ _ _ (by simp <;> omega), World.cell?_alloc_at _ _ _ _ (by simp)]; rfl) | (rw [World.cell?_alloc_past _ _ _ (by simp <;> omega), World.cell?_alloc_past _ _ _ (by simp <;> omega), World.cell?_alloc_at _ _ _ _ (by simp)]; rfl)
    have p2 : (w1.alloc (.cells #[.string ⟨#[112]⟩, .int .i64 0, .bool false, .int .i64 (1 + a), .int .i64 (1 + b), .int .i64 c, .int .i64 (1 + a), .int .i64 (1 + b), .int .i64 0, .string ⟨#[120]⟩, .int .i64 0] 24)).cell? ⟨w1.heap.size, 2, none⟩ = some (.bool false) := by first | (simp; done) | (rw [World.cell?_alloc_at _ _ _ _ (by simp)]; rfl) | (rw [World.cell?_alloc_past _ _ _ (by simp <;> omega), World.cell?_alloc_at _ _ _ _ (by simp)]; rfl) | (rw [World.cell?_alloc_past _ _ _ (by simp <;> omega), World.cell?_alloc_past _ _ _ (by simp <;> omega), World.cell?_alloc_at _ _ _ _ (by simp)]; rfl)
    have p3 : (w1.alloc (.cells #[.string ⟨#[112]⟩, .int .i64 0, .bool false, .int .i64 (1 + a), .int .i64 (1 + b), .int .i64 c, .int .i64 (1 + a), .int .i64 (1 + b), .int .i64 0, .string ⟨#[120]⟩, .int .i64 0] 24)).cell? ⟨w1.heap.size, 3, none⟩ = some (.int .i64 (1 + a)) := by first | (simp; done) | (rw [World.cell?_alloc_at _ _ _ _ (by simp)]; rfl) | (rw [World.cell?_alloc_past _ _ _ (by simp <;> omega), World.cell?_alloc_at _ _ _ _ (by simp)]; rfl) | (rw [World.cell?_alloc_past _ _ _ (by simp <;> omega), World.cell?_alloc_past _ _ _ (by simp <;> omega), World.cell?_alloc_at _ _ _ _ (by simp)]; rfl)
    have p4 : (w1.alloc (.cells #[.string ⟨#[112]⟩, .int .i64 0, .bool false, .int .i64 (1 + a), .int .i64 (1 + b), .int .i64 c, .int .i64 (1 + a), .int .i64 (1 + b), .int .i64 0, .string ⟨#[120]⟩, .int .i64 0] 24)).cell? ⟨w1.heap.size, 4, none⟩ = some (.int .i64 (1 + b)) := by first | (simp; done) | (rw [World.cell?_alloc_at _ _ _ _ (by simp)]; rfl) | (rw [World.cell?_alloc_past _ _ _ (by simp <;> omega), World.cell?_alloc_at _ _ _ _ (by simp)]; rfl) | (rw [World.cell?_alloc_past _ _ _ (by simp <;> omega), World.cell?_alloc_past _ _ _ (by simp <;> omega), World.cell?_alloc_at _ _ _ _ (by simp)]; rfl)
    have p5 : (w1.alloc (.cells #[.string ⟨#[112]⟩, .int .i64 0, .bool false, .int .i64 (1 + a), .int .i64 (1 + b), .int .i64 c, .int .i64 (1 + a), .int .i64 (1 + b), .int .i64 0, .string ⟨#[120]⟩, .int .i64 0] 24)).cell? ⟨w1.heap.size, 5, none⟩ = some (.int .i64 c) := by first | (simp; done) | (rw [World.cell?_alloc_at _ _ _ _ (by simp)]; rfl) | (rw [World.cell?_alloc_past _ _ _ (by simp <;> omega), World.cell?_alloc_at _ _ _ _ (by simp)]; rfl) | (rw [World.cell?_alloc_past _ _ _ (by simp <;> omega), World.cell?_alloc_past _ _ _ (by simp <;> omega), World.cell?_alloc_at _ _ _ _ (by simp)]; rfl)
    have p6 : (w1.alloc (.cells #[.string ⟨#[112]⟩, .int .i64 0, .bool false, .int .i64 (1 + a), .int .i64 (1 + b), .int .i64 c, .int .i64 (1 + a), .int .i64 (1 + b), .int .i64 0, .string ⟨#[120]⟩, .int .i64 0] 24)).cell? ⟨w1.heap.size, 6, none⟩ = some (.int .i64 (1 + a)) := by first | (simp; done) | (rw [World.cell?_alloc_at _ _ _ _ (by simp)]; rfl) | (rw [World.cell?_alloc_past _ _ _ (by simp <;> omega), World.cell?_alloc_at _ _ _ _ (by simp)]; rfl) | (rw [World.cell?_alloc_past _ _ _ (by simp <;> omega), World.cell?_alloc_past _ _ _ (by simp <;> omega), World.cell?_alloc_at _ _ _ _ (by simp)]; rfl)
    have p7 : (w1.alloc (.cells #[.string ⟨#[112]⟩, .int .i64 0, .bool false, .int .i64 (1 + a), .int .i64 (1 + b), .int .i64 c, .int .i64 (1 + a), .int .i64 (1 + b), .int .i64 0, .string ⟨#[120]⟩, .int .i64 0] 24)).cell? ⟨w1.heap.size, 7, none⟩ = some (.int .i64 (1 + b)) := by first | (simp; done) | (rw [World.cell?_alloc_at _ _ _ _ (by simp)]; rfl) | (rw [World.cell?_alloc_past _ _ _ (by simp <;> omega), World.cell?_alloc_at _ _ _ _ (by simp)]; rfl) | (rw [World.cell?_alloc_past _ _ _ (by simp <;> omega), World.cell?_alloc_past _ _ _ (by simp <;> omega), World.cell?_alloc_at _ _ _ _ (by simp)]; rfl)
    have p8 : (w1.alloc (.cells #[.string ⟨#[112]⟩, .int .i64 0, .bool false, .int .i64 (1 + a), .int .i64 (1 + b), .int .i64 c, .int .i64 (1 + a), .int .i64 (1 + b), .int .i64 0, .string ⟨#[120]⟩, .int .i64 0] 24)).cell? ⟨w1.heap.size, 8, none⟩ = some (.int .i64 0) := by first | (simp; done) | (rw [World.cell?_alloc_at _ _ _ _ (by simp)]; rfl) | (rw [World.cell?_alloc_past _ _ _ (by simp <;> omega), World.cell?_alloc_at _ _ _ _ (by simp)]; rfl) | (rw [World.cell?_alloc_past _ _ _ (by simp <;> omega), World.cell?_alloc_past _ _ _ (by simp <;> omega), World.cell?_alloc_at _ _ _ _ (by simp)]; rfl)
    have p9 : (w1.alloc (.cells #[.string ⟨#[112]⟩, .int .i64 0, .bool false, .int .i64 (1 + a), .int .i64 (1 + b), .int .i64 c, .int .i64 (1 + a), .int .i64 (1 + b), .int .i64 0, .string ⟨#[120]⟩, .int .i64 0] 24)).cell? ⟨w1.heap.size, 9, none⟩ = some (.string ⟨#[120]⟩) := by first | (simp; done) | (rw [World.cell?_alloc_at _ _ _ _ (by simp)]; rfl) | (rw [World.cell?_alloc_past _ _ _ (by simp <;> omega), World.cell?_alloc_at _ _ _ _ (by simp)]; rfl) | (rw [World.cell?_alloc_past _ _ _ (by simp <;> omega), World.cell?_alloc_past _ _ _ (by simp <;> omega), World.cell?_alloc_at _ _ _ _ (by simp)]; rfl)
    have p10 : (w1.alloc (.cells #[.string ⟨#[112]⟩, .int .i64 0, .bool false, .int .i64 (1 + a), .int .i64 (1 + b), .int .i64 c, .int .i64 (1 + a), .int .i64 (1 + b), .int .i64 0, .string ⟨#[120]⟩, .int .i64 0] 24)).cell? ⟨w1.heap.size, 10, none⟩ = some (.int .i64 0) := by first | (simp; done) | (rw [World.cell?_alloc_at _ _ _ _ (by simp)]; rfl) | (rw [World.cell?_alloc_past _ _ _ (by simp <;> omega), World.cell?_alloc_at _ _ _ _ (by simp)]; rfl) | (rw [World.cell?_alloc_past _ _ _ (by simp <;> omega), World.cell?_alloc_past _ _ _ (by simp <;> omega), World.cell?_alloc_at _ _ _ _ (by simp)]; rfl)
    have hb2 := (by repeat (first | exact hbel | refine belAlloc ?_ _ | refine belDrew ?_ | refine belSet ?_ _ _ (by simp)) : Below w.heap.size w (w1.alloc (.cells #[.string ⟨#[112]⟩, .int .i64 0, .bool false, .int .i64 (1 + a), .int .i64 (1 + b), .int .i64 c, .int .i64 (1 + a), .int .i64 (1 + b), .int .i64 0, .string ⟨#[120]⟩, .int .i64 0] 24)))
    replace hw := belStep hw hb2
    clear hb2 hbel
    generalize w1.alloc (.cells #[.string ⟨#[112]⟩, .int .i64 0, .bool false, .int .i64 (1 + a), .int .i64 (1 + b), .int .i64 c, .int .i64 (1 + a), .int .i64 (1 + b), .int .i64 0, .string ⟨#[120]⟩, .int .i64 0] 24) = W1 at *
    replace p0 := keep p0
    replace p1 := keep p1
    replace p2 := keep p2
    replace p3 := keep p3
    replace p4 := keep p4
    replace p5 := keep p5
    replace p6 := keep p6
    replace p7 := keep p7
    replace p8 := keep p8
    replace p9 := keep p9
    replace p10 := keep p10
    generalize w1.heap.size = n1 at *
    have hbel : Below W1.heap.size W1 W1 := Below.refl _ _
    clear w1
    go_upto_region 8 with fail
    have q0 : (W1.alloc (.cells #[.string ⟨#[112]⟩, .int .i64 0, .bool false, .int .i64 (1 + a), .int .i64 (1 + b), .int .i64 c, .int .i64 (1 + a + 1 + more), .int .i64 (1 + b), .int .i64 0, .string ⟨#[120]⟩, .int .i64 0] 24)).cell? ⟨W1.heap.size, 0, none⟩ = some (.string ⟨#[112]⟩) := by first | (simp; done) | (rw [World.cell?_alloc_at _ _ _ _ (by simp)]; rfl) | (rw [World.cell?_alloc_past _ _ _ (by simp <;> omega), World.cell?_alloc_at _ _ _ _ (by simp)]; rfl) | (rw [World.cell?_alloc_past _ _ _ (by simp <;> omega), World.cell?_alloc_past _ _ _ (by simp <;> omega), World.cell?_alloc_at _ _ _ _ (by simp)]; rfl)
    have q1 : (W1.alloc (.cells #[.string ⟨#[112]⟩, .int .i64 0, .bool false, .int .i64 (1 + a), .int .i64 (1 + b), .int .i64 c, .int .i64 (1 + a + 1 + more), .int .i64 (1 + b), .int .i64 0, .string ⟨#[120]⟩, .int .i64 0] 24)).cell? ⟨W1.heap.size, 1, none⟩ = some (.int .i64 0) := by first | (simp; done) | (rw [World.cell?_alloc_at _ _ _ _ (by simp)]; rfl) | (rw [World.cell?_alloc_past _ _ _ (by simp <;> omega), World.cell?_alloc_at _ _ _ _ (by simp)]; rfl) | (rw [World.cell?_alloc_past _ _ _ (by simp <;> omega), World.cell?_alloc_past _ _ _ (by simp <;> omega), World.cell?_alloc_at _ _ _ _ (by simp)]; rfl)
    have q2 : (W1.alloc (.cells #[.string ⟨#[112]⟩, .int .i64 0, .bool false, .int .i64 (1 + a), .int .i64 (1 + b), .int .i64 c, .int .i64 (1 + a + 1 + more), .int .i64 (1 + b), .int .i64 0, .string ⟨#[120]⟩, .int .i64 0] 24)).cell? ⟨W1.heap.size, 2, none⟩ = some (.bool false) := by first | (simp; done) | (rw [World.cell?_alloc_at _ _ _ _ (by simp)]; rfl) | (rw [World.cell?_alloc_past _ _ _ (by simp <;> omega), World.cell?_alloc_at _ _ _ _ (by simp)]; rfl) | (rw [World.cell?_alloc_past _ _ _ (by simp <;> omega), World.cell?_alloc_past _ _ _ (by simp <;> omega), World.cell?_alloc_at _ _ _ _ (by simp)]; rfl)
    have q3 : (W1.alloc (.cells #[.string ⟨#[112]⟩, .int .i64 0, .bool false, .int .i64 (1 + a), .int .i64 (1 + b), .int .i64 c, .int .i64 (1 + a + 1 + more), .int .i64 (1 + b), .int .i64 0, .string ⟨#[120]⟩, .int .i64 0] 24)).cell? ⟨W1.heap.size, 3, none⟩ = some (.int .i64 (1 + a)) := by first | (simp; done) | (rw [World.cell?_alloc_at _ _ _ _ (by simp)]; rfl) | (rw [World.cell?_alloc_past _ _ _ (by simp <;> omega), World.cell?_alloc_at _ _ _ _ (by simp)]; rfl) | (rw [World.cell?_alloc_past _ _ _ (by simp <;> omega), World.cell?_alloc_past _ _ _ (by simp <;> omega), World.cell?_alloc_at _ _ _ _ (by simp)]; rfl)
    have q4 : (W1.alloc (.cells #[.string ⟨#[112]⟩, .int .i64 0, .bool false, .int .i64 (1 + a), .int .i64 (1 + b), .int .i64 c, .int .i64 (1 + a + 1 + more), .int .i64 (1 + b), .int .i64 0, .string ⟨#[120]⟩, .int .i64 0] 24)).cell? ⟨W1.heap.size, 4, none⟩ = some (.int .i64 (1 + b)) := by first | (simp; done) | (rw [World.cell?_alloc_at _ _ _ _ (by simp)]; rfl) | (rw [World.cell?_alloc_past _ _ _ (by simp <;> omega), World.cell?_alloc_at _ _ _ _ (by simp)]; rfl) | (rw [World.cell?_alloc_past _ _ _ (by simp <;> omega), World.cell?_alloc_past _ _ _ (by simp <;> omega), World.cell?_alloc_at _ _ _ _ (by simp)]; rfl)
    have q5 : (W1.alloc (.cells #[.string ⟨#[112]⟩, .int .i64 0, .bool false, .int .i64 (1 + a), .int .i64 (1 + b), .int .i64 c, .int .i64 (1 + a + 1 + more), .int .i64 (1 + b), .int .i64 0, .string ⟨#[120]⟩, .int .i64 0] 24)).cell? ⟨W1.heap.size, 5, none⟩ = some (.int .i64 c) := by first | (simp; done) | (rw [World.cell?_alloc_at _ _ _ _ (by simp)]; rfl) | (rw [World.cell?_alloc_past _ _ _ (by simp <;> omega), World.cell?_alloc_at _ _ _ _ (by simp)]; rfl) | (rw [World.cell?_alloc_past _ _ _ (by simp <;> omega), World.cell?_alloc_past _ _ _ (by simp <;> omega), World.cell?_alloc_at _ _ _ _ (by simp)]; rfl)
    have q6 : (W1.alloc (.cells #[.string ⟨#[112]⟩, .int .i64 0, .bool false, .int .i64 (1 + a), .int .i64 (1 + b), .int .i64 c, .int .i64 (1 + a + 1 + more), .int .i64 (1 + b), .int .i64 0, .string ⟨#[120]⟩, .int .i64 0] 24)).cell? ⟨W1.heap.size, 6, none⟩ = some (.int .i64 (1 + a + 1 + more)) := by first | (simp; done) | (rw [World.cell?_alloc_at _ _ _ _ (by simp)]; rfl) | (rw [World.cell?_alloc_past _ _ _ (by simp <;> omega), World.cell?_alloc_at _ _ _ _ (by simp)]; rfl) | (rw [World.cell?_alloc_past _ _ _ (by simp <;> omega), World.cell?_alloc_past _ _ _ (by simp <;> omega), World.cell?_alloc_at _ _ _ _ (by simp)]; rfl)
    have q7 : (W1.alloc (.cells #[.string ⟨#[112]⟩, .int .i64 0, .bool false, .int .i64 (1 + a), .int .i64 (1 + b), .int .i64 c, .int .i64 (1 + a + 1 + more), .int .i64 (1 + b), .int .i64 0, .string ⟨#[120]⟩, .int .i64 0] 24)).cell? ⟨W1.heap.size, 7, none⟩ = some (.int .i64 (1 + b)) := by first | (simp; done) | (rw [World.cell?_alloc_at _ _ _ _ (by simp)]; rfl) | (rw [World.cell?_alloc_past _ _ _ (by simp <;> omega), World.cell?_alloc_at _ _ _ _ (by simp)]; rfl) | (rw [World.cell?_alloc_past _ _ _ (by simp <;> omega), World.cell?_alloc_past _ _ _ (by simp <;> omega), World.cell?_alloc_at _ _ _ _ (by simp)]; rfl)
    have q8 : (W1.alloc (.cells #[.string ⟨#[112]⟩, .int .i64 0, .bool false, .int .i64 (1 + a), .int .i64 (1 + b), .int .i64 c, .int .i64 (1 + a + 1 + more), .int .i64 (1 + b), .int .i64 0, .string ⟨#[120]⟩, .int .i64 0] 24)).cell? ⟨W1.heap.size, 8, none⟩ = some (.int .i64 0) := by first | (simp; done) | (rw [World.cell?_alloc_at _ _ _ _ (by simp)]; rfl) | (rw [World.cell?_alloc_past _ _ _ (by simp <;> omega), World.cell?_alloc_at _ _ _ _ (by simp)]; rfl) | (rw [World.cell?_alloc_past _ _ _ (by simp <;> omega), World.cell?_alloc_past _ _ _ (by simp <;> omega), World.cell?_alloc_at _ _ _ _ (by simp)]; rfl)
    have q9 : (W1.alloc (.cells #[.string ⟨#[112]⟩, .int .i64 0, .bool false, .int .i64 (1 + a), .int .i64 (1 + b), .int .i64 c, .int .i64 (1 + a + 1 + more), .int .i64 (1 + b), .int .i64 0, .string ⟨#[120]⟩, .int .i64 0] 24)).cell? ⟨W1.heap.size, 9, none⟩ = some (.string ⟨#[120]⟩) := by first | (simp; done) | (rw [World.cell?_alloc_at _ _ _ _ (by simp)]; rfl) | (rw [World.cell?_alloc_past _ _ _ (by simp <;> omega), World.cell?_alloc_at _ _ _ _ (by simp)]; rfl) | (rw [World.cell?_alloc_past _ _ _ (by simp <;> omega), World.cell?_alloc_past _ _ _ (by simp <;> omega), World.cell?_alloc_at _ _ _ _ (by simp)]; rfl)
    have q10 : (W1.alloc (.cells #[.string ⟨#[112]⟩, .int .i64 0, .bool false, .int .i64 (1 + a), .int .i64 (1 + b), .int .i64 c, .int .i64 (1 + a + 1 + more), .int .i64 (1 + b), .int .i64 0, .string ⟨#[120]⟩, .int .i64 0] 24)).cell? ⟨W1.heap.size, 10, none⟩ = some (.int .i64 0) := by first | (simp; done) | (rw [World.cell?_alloc_at _ _ _ _ (by simp)]; rfl) | (rw [World.cell?_alloc_past _ _ _ (by simp <;> omega), World.cell?_alloc_at _ _ _ _ (by simp)]; rfl) | (rw [World.cell?_alloc_past _ _ _ (by simp <;> omega), World.cell?_alloc_past _ _ _ (by simp <;> omega), World.cell?_alloc_at _ _ _ _ (by simp)]; rfl)
    have hb2 := (by repeat (first | exact hbel | refine belAlloc ?_ _ | refine belDrew ?_ | refine belSet ?_ _ _ (by simp)) : Below W1.heap.size W1 (W1.alloc (.cells #[.string ⟨#[112]⟩, .int .i64 0, .bool false, .int .i64 (1 + a), .int .i64 (1 + b), .int .i64 c, .int .i64 (1 + a + 1 + more), .int .i64 (1 + b), .int .i64 0, .string ⟨#[120]⟩, .int .i64 0] 24)))
    replace p0 := keepOnP p0 hb2
    replace p1 := keepOnP p1 hb2
    replace p2 := keepOnP p2 hb2
    replace p3 := keepOnP p3 hb2
    replace p4 := keepOnP p4 hb2
    replace p5 := keepOnP p5 hb2
    replace p6 := keepOnP p6 hb2
    replace p7 := keepOnP p7 hb2
    replace p8 := keepOnP p8 hb2
    replace p9 := keepOnP p9 hb2
    replace p10 := keepOnP p10 hb2
    replace hw := belStep hw hb2
    clear hb2 hbel
    generalize W1.alloc (.cells #[.string ⟨#[112]⟩, .int .i64 0, .bool false, .int .i64 (1 + a), .int .i64 (1 + b), .int .i64 c, .int .i64 (1 + a + 1 + more), .int .i64 (1 + b), .int .i64 0, .string ⟨#[120]⟩, .int .i64 0] 24) = W2 at *
    replace q0 := keep q0
    replace q1 := keep q1
    replace q2 := keep q2
    replace q3 := keep q3
    replace q4 := keep q4
    replace q5 := keep q5
    replace q6 := keep q6
    replace q7 := keep q7
    replace q8 := keep q8
    replace q9 := keep q9
    replace q10 := keep q10
    generalize W1.heap.size = n2 at *
    have hbel : Below W2.heap.size W2 W2 := Below.refl _ _
    skip
    go_upto_region 10 with fail
    have r0 : (W2.alloc (.cells #[.string ⟨#[112]⟩, .int .i64 0, .bool false, .int .i64 (1 + a), .int .i64 (1 + b), .int .i64 c, .int .i64 0, .int .i64 (1 + b), .int .i64 0, .string ⟨#[120]⟩, .int .i64 0] 24)).cell? ⟨W2.heap.size, 0, none⟩ = some (.string ⟨#[112]⟩) := by first | (simp; done) | (rw [World.cell?_alloc_at _ _ _ _ (by simp)]; rfl) | (rw [World.cell?_alloc_past _ _ _ (by simp <;> omega), World.cell?_alloc_at _ _ _ _ (by simp)]; rfl) | (rw [World.cell?_alloc_past _ _ _ (by simp <;> omega), World.cell?_alloc_past _ _ _ (by simp <;> omega), World.cell?_alloc_at _ _ _ _ (by simp)]; rfl)
    have r1 : (W2.alloc (.cells #[.string ⟨#[112]⟩, .int .i64 0, .bool false, .int .i64 (1 + a), .int .i64 (1 + b), .int .i64 c, .int .i64 0, .int .i64 (1 + b), .int .i64 0, .string ⟨#[120]⟩, .int .i64 0] 24)).cell? ⟨W2.heap.size, 1, none⟩ = some (.int .i64 0) := by first | (simp; done) | (rw [World.cell?_alloc_at _ _ _ _ (by simp)]; rfl) | (rw [World.cell?_alloc_past _ _ _ (by simp <;> omega), World.cell?_alloc_at _ _ _ _ (by simp)]; rfl) | (rw [World.cell?_alloc_past _ _ _ (by simp <;> omega), World.cell?_alloc_past _ _ _ (by simp <;> omega), World.cell?_alloc_at _ _ _ _ (by simp)]; rfl)
    have r2 : (W2.alloc (.cells #[.string ⟨#[112]⟩, .int .i64 0, .bool false, .int .i64 (1 + a), .int .i64 (1 + b), .int .i64 c, .int .i64 0, .int .i64 (1 + b), .int .i64 0, .string ⟨#[120]⟩, .int .i64 0] 24)).cell? ⟨W2.heap.size, 2, none⟩ = some (.bool false) := by first | (simp; done) | (rw [World.cell?_alloc_at _ _ _ _ (by simp)]; rfl) | (rw [World.cell?_alloc_past _ _ _ (by simp <;> omega), World.cell?_alloc_at _ _ _ _ (by simp)]; rfl) | (rw [World.cell?_alloc_past _ _ _ (by simp <;> omega), World.cell?_alloc_past _ _ _ (by simp <;> omega), World.cell?_alloc_at _ _ _ _ (by simp)]; rfl)
    have r3 : (W2.alloc (.cells #[.string ⟨#[112]⟩, .int .i64 0, .bool false, .int .i64 (1 + a), .int .i64 (1 + b), .int .i64 c, .int .i64 0, .int .i64 (1 + b), .int .i64 0, .string ⟨#[120]⟩, .int .i64 0] 24)).cell? ⟨W2.heap.size, 3, none⟩ = some (.int .i64 (1 + a)) := by first | (simp; done) | (rw [World.cell?_alloc_at _ _ _ _ (by simp)]; rfl) | (rw [World.cell?_alloc_past _ _ _ (by simp <;> omega), World.cell?_alloc_at _ _ _ _ (by simp)]; rfl) | (rw [World.cell?_alloc_past _ _ _ (by simp <;> omega), World.cell?_alloc_past _ _ _ (by simp <;> omega), World.cell?_alloc_at _ _ _ _ (by simp)]; rfl)
    have r4 : (W2.alloc (.cells #[.string ⟨#[112]⟩, .int .i64 0, .bool false, .int .i64 (1 + a), .int .i64 (1 + b), .int .i64 c, .int .i64 0, .int .i64 (1 + b), .int .i64 0, .string ⟨#[120]⟩, .int .i64 0] 24)).cell? ⟨W2.heap.size, 4, none⟩ = some (.int .i64 (1 + b)) := by first | (simp; done) | (rw [World.cell?_alloc_at _ _ _ _ (by simp)]; rfl) | (rw [World.cell?_alloc_past _ _ _ (by simp <;> omega), World.cell?_alloc_at _ _ _ _ (by simp)]; rfl) | (rw [World.cell?_alloc_past _ _ _ (by simp <;> omega), World.cell?_alloc_past _ _ _ (by simp <;> omega), World.cell?_alloc_at _ _ _ _ (by simp)]; rfl)
    have r5 : (W2.alloc (.cells #[.string ⟨#[112]⟩, .int .i64 0, .bool false, .int .i64 (1 + a), .int .i64 (1 + b), .int .i64 c, .int .i64 0, .int .i64 (1 + b), .int .i64 0, .string ⟨#[120]⟩, .int .i64 0] 24)).cell? ⟨W2.heap.size, 5, none⟩ = some (.int .i64 c) := by first | (simp; done) | (rw [World.cell?_alloc_at _ _ _ _ (by simp)]; rfl) | (rw [World.cell?_alloc_past _ _ _ (by simp <;> omega), World.cell?_alloc_at _ _ _ _ (by simp)]; rfl) | (rw [World.cell?_alloc_past _ _ _ (by simp <;> omega), World.cell?_alloc_past _ _ _ (by simp <;> omega), World.cell?_alloc_at _ _ _ _ (by simp)]; rfl)
    have r6 : (W2.alloc (.cells #[.string ⟨#[112]⟩, .int .i64 0, .bool false, .int .i64 (1 + a), .int .i64 (1 + b), .int .i64 c, .int .i64 0, .int .i64 (1 + b), .int .i64 0, .string ⟨#[120]⟩, .int .i64 0] 24)).cell? ⟨W2.heap.size, 6, none⟩ = some (.int .i64 0) := by first | (simp; done) | (rw [World.cell?_alloc_at _ _ _ _ (by simp)]; rfl) | (rw [World.cell?_alloc_past _ _ _ (by simp <;> omega), World.cell?_alloc_at _ _ _ _ (by simp)]; rfl) | (rw [World.cell?_alloc_past _ _ _ (by simp <;> omega), World.cell?_alloc_past _ _ _ (by simp <;> omega), World.cell?_alloc_at _ _ _ _ (by simp)]; rfl)
    have r7 : (W2.alloc (.cells #[.string ⟨#[112]⟩, .int .i64 0, .bool false, .int .i64 (1 + a), .int .i64 (1 + b), .int .i64 c, .int .i64 0, .int .i64 (1 + b), .int .i64 0, .string ⟨#[120]⟩, .int .i64 0] 24)).cell? ⟨W2.heap.size, 7, none⟩ = some (.int .i64 (1 + b)) := by first | (simp; done) | (rw [World.cell?_alloc_at _ _ _ _ (by simp)]; rfl) | (rw [World.cell?_alloc_past _ _ _ (by simp <;> omega), World.cell?_alloc_at _ _ _ _ (by simp)]; rfl) | (rw [World.cell?_alloc_past _ _ _ (by simp <;> omega), World.cell?_alloc_past _ _ _ (by simp <;> omega), World.cell?_alloc_at _ _ _ _ (by simp)]; rfl)
    have r8 : (W2.alloc (.cells #[.string ⟨#[112]⟩, .int .i64 0, .bool false, .int .i64 (1 + a), .int .i64 (1 + b), .int .i64 c, .int .i64 0, .int .i64 (1 + b), .int .i64 0, .string ⟨#[120]⟩, .int .i64 0] 24)).cell? ⟨W2.heap.size, 8, none⟩ = some (.int .i64 0) := by first | (simp; done) | (rw [World.cell?_alloc_at _ _ _ _ (by simp)]; rfl) | (rw [World.cell?_alloc_past _ _ _ (by simp <;> omega), World.cell?_alloc_at _ _ _ _ (by simp)]; rfl) | (rw [World.cell?_alloc_past _ _ _ (by simp <;> omega), World.cell?_alloc_past _ _ _ (by simp <;> omega), World.cell?_alloc_at _ _ _ _ (by simp)]; rfl)
    have r9 : (W2.alloc (.cells #[.string ⟨#[112]⟩, .int .i64 0, .bool false, .int .i64 (1 + a), .int .i64 (1 + b), .int .i64 c, .int .i64 0, .int .i64 (1 + b), .int .i64 0, .string ⟨#[120]⟩, .int .i64 0] 24)).cell? ⟨W2.heap.size, 9, none⟩ = some (.string ⟨#[120]⟩) := by first | (simp; done) | (rw [World.cell?_alloc_at _ _ _ _ (by simp)]; rfl) | (rw [World.cell?_alloc_past _ _ _ (by simp <;> omega), World.cell?_alloc_at _ _ _ _ (by simp)]; rfl) | (rw [World.cell?_alloc_past _ _ _ (by simp <;> omega), World.cell?_alloc_past _ _ _ (by simp <;> omega), World.cell?_alloc_at _ _ _ _ (by simp)]; rfl)
    have r10 : (W2.alloc (.cells #[.string ⟨#[112]⟩, .int .i64 0, .bool false, .int .i64 (1 + a), .int .i64 (1 + b), .int .i64 c, .int .i64 0, .int .i64 (1 + b), .int .i64 0, .string ⟨#[120]⟩, .int .i64 0] 24)).cell? ⟨W2.heap.size, 10, none⟩ = some (.int .i64 0) := by first | (simp; done) | (rw [World.cell?_alloc_at _ _ _ _ (by simp)]; rfl) | (rw [World.cell?_alloc_past _ _ _ (by simp <;> omega), World.cell?_alloc_at _ _ _ _ (by simp)]; rfl) | (rw [World.cell?_alloc_past _ _ _ (by simp <;> omega), World.cell?_alloc_past _ _ _ (by simp <;> omega), World.cell?_alloc_at _ _ _ _ (by simp)]; rfl)
    have hb2 := (by repeat (first | exact hbel | refine belAlloc ?_ _ | refine belDrew ?_ | refine belSet ?_ _ _ (by simp)) : Below W2.heap.size W2 (W2.alloc (.cells #[.string ⟨#[112]⟩, .int .i64 0, .bool false, .int .i64 (1 + a), .int .i64 (1 + b), .int .i64 c, .int .i64 0, .int .i64 (1 + b), .int .i64 0, .string ⟨#[120]⟩, .int .i64 0] 24)))
    replace p0 := keepOnP p0 hb2
    replace p1 := keepOnP p1 hb2
    replace p2 := keepOnP p2 hb2
    replace p3 := keepOnP p3 hb2
    replace p4 := keepOnP p4 hb2
    replace p5 := keepOnP p5 hb2
    replace p6 := keepOnP p6 hb2
    replace p7 := keepOnP p7 hb2
    replace p8 := keepOnP p8 hb2
    replace p9 := keepOnP p9 hb2
    replace p10 := keepOnP p10 hb2
    replace q0 := keepOnP q0 hb2
    replace q1 := keepOnP q1 hb2
    replace q2 := keepOnP q2 hb2
    replace q3 := keepOnP q3 hb2
    replace q4 := keepOnP q4 hb2
    replace q5 := keepOnP q5 hb2
    replace q6 := keepOnP q6 hb2
    replace q7 := keepOnP q7 hb2
    replace q8 := keepOnP q8 hb2
    replace q9 := keepOnP q9 hb2
    replace q10 := keepOnP q10 hb2
    replace hw := belStep hw hb2
    clear hb2 hbel
    generalize W2.alloc (.cells #[.string ⟨#[112]⟩, .int .i64 0, .bool false, .int .i64 (1 + a), .int .i64 (1 + b), .int .i64 c, .int .i64 0, .int .i64 (1 + b), .int .i64 0, .string ⟨#[120]⟩, .int .i64 0] 24) = W3 at *
    replace r0 := keep r0
    replace r1 := keep r1
    replace r2 := keep r2
    replace r3 := keep r3
    replace r4 := keep r4
    replace r5 := keep r5
    replace r6 := keep r6
    replace r7 := keep r7
    replace r8 := keep r8
    replace r9 := keep r9
    replace r10 := keep r10
    generalize W2.heap.size = n3 at *
    have hbel : Below W3.heap.size W3 W3 := Below.refl _ _
    skip
    go_upto_region 11 with fail
    have n0 : (W3.alloc (.cells #[.string ⟨#[110]⟩, .int .i64 0, .bool false, .int .i64 0, .int .i64 0, .int .i64 0, .int .i64 0, .int .i64 0, .int .i64 0, .string ⟨#[120]⟩, .int .i64 0] 24)).cell? ⟨W3.heap.size, 0, none⟩ = some (.string ⟨#[110]⟩) := by first | (simp; done) | (rw [World.cell?_alloc_at _ _ _ _ (by simp)]; rfl) | (rw [World.cell?_alloc_past _ _ _ (by simp <;> omega), World.cell?_alloc_at _ _ _ _ (by simp)]; rfl) | (rw [World.cell?_alloc_past _ _ _ (by simp <;> omega), World.cell?_alloc_past _ _ _ (by simp <;> omega), World.cell?_alloc_at _ _ _ _ (by simp)]; rfl)
    have n1 : (W3.alloc (.cells #[.string ⟨#[110]⟩, .int .i64 0, .bool false, .int .i64 0, .int .i64 0, .int .i64 0, .int .i64 0, .int .i64 0, .int .i64 0, .string ⟨#[120]⟩, .int .i64 0] 24)).cell? ⟨W3.heap.size, 1, none⟩ = some (.int .i64 0) := by first | (simp; done) | (rw [World.cell?_alloc_at _ _ _ _ (by simp)]; rfl) | (rw [World.cell?_alloc_past _ _ _ (by simp <;> omega), World.cell?_alloc_at _ _ _ _ (by simp)]; rfl) | (rw [World.cell?_alloc_past _ _ _ (by simp <;> omega), World.cell?_alloc_past _ _ _ (by simp <;> omega), World.cell?_alloc_at _ _ _ _ (by simp)]; rfl)
    have n2 : (W3.alloc (.cells #[.string ⟨#[110]⟩, .int .i64 0, .bool false, .int .i64 0, .int .i64 0, .int .i64 0, .int .i64 0, .int .i64 0, .int .i64 0, .string ⟨#[120]⟩, .int .i64 0] 24)).cell? ⟨W3.heap.size, 2, none⟩ = some (.bool false) := by first | (simp; done) | (rw [World.cell?_alloc_at _ _ _ _ (by simp)]; rfl) | (rw [World.cell?_alloc_past _ _ _ (by simp <;> omega), World.cell?_alloc_at _ _ _ _ (by simp)]; rfl) | (rw [World.cell?_alloc_past _ _ _ (by simp <;> omega), World.cell?_alloc_past _ _ _ (by simp <;> omega), World.cell?_alloc_at _ _ _ _ (by simp)]; rfl)
    have n3 : (W3.alloc (.cells #[.string ⟨#[110]⟩, .int .i64 0, .bool false, .int .i64 0, .int .i64 0, .int .i64 0, .int .i64 0, .int .i64 0, .int .i64 0, .string ⟨#[120]⟩, .int .i64 0] 24)).cell? ⟨W3.heap.size, 3, none⟩ = some (.int .i64 0) := by first | (simp; done) | (rw [World.cell?_alloc_at _ _ _ _ (by simp)]; rfl) | (rw [World.cell?_alloc_past _ _ _ (by simp <;> omega), World.cell?_alloc_at _ _ _ _ (by simp)]; rfl) | (rw [World.cell?_alloc_past _ _ _ (by simp <;> omega), World.cell?_alloc_past _ _ _ (by simp <;> omega), World.cell?_alloc_at _ _ _ _ (by simp)]; rfl)
    have n4 : (W3.alloc (.cells #[.string ⟨#[110]⟩, .int .i64 0, .bool false, .int .i64 0, .int .i64 0, .int .i64 0, .int .i64 0, .int .i64 0, .int .i64 0, .string ⟨#[120]⟩, .int .i64 0] 24)).cell? ⟨W3.heap.size, 4, none⟩ = some (.int .i64 0) := by first | (simp; done) | (rw [World.cell?_alloc_at _ _ _ _ (by simp)]; rfl) | (rw [World.cell?_alloc_past _ _ _ (by simp <;> omega), World.cell?_alloc_at _ _ _ _ (by simp)]; rfl) | (rw [World.cell?_alloc_past _ _ _ (by simp <;> omega), World.cell?_alloc_past _ _ _ (by simp <;> omega), World.cell?_alloc_at _ _ _ _ (by simp)]; rfl)
    have n5 : (W3.alloc (.cells #[.string ⟨#[110]⟩, .int .i64 0, .bool false, .int .i64 0, .int .i64 0, .int .i64 0, .int .i64 0, .int .i64 0, .int .i64 0, .string ⟨#[120]⟩, .int .i64 0] 24)).cell? ⟨W3.heap.size, 5, none⟩ = some (.int .i64 0) := by first | (simp; done) | (rw [World.cell?_alloc_at _ _ _ _ (by simp)]; rfl) | (rw [World.cell?_alloc_past _ _ _ (by simp <;> omega), World.cell?_alloc_at _ _ _ _ (by simp)]; rfl) | (rw [World.cell?_alloc_past _ _ _ (by simp <;> omega), World.cell?_alloc_past _ _ _ (by simp <;> omega), World.cell?_alloc_at _ _ _ _ (by simp)]; rfl)
    have n6 : (W3.alloc (.cells #[.string ⟨#[110]⟩, .int .i64 0, .bool false, .int .i64 0, .int .i64 0, .int .i64 0, .int .i64 0, .int .i64 0, .int .i64 0, .string ⟨#[120]⟩, .int .i64 0] 24)).cell? ⟨W3.heap.size, 6, none⟩ = some (.int .i64 0) := by first | (simp; done) | (rw [World.cell?_alloc_at _ _ _ _ (by simp)]; rfl) | (rw [World.cell?_alloc_past _ _ _ (by simp <;> omega), World.cell?_alloc_at _ _ _ _ (by simp)]; rfl) | (rw [World.cell?_alloc_past _ _ _ (by simp <;> omega), World.cell?_alloc_past _ _ _ (by simp <;> omega), World.cell?_alloc_at _ _ _ _ (by simp)]; rfl)
    have n7 : (W3.alloc (.cells #[.string ⟨#[110]⟩, .int .i64 0, .bool false, .int .i64 0, .int .i64 0, .int .i64 0, .int .i64 0, .int .i64 0, .int .i64 0, .string ⟨#[120]⟩, .int .i64 0] 24)).cell? ⟨W3.heap.size, 7, none⟩ = some (.int .i64 0) := by first | (simp; done) | (rw [World.cell?_alloc_at _ _ _ _ (by simp)]; rfl) | (rw [World.cell?_alloc_past _ _ _ (by simp <;> omega), World.cell?_alloc_at _ _ _ _ (by simp)]; rfl) | (rw [World.cell?_alloc_past _ _ _ (by simp <;> omega), World.cell?_alloc_past _ _ _ (by simp <;> omega), World.cell?_alloc_at _ _ _ _ (by simp)]; rfl)
    have n8 : (W3.alloc (.cells #[.string ⟨#[110]⟩, .int .i64 0, .bool false, .int .i64 0, .int .i64 0, .int .i64 0, .int .i64 0, .int .i64 0, .int .i64 0, .string ⟨#[120]⟩, .int .i64 0] 24)).cell? ⟨W3.heap.size, 8, none⟩ = some (.int .i64 0) := by first | (simp; done) | (rw [World.cell?_alloc_at _ _ _ _ (by simp)]; rfl) | (rw [World.cell?_alloc_past _ _ _ (by simp <;> omega), World.cell?_alloc_at _ _ _ _ (by simp)]; rfl) | (rw [World.cell?_alloc_past _ _ _ (by simp <;> omega), World.cell?_alloc_past _ _ _ (by simp <;> omega), World.cell?_alloc_at _ _ _ _ (by simp)]; rfl)
    have n9 : (W3.alloc (.cells #[.string ⟨#[110]⟩, .int .i64 0, .bool false, .int .i64 0, .int .i64 0, .int .i64 0, .int .i64 0, .int .i64 0, .int .i64 0, .string ⟨#[120]⟩, .int .i64 0] 24)).cell? ⟨W3.heap.size, 9, none⟩ = some (.string ⟨#[120]⟩) := by first | (simp; done) | (rw [World.cell?_alloc_at _ _ _ _ (by simp)]; rfl) | (rw [World.cell?_alloc_past _ _ _ (by simp <;> omega), World.cell?_alloc_at _ _ _ _ (by simp)]; rfl) | (rw [World.cell?_alloc_past _ _ _ (by simp <;> omega), World.cell?_alloc_past _ _ _ (by simp <;> omega), World.cell?_alloc_at _ _ _ _ (by simp)]; rfl)
    have n10 : (W3.alloc (.cells #[.string ⟨#[110]⟩, .int .i64 0, .bool false, .int .i64 0, .int .i64 0, .int .i64 0, .int .i64 0, .int .i64 0, .int .i64 0, .string ⟨#[120]⟩, .int .i64 0] 24)).cell? ⟨W3.heap.size, 10, none⟩ = some (.int .i64 0) := by first | (simp; done) | (rw [World.cell?_alloc_at _ _ _ _ (by simp)]; rfl) | (rw [World.cell?_alloc_past _ _ _ (by simp <;> omega), World.cell?_alloc_at _ _ _ _ (by simp)]; rfl) | (rw [World.cell?_alloc_past _ _ _ (by simp <;> omega), World.cell?_alloc_past _ _ _ (by simp <;> omega), World.cell?_alloc_at _ _ _ _ (by simp)]; rfl)
    have hb2 := (by repeat (first | exact hbel | refine belAlloc ?_ _ | refine belDrew ?_ | refine belSet ?_ _ _ (by simp)) : Below W3.heap.size W3 (W3.alloc (.cells #[.string ⟨#[110]⟩, .int .i64 0, .bool false, .int .i64 0, .int .i64 0, .int .i64 0, .int .i64 0, .int .i64 0, .int .i64 0, .string ⟨#[120]⟩, .int .i64 0] 24)))
    replace p0 := keepOnP p0 hb2
    replace p1 := keepOnP p1 hb2
    replace p2 := keepOnP p2 hb2
    replace p3 := keepOnP p3 hb2
    replace p4 := keepOnP p4 hb2
    replace p5 := keepOnP p5 hb2
    replace p6 := keepOnP p6 hb2
    replace p7 := keepOnP p7 hb2
    replace p8 := keepOnP p8 hb2
    replace p9 := keepOnP p9 hb2
    replace p10 := keepOnP p10 hb2
    replace q0 := keepOnP q0 hb2
    replace q1 := keepOnP q1 hb2
    replace q2 := keepOnP q2 hb2
    replace q3 := keepOnP q3 hb2
    replace q4 := keepOnP q4 hb2
    replace q5 := keepOnP q5 hb2
    replace q6 := keepOnP q6 hb2
    replace q7 := keepOnP q7 hb2
    replace q8 := keepOnP q8 hb2
    replace q9 := keepOnP q9 hb2
    replace q10 := keepOnP q10 hb2
    replace r0 := keepOnP r0 hb2
    replace r1 := keepOnP r1 hb2
    replace r2 := keepOnP r2 hb2
    replace r3 := keepOnP r3 hb2
    replace r4 := keepOnP r4 hb2
    replace r5 := keepOnP r5 hb2
    replace r6 := keepOnP r6 hb2
    replace r7 := keepOnP r7 hb2
    replace r8 := keepOnP r8 hb2
    replace r9 := keepOnP r9 hb2
    replace r10 := keepOnP r10 hb2
    replace hw := belStep hw hb2
    clear hb2 hbel
    generalize W3.alloc (.cells #[.string ⟨#[110]⟩, .int .i64 0, .bool false, .int .i64 0, .int .i64 0, .int .i64 0, .int .i64 0, .int .i64 0, .int .i64 0, .string ⟨#[120]⟩, .int .i64 0] 24) = W4 at *
    replace n0 := keep n0
    replace n1 := keep n1
    replace n2 := keep n2
    replace n3 := keep n3
    replace n4 := keep n4
    replace n5 := keep n5
    replace n6 := keep n6
    replace n7 := keep n7
    replace n8 := keep n8
    replace n9 := keep n9
    replace n10 := keep n10
    generalize W3.heap.size = n4 at *
    have hbel : Below W4.heap.size W4 W4 := Below.refl _ _
    skip
    go_upto_region 13 with fail
    have m0 : (W4.alloc (.cells #[.string ⟨#[110]⟩, .int .i64 0, .bool false, .int .i64 0, .int .i64 0, .int .i64 0, .int .i64 0, .int .i64 0, .int .i64 (1 + more), .string ⟨#[120]⟩, .int .i64 0] 24)).cell? ⟨W4.heap.size, 0, none⟩ = some (.string ⟨#[110]⟩) := by first | (simp; done) | (rw [World.cell?_alloc_at _ _ _ _ (by simp)]; rfl) | (rw [World.cell?_alloc_past _ _ _ (by simp <;> omega), World.cell?_alloc_at _ _ _ _ (by simp)]; rfl) | (rw [World.cell?_alloc_past _ _ _ (by simp <;> omega), World.cell?_alloc_past _ _ _ (by simp <;> omega), World.cell?_alloc_at _ _ _ _ (by simp)]; rfl)
    have m1 : (W4.alloc (.cells #[.string ⟨#[110]⟩, .int .i64 0, .bool false, .int .i64 0, .int .i64 0, .int .i64 0, .int .i64 0, .int .i64 0, .int .i64 (1 + more), .string ⟨#[120]⟩, .int .i64 0] 24)).cell? ⟨W4.heap.size, 1, none⟩ = some (.int .i64 0) := by first | (simp; done) | (rw [World.cell?_alloc_at _ _ _ _ (by simp)]; rfl) | (rw [World.cell?_alloc_past _ _ _ (by simp <;> omega), World.cell?_alloc_at _ _ _ _ (by simp)]; rfl) | (rw [World.cell?_alloc_past _ _ _ (by simp <;> omega), World.cell?_alloc_past _ _ _ (by simp <;> omega), World.cell?_alloc_at _ _ _ _ (by simp)]; rfl)
    have m2 : (W4.alloc (.cells #[.string ⟨#[110]⟩, .int .i64 0, .bool false, .int .i64 0, .int .i64 0, .int .i64 0, .int .i64 0, .int .i64 0, .int .i64 (1 + more), .string ⟨#[120]⟩, .int .i64 0] 24)).cell? ⟨W4.heap.size, 2, none⟩ = some (.bool false) := by first | (simp; done) | (rw [World.cell?_alloc_at _ _ _ _ (by simp)]; rfl) | (rw [World.cell?_alloc_past _ _ _ (by simp <;> omega), World.cell?_alloc_at _ _ _ _ (by simp)]; rfl) | (rw [World.cell?_alloc_past _ _ _ (by simp <;> omega), World.cell?_alloc_past _ _ _ (by simp <;> omega), World.cell?_alloc_at _ _ _ _ (by simp)]; rfl)
    have m3 : (W4.alloc (.cells #[.string ⟨#[110]⟩, .int .i64 0, .bool false, .int .i64 0, .int .i64 0, .int .i64 0, .int .i64 0, .int .i64 0, .int .i64 (1 + more), .string ⟨#[120]⟩, .int .i64 0] 24)).cell? ⟨W4.heap.size, 3, none⟩ = some (.int .i64 0) := by first | (simp; done) | (rw [World.cell?_alloc_at _ _ _ _ (by simp)]; rfl) | (rw [World.cell?_alloc_past _ _ _ (by simp <;> omega), World.cell?_alloc_at _ _ _ _ (by simp)]; rfl) | (rw [World.cell?_alloc_past _ _ _ (by simp <;> omega), World.cell?_alloc_past _ _ _ (by simp <;> omega), World.cell?_alloc_at _ _ _ _ (by simp)]; rfl)
    have m4 : (W4.alloc (.cells #[.string ⟨#[110]⟩, .int .i64 0, .bool false, .int .i64 0, .int .i64 0, .int .i64 0, .int .i64 0, .int .i64 0, .int .i64 (1 + more), .string ⟨#[120]⟩, .int .i64 0] 24)).cell? ⟨W4.heap.size, 4, none⟩ = some (.int .i64 0) := by first | (simp; done) | (rw [World.cell?_alloc_at _ _ _ _ (by simp)]; rfl) | (rw [World.cell?_alloc_past _ _ _ (by simp <;> omega), World.cell?_alloc_at _ _ _ _ (by simp)]; rfl) | (rw [World.cell?_alloc_past _ _ _ (by simp <;> omega), World.cell?_alloc_past _ _ _ (by simp <;> omega), World.cell?_alloc_at _ _ _ _ (by simp)]; rfl)
    have m5 : (W4.alloc (.cells #[.string ⟨#[110]⟩, .int .i64 0, .bool false, .int .i64 0, .int .i64 0, .int .i64 0, .int .i64 0, .int .i64 0, .int .i64 (1 + more), .string ⟨#[120]⟩, .int .i64 0] 24)).cell? ⟨W4.heap.size, 5, none⟩ = some (.int .i64 0) := by first | (simp; done) | (rw [World.cell?_alloc_at _ _ _ _ (by simp)]; rfl) | (rw [World.cell?_alloc_past _ _ _ (by simp <;> omega), World.cell?_alloc_at _ _ _ _ (by simp)]; rfl) | (rw [World.cell?_alloc_past _ _ _ (by simp <;> omega), World.cell?_alloc_past _ _ _ (by simp <;> omega), World.cell?_alloc_at _ _ _ _ (by simp)]; rfl)
    have m6 : (W4.alloc (.cells #[.string ⟨#[110]⟩, .int .i64 0, .bool false, .int .i64 0, .int .i64 0, .int .i64 0, .int .i64 0, .int .i64 0, .int .i64 (1 + more), .string ⟨#[120]⟩, .int .i64 0] 24)).cell? ⟨W4.heap.size, 6, none⟩ = some (.int .i64 0) := by first | (simp; done) | (rw [World.cell?_alloc_at _ _ _ _ (by simp)]; rfl) | (rw [World.cell?_alloc_past _ _ _ (by simp <;> omega), World.cell?_alloc_at _ _ _ _ (by simp)]; rfl) | (rw [World.cell?_alloc_past _ _ _ (by simp <;> omega), World.cell?_alloc_past _ _ _ (by simp <;> omega), World.cell?_alloc_at _ _ _ _ (by simp)]; rfl)
    have m7 : (W4.alloc (.cells #[.string ⟨#[110]⟩, .int .i64 0, .bool false, .int .i64 0, .int .i64 0, .int .i64 0, .int .i64 0, .int .i64 0, .int .i64 (1 + more), .string ⟨#[120]⟩, .int .i64 0] 24)).cell? ⟨W4.heap.size, 7, none⟩ = some (.int .i64 0) := by first | (simp; done) | (rw [World.cell?_alloc_at _ _ _ _ (by simp)]; rfl) | (rw [World.cell?_alloc_past _ _ _ (by simp <;> omega), World.cell?_alloc_at _ _ _ _ (by simp)]; rfl) | (rw [World.cell?_alloc_past _ _ _ (by simp <;> omega), World.cell?_alloc_past _ _ _ (by simp <;> omega), World.cell?_alloc_at _ _ _ _ (by simp)]; rfl)
    have m8 : (W4.alloc (.cells #[.string ⟨#[110]⟩, .int .i64 0, .bool false, .int .i64 0, .int .i64 0, .int .i64 0, .int .i64 0, .int .i64 0, .int .i64 (1 + more), .string ⟨#[120]⟩, .int .i64 0] 24)).cell? ⟨W4.heap.size, 8, none⟩ = some (.int .i64 (1 + more)) := by first | (simp; done) | (rw [World.cell?_alloc_at _ _ _ _ (by simp)]; rfl) | (rw [World.cell?_alloc_past _ _ _ (by simp <;> omega), World.cell?_alloc_at _ _ _ _ (by simp)]; rfl) | (rw [World.cell?_alloc_past _ _ _ (by simp <;> omega), World.cell?_alloc_past _ _ _ (by simp <;> omega), World.cell?_alloc_at _ _ _ _ (by simp)]; rfl)
    have m9 : (W4.alloc (.cells #[.string ⟨#[110]⟩, .int .i64 0, .bool false, .int .i64 0, .int .i64 0, .int .i64 0, .int .i64 0, .int .i64 0, .int .i64 (1 + more), .string ⟨#[120]⟩, .int .i64 0] 24)).cell? ⟨W4.heap.size, 9, none⟩ = some (.string ⟨#[120]⟩) := by first | (simp; done) | (rw [World.cell?_alloc_at _ _ _ _ (by simp)]; rfl) | (rw [World.cell?_alloc_past _ _ _ (by simp <;> omega), World.cell?_alloc_at _ _ _ _ (by simp)]; rfl) | (rw [World.cell?_alloc_past _ _ _ (by simp <;> omega), World.cell?_alloc_past _ _ _ (by simp <;> omega), World.cell?_alloc_at _ _ _ _ (by simp)]; rfl)
    have m10 : (W4.alloc (.cells #[.string ⟨#[110]⟩, .int .i64 0, .bool false, .int .i64 0, .int .i64 0, .int .i64 0, .int .i64 0, .int .i64 0, .int .i64 (1 + more), .string ⟨#[120]⟩, .int .i64 0] 24)).cell? ⟨W4.heap.size, 10, none⟩ = some (.int .i64 0) := by first | (simp; done) | (rw [World.cell?_alloc_at _ _ _ _ (by simp)]; rfl) | (rw [World.cell?_alloc_past _ _ _ (by simp <;> omega), World.cell?_alloc_at _ _ _ _ (by simp)]; rfl) | (rw [World.cell?_alloc_past _ _ _ (by simp <;> omega), World.cell?_alloc_past _ _ _ (by simp <;> omega), World.cell?_alloc_at _ _ _ _ (by simp)]; rfl)
    have hb2 := (by repeat (first | exact hbel | refine belAlloc ?_ _ | refine belDrew ?_ | refine belSet ?_ _ _ (by simp)) : Below W4.heap.size W4 (W4.alloc (.cells #[.string ⟨#[110]⟩, .int .i64 0, .bool false, .int .i64 0, .int .i64 0, .int .i64 0, .int .i64 0, .int .i64 0, .int .i64 (1 + more), .string ⟨#[120]⟩, .int .i64 0] 24)))
    replace p0 := keepOnP p0 hb2
    replace p1 := keepOnP p1 hb2
    replace p2 := keepOnP p2 hb2
    replace p3 := keepOnP p3 hb2
    replace p4 := keepOnP p4 hb2
    replace p5 := keepOnP p5 hb2
    replace p6 := keepOnP p6 hb2
    replace p7 := keepOnP p7 hb2
    replace p8 := keepOnP p8 hb2
    replace p9 := keepOnP p9 hb2
    replace p10 := keepOnP p10 hb2
    replace q0 := keepOnP q0 hb2
    replace q1 := keepOnP q1 hb2
    replace q2 := keepOnP q2 hb2
    replace q3 := keepOnP q3 hb2
    replace q4 := keepOnP q4 hb2
    replace q5 := keepOnP q5 hb2
    replace q6 := keepOnP q6 hb2
    replace q7 := keepOnP q7 hb2
    replace q8 := keepOnP q8 hb2
    replace q9 := keepOnP q9 hb2
    replace q10 := keepOnP q10 hb2
    replace r0 := keepOnP r0 hb2
    replace r1 := keepOnP r1 hb2
    replace r2 := keepOnP r2 hb2
    replace r3 := keepOnP r3 hb2
    replace r4 := keepOnP r4 hb2
    replace r5 := keepOnP r5 hb2
    replace r6 := keepOnP r6 hb2
    replace r7 := keepOnP r7 hb2
    replace r8 := keepOnP r8 hb2
    replace r9 := keepOnP r9 hb2
    replace r10 := keepOnP r10 hb2
    replace n0 := keepOnP n0 hb2
    replace n1 := keepOnP n1 hb2
    replace n2 := keepOnP n2 hb2
    replace n3 := keepOnP n3 hb2
    replace n4 := keepOnP n4 hb2
    replace n5 := keepOnP n5 hb2
    replace n6 := keepOnP n6 hb2
    replace n7 := keepOnP n7 hb2
    replace n8 := keepOnP n8 hb2
    replace n9 := keepOnP n9 hb2
    replace n10 := keepOnP n10 hb2
    replace hw := belStep hw hb2
    clear hb2 hbel
    generalize W4.alloc (.cells #[.string ⟨#[110]⟩, .int .i64 0, .bool false, .int .i64 0, .int .i64 0, .int .i64 0, .int .i64 0, .int .i64 0, .int .i64 (1 + more), .string ⟨#[120]⟩, .int .i64 0] 24) = W5 at *
    replace m0 := keep m0
    replace m1 := keep m1
    replace m2 := keep m2
    replace m3 := keep m3
    replace m4 := keep m4
    replace m5 := keep m5
    replace m6 := keep m6
    replace m7 := keep m7
    replace m8 := keep m8
    replace m9 := keep m9
    replace m10 := keep m10
    generalize W4.heap.size = n5 at *
    have hbel : Below W5.heap.size W5 W5 := Below.refl _ _
    skip
    go_wp2_with (first | (go_at_call 29; (with_reducible refine (CP.out _).mono ?_); rintro e w1 ⟨rfl, hb1⟩; replace hbel := belStep hbel hb1; clear hb1) | (go_at_call 29; (with_reducible refine (CQ0.out _).mono ?_); rintro e w1 ⟨rfl, hb1⟩; replace hbel := belStep hbel hb1; clear hb1) | (go_at_call 29; (with_reducible refine (CR0.out _).mono ?_); rintro e w1 ⟨rfl, hb1⟩; replace hbel := belStep hbel hb1; clear hb1) | (go_at_call 29; (with_reducible refine (CN.out _).mono ?_); rintro e w1 ⟨rfl, hb1⟩; replace hbel := belStep hbel hb1; clear hb1) | (go_at_call 29; (with_reducible refine (CM.out _).mono ?_); rintro e w1 ⟨rfl, hb1⟩; replace hbel := belStep hbel hb1; clear hb1))
    go_ret
    exact ⟨rfl, belStep hw hbel⟩
  · go_enter Try.func13, Try.ntmps13
    go_upto_region 5 with (first | (go_at_call 28; (with_reducible refine (awake13 _).mono ?_); rintro e w1 ⟨rfl, hb1⟩; replace hbel := belStep hbel hb1; clear hb1))
    have p0 : (w1.alloc (.cells #[.string ⟨#[112]⟩, .int .i64 0, .bool false, .int .i64 (1 + a), .int .i64 (1 + b), .int .i64 c, .int .i64 (1 + a), .int .i64 (1 + b), .int .i64 0, .string ⟨#[120]⟩, .int .i64 0] 24)).cell? ⟨w1.heap.size, 0, none⟩ = some (.string ⟨#[112]⟩) := by first | (simp; done) | (rw [World.cell?_alloc_at _ _ _ _ (by simp)]; rfl) | (rw [World.cell?_alloc_past _ _ _ (by simp <;> omega), World.cell?_alloc_at _ _ _ _ (by simp)]; rfl) | (rw [World.cell?_alloc_past _ _ _ (by simp <;> omega), World.cell?_alloc_past _ _ _ (by simp <;> omega), World.cell?_alloc_at _ _ _ _ (by simp)]; rfl)
    have p1 : (w1.alloc (.cells #[.string ⟨#[112]⟩, .int .i64 0, .bool false, .int .i64 (1 + a), .int .i64 (1 + b), .int .i64 c, .int .i64 (1 + a), .int .i64 (1 + b), .int .i64 0, .string ⟨#[120]⟩, .int .i64 0] 24)).cell? ⟨w1.heap.size, 1, none⟩ = some (.int .i64 0) := by first | (simp; done) | (rw [World.cell?_alloc_at _ _ _ _ (by simp)]; rfl) | (rw [World.cell?_alloc_past _ _ _ (by simp <;> omega), World.cell?_alloc_at _ _ _ _ (by simp)]; rfl) | (rw [World.cell?_alloc_past _ _ _ (by simp <;> omega), World.cell?_alloc_past _ _ _ (by simp <;> omega), World.cell?_alloc_at _ _ _ _ (by simp)]; rfl)
    have p2 : (w1.alloc (.cells #[.string ⟨#[112]⟩, .int .i64 0, .bool false, .int .i64 (1 + a), .int .i64 (1 + b), .int .i64 c, .int .i64 (1 + a), .int .i64 (1 + b), .int .i64 0, .string ⟨#[120]⟩, .int .i64 0] 24)).cell? ⟨w1.heap.size, 2, none⟩ = some (.bool false) := by first | (simp; done) | (rw [World.cell?_alloc_at _ _ _ _ (by simp)]; rfl) | (rw [World.cell?_alloc_past _ _ _ (by simp <;> omega), World.cell?_alloc_at _ _ _ _ (by simp)]; rfl) | (rw [World.cell?_alloc_past _ _ _ (by simp <;> omega), World.cell?_alloc_past _ _ _ (by simp <;> omega), World.cell?_alloc_at _ _ _ _ (by simp)]; rfl)
    have p3 : (w1.alloc (.cells #[.string ⟨#[112]⟩, .int .i64 0, .bool false, .int .i64 (1 + a), .int .i64 (1 + b), .int .i64 c, .int .i64 (1 + a), .int .i64 (1 + b), .int .i64 0, .string ⟨#[120]⟩, .int .i64 0] 24)).cell? ⟨w1.heap.size, 3, none⟩ = some (.int .i64 (1 + a)) := by first | (simp; done) | (rw [World.cell?_alloc_at _ _ _ _ (by simp)]; rfl) | (rw [World.cell?_alloc_past _ _ _ (by simp <;> omega), World.cell?_alloc_at _ _ _ _ (by simp)]; rfl) | (rw [World.cell?_alloc_past _ _ _ (by simp <;> omega), World.cell?_alloc_past _ _ _ (by simp <;> omega), World.cell?_alloc_at _ _ _ _ (by simp)]; rfl)
    have p4 : (w1.alloc (.cells #[.string ⟨#[112]⟩, .int .i64 0, .bool false, .int .i64 (1 + a), .int .i64 (1 + b), .int .i64 c, .int .i64 (1 + a), .int .i64 (1 + b), .int .i64 0, .string ⟨#[120]⟩, .int .i64 0] 24)).cell? ⟨w1.heap.size, 4, none⟩ = some (.int .i64 (1 + b)) := by first | (simp; done) | (rw [World.cell?_alloc_at _ _ _ _ (by simp)]; rfl) | (rw [World.cell?_alloc_past _ _ _ (by simp <;> omega), World.cell?_alloc_at _ _ _ _ (by simp)]; rfl) | (rw [World.cell?_alloc_past _ _ _ (by simp <;> omega), World.cell?_alloc_past _ _ _ (by simp <;> omega), World.cell?_alloc_at _ _ _ _ (by simp)]; rfl)
    have p5 : (w1.alloc (.cells #[.string ⟨#[112]⟩, .int .i64 0, .bool false, .int .i64 (1 + a), .int .i64 (1 + b), .int .i64 c, .int .i64 (1 + a), .int .i64 (1 + b), .int .i64 0, .string ⟨#[120]⟩, .int .i64 0] 24)).cell? ⟨w1.heap.size, 5, none⟩ = some (.int .i64 c) := by first | (simp; done) | (rw [World.cell?_alloc_at _ _ _ _ (by simp)]; rfl) | (rw [World.cell?_alloc_past _ _ _ (by simp <;> omega), World.cell?_alloc_at _ _ _ _ (by simp)]; rfl) | (rw [World.cell?_alloc_past _ _ _ (by simp <;> omega), World.cell?_alloc_past _ _ _ (by simp <;> omega), World.cell?_alloc_at _ _ _ _ (by simp)]; rfl)
    have p6 : (w1.alloc (.cells #[.string ⟨#[112]⟩, .int .i64 0, .bool false, .int .i64 (1 + a), .int .i64 (1 + b), .int .i64 c, .int .i64 (1 + a), .int .i64 (1 + b), .int .i64 0, .string ⟨#[120]⟩, .int .i64 0] 24)).cell? ⟨w1.heap.size, 6, none⟩ = some (.int .i64 (1 + a)) := by first | (simp; done) | (rw [World.cell?_alloc_at _ _ _ _ (by simp)]; rfl) | (rw [World.cell?_alloc_past _ _ _ (by simp <;> omega), World.cell?_alloc_at _ _ _ _ (by simp)]; rfl) | (rw [World.cell?_alloc_past _ _ _ (by simp <;> omega), World.cell?_alloc_past _ _ _ (by simp <;> omega), World.cell?_alloc_at _ _ _ _ (by simp)]; rfl)
    have p7 : (w1.alloc (.cells #[.string ⟨#[112]⟩, .int .i64 0, .bool false, .int .i64 (1 + a), .int .i64 (1 + b), .int .i64 c, .int .i64 (1 + a), .int .i64 (1 + b), .int .i64 0, .string ⟨#[120]⟩, .int .i64 0] 24)).cell? ⟨w1.heap.size, 7, none⟩ = some (.int .i64 (1 + b)) := by first | (simp; done) | (rw [World.cell?_alloc_at _ _ _ _ (by simp)]; rfl) | (rw [World.cell?_alloc_past _ _ _ (by simp <;> omega), World.cell?_alloc_at _ _ _ _ (by simp)]; rfl) | (rw [World.cell?_alloc_past _ _ _ (by simp <;> omega), World.cell?_alloc_past _ _ _ (by simp <;> omega), World.cell?_alloc_at _ _ _ _ (by simp)]; rfl)
    have p8 : (w1.alloc (.cells #[.string ⟨#[112]⟩, .int .i64 0, .bool false, .int .i64 (1 + a), .int .i64 (1 + b), .int .i64 c, .int .i64 (1 + a), .int .i64 (1 + b), .int .i64 0, .string ⟨#[120]⟩, .int .i64 0] 24)).cell? ⟨w1.heap.size, 8, none⟩ = some (.int .i64 0) := by first | (simp; done) | (rw [World.cell?_alloc_at _ _ _ _ (by simp)]; rfl) | (rw [World.cell?_alloc_past _ _ _ (by simp <;> omega), World.cell?_alloc_at _ _ _ _ (by simp)]; rfl) | (rw [World.cell?_alloc_past _ _ _ (by simp <;> omega), World.cell?_alloc_past _ _ _ (by simp <;> omega), World.cell?_alloc_at _ _ _ _ (by simp)]; rfl)
    have p9 : (w1.alloc (.cells #[.string ⟨#[112]⟩, .int .i64 0, .bool false, .int .i64 (1 + a), .int .i64 (1 + b), .int .i64 c, .int .i64 (1 + a), .int .i64 (1 + b), .int .i64 0, .string ⟨#[120]⟩, .int .i64 0] 24)).cell? ⟨w1.heap.size, 9, none⟩ = some (.string ⟨#[120]⟩) := by first | (simp; done) | (rw [World.cell?_alloc_at _ _ _ _ (by simp)]; rfl) | (rw [World.cell?_alloc_past _ _ _ (by simp <;> omega), World.cell?_alloc_at _ _ _ _ (by simp)]; rfl) | (rw [World.cell?_alloc_past _ _ _ (by simp <;> omega), World.cell?_alloc_past _ _ _ (by simp <;> omega), World.cell?_alloc_at _ _ _ _ (by simp)]; rfl)
    have p10 : (w1.alloc (.cells #[.string ⟨#[112]⟩, .int .i64 0, .bool false, .int .i64 (1 + a), .int .i64 (1 + b), .int .i64 c, .int .i64 (1 + a), .int .i64 (1 + b), .int .i64 0, .string ⟨#[120]⟩, .int .i64 0] 24)).cell? ⟨w1.heap.size, 10, none⟩ = some (.int .i64 0) := by first | (simp; done) | (rw [World.cell?_alloc_at _ _ _ _ (by simp)]; rfl) | (rw [World.cell?_alloc_past _ _ _ (by simp <;> omega), World.cell?_alloc_at _ _ _ _ (by simp)]; rfl) | (rw [World.cell?_alloc_past _ _ _ (by simp <;> omega), World.cell?_alloc_past _ _ _ (by simp <;> omega), World.cell?_alloc_at _ _ _ _ (by simp)]; rfl)
    have hb2 := (by repeat (first | exact hbel | refine belAlloc ?_ _ | refine belDrew ?_ | refine belSet ?_ _ _ (by simp)) : Below w.heap.size w (w1.alloc (.cells #[.string ⟨#[112]⟩, .int .i64 0, .bool false, .int .i64 (1 + a), .int .i64 (1 + b), .int .i64 c, .int .i64 (1 + a), .int .i64 (1 + b), .int .i64 0, .string ⟨#[120]⟩, .int .i64 0] 24)))
    replace hw := belStep hw hb2
    clear hb2 hbel
    generalize w1.alloc (.cells #[.string ⟨#[112]⟩, .int .i64 0, .bool false, .int .i64 (1 + a), .int .i64 (1 + b), .int .i64 c, .int .i64 (1 + a), .int .i64 (1 + b), .int .i64 0, .string ⟨#[120]⟩, .int .i64 0] 24) = W1 at *
    replace p0 := keep p0
    replace p1 := keep p1
    replace p2 := keep p2
    replace p3 := keep p3
    replace p4 := keep p4
    replace p5 := keep p5
    replace p6 := keep p6
    replace p7 := keep p7
    replace p8 := keep p8
    replace p9 := keep p9
    replace p10 := keep p10
    generalize w1.heap.size = n1 at *
    have hbel : Below W1.heap.size W1 W1 := Below.refl _ _
    clear w1
    go_upto_region 8 with fail
    have q0 : (W1.alloc (.cells #[.string ⟨#[112]⟩, .int .i64 0, .bool false, .int .i64 (1 + a), .int .i64 (1 + b), .int .i64 c, .int .i64 (1 + a), .int .i64 (1 + b + 1 + more), .int .i64 0, .string ⟨#[120]⟩, .int .i64 0] 24)).cell? ⟨W1.heap.size, 0, none⟩ = some (.string ⟨#[112]⟩) := by first | (simp; done) | (rw [World.cell?_alloc_at _ _ _ _ (by simp)]; rfl) | (rw [World.cell?_alloc_past _ _ _ (by simp <;> omega), World.cell?_alloc_at _ _ _ _ (by simp)]; rfl) | (rw [World.cell?_alloc_past _ _ _ (by simp <;> omega), World.cell?_alloc_past _ _ _ (by simp <;> omega), World.cell?_alloc_at _ _ _ _ (by simp)]; rfl)
    have q1 : (W1.alloc (.cells #[.string ⟨#[112]⟩, .int .i64 0, .bool false, .int .i64 (1 + a), .int .i64 (1 + b), .int .i64 c, .int .i64 (1 + a), .int .i64 (1 + b + 1 + more), .int .i64 0, .string ⟨#[120]⟩, .int .i64 0] 24)).cell? ⟨W1.heap.size, 1, none⟩ = some (.int .i64 0) := by first | (simp; done) | (rw [World.cell?_alloc_at _ _ _ _ (by simp)]; rfl) | (rw [World.cell?_alloc_past _ _ _ (by simp <;> omega), World.cell?_alloc_at _ _ _ _ (by simp)]; rfl) | (rw [World.cell?_alloc_past _ _ _ (by simp <;> omega), World.cell?_alloc_past _ _ _ (by simp <;> omega), World.cell?_alloc_at _ _ _ _ (by simp)]; rfl)
    have q2 : (W1.alloc (.cells #[.string ⟨#[112]⟩, .int .i64 0, .bool false, .int .i64 (1 + a), .int .i64 (1 + b), .int .i64 c, .int .i64 (1 + a), .int .i64 (1 + b + 1 + more), .int .i64 0, .string ⟨#[120]⟩, .int .i64 0] 24)).cell? ⟨W1.heap.size, 2, none⟩ = some (.bool false) := by first | (simp; done) | (rw [World.cell?_alloc_at _ _ _ _ (by simp)]; rfl) | (rw [World.cell?_alloc_past _ _ _ (by simp <;> omega), World.cell?_alloc_at _ _ _ _ (by simp)]; rfl) | (rw [World.cell?_alloc_past _ _ _ (by simp <;> omega), World.cell?_alloc_past _ _ _ (by simp <;> omega), World.cell?_alloc_at _ _ _ _ (by simp)]; rfl)
    have q3 : (W1.alloc (.cells #[.string ⟨#[112]⟩, .int .i64 0, .bool false, .int .i64 (1 + a), .int .i64 (1 + b), .int .i64 c, .int .i64 (1 + a), .int .i64 (1 + b + 1 + more), .int .i64 0, .string ⟨#[120]⟩, .int .i64 0] 24)).cell? ⟨W1.heap.size, 3, none⟩ = some (.int .i64 (1 + a)) := by first | (simp; done) | (rw [World.cell?_alloc_at _ _ _ _ (by simp)]; rfl) | (rw [World.cell?_alloc_past _ _ _ (by simp <;> omega), World.cell?_alloc_at _ _ _ _ (by simp)]; rfl) | (rw [World.cell?_alloc_past _ _ _ (by simp <;> omega), World.cell?_alloc_past _ _ _ (by simp <;> omega), World.cell?_alloc_at _ _ _ _ (by simp)]; rfl)
    have q4 : (W1.alloc (.cells #[.string ⟨#[112]⟩, .int .i64 0, .bool false, .int .i64 (1 + a), .int .i64 (1 + b), .int .i64 c, .int .i64 (1 + a), .int .i64 (1 + b + 1 + more), .int .i64 0, .string ⟨#[120]⟩, .int .i64 0] 24)).cell? ⟨W1.heap.size, 4, none⟩ = some (.int .i64 (1 + b)) := by first | (simp; done) | (rw [World.cell?_alloc_at _ _ _ _ (by simp)]; rfl) | (rw [World.cell?_alloc_past _ _ _ (by simp <;> omega), World.cell?_alloc_at _ _ _ _ (by simp)]; rfl) | (rw [World.cell?_alloc_past _ _ _ (by simp <;> omega), World.cell?_alloc_past _ _ _ (by simp <;> omega), World.cell?_alloc_at _ _ _ _ (by simp)]; rfl)
    have q5 : (W1.alloc (.cells #[.string ⟨#[112]⟩, .int .i64 0, .bool false, .int .i64 (1 + a), .int .i64 (1 + b), .int .i64 c, .int .i64 (1 + a), .int .i64 (1 + b + 1 + more), .int .i64 0, .string ⟨#[120]⟩, .int .i64 0] 24)).cell? ⟨W1.heap.size, 5, none⟩ = some (.int .i64 c) := by first | (simp; done) | (rw [World.cell?_alloc_at _ _ _ _ (by simp)]; rfl) | (rw [World.cell?_alloc_past _ _ _ (by simp <;> omega), World.cell?_alloc_at _ _ _ _ (by simp)]; rfl) | (rw [World.cell?_alloc_past _ _ _ (by simp <;> omega), World.cell?_alloc_past _ _ _ (by simp <;> omega), World.cell?_alloc_at _ _ _ _ (by simp)]; rfl)
    have q6 : (W1.alloc (.cells #[.string ⟨#[112]⟩, .int .i64 0, .bool false, .int .i64 (1 + a), .int .i64 (1 + b), .int .i64 c, .int .i64 (1 + a), .int .i64 (1 + b + 1 + more), .int .i64 0, .string ⟨#[120]⟩, .int .i64 0] 24)).cell? ⟨W1.heap.size, 6, none⟩ = some (.int .i64 (1 + a)) := by first | (simp; done) | (rw [World.cell?_alloc_at _ _ _ _ (by simp)]; rfl) | (rw [World.cell?_alloc_past _ _ _ (by simp <;> omega), World.cell?_alloc_at _ _ _ _ (by simp)]; rfl) | (rw [World.cell?_alloc_past _ _ _ (by simp <;> omega), World.cell?_alloc_past _ _ _ (by simp <;> omega), World.cell?_alloc_at _ _ _ _ (by simp)]; rfl)
    have q7 : (W1.alloc (.cells #[.string ⟨#[112]⟩, .int .i64 0, .bool false, .int .i64 (1 + a), .int .i64 (1 + b), .int .i64 c, .int .i64 (1 + a), .int .i64 (1 + b + 1 + more), .int .i64 0, .string ⟨#[120]⟩, .int .i64 0] 24)).cell? ⟨W1.heap.size, 7, none⟩ = some (.int .i64 (1 + b + 1 + more)) := by first | (simp; done) | (rw [World.cell?_alloc_at _ _ _ _ (by simp)]; rfl) | (rw [World.cell?_alloc_past _ _ _ (by simp <;> omega), World.cell?_alloc_at _ _ _ _ (by simp)]; rfl) | (rw [World.cell?_alloc_past _ _ _ (by simp <;> omega), World.cell?_alloc_past _ _ _ (by simp <;> omega), World.cell?_alloc_at _ _ _ _ (by simp)]; rfl)
    have q8 : (W1.alloc (.cells #[.string ⟨#[112]⟩, .int .i64 0, .bool false, .int .i64 (1 + a), .int .i64 (1 + b), .int .i64 c, .int .i64 (1 + a), .int .i64 (1 + b + 1 + more), .int .i64 0, .string ⟨#[120]⟩, .int .i64 0] 24)).cell? ⟨W1.heap.size, 8, none⟩ = some (.int .i64 0) := by first | (simp; done) | (rw [World.cell?_alloc_at _ _ _ _ (by simp)]; rfl) | (rw [World.cell?_alloc_past _ _ _ (by simp <;> omega), World.cell?_alloc_at _ _ _ _ (by simp)]; rfl) | (rw [World.cell?_alloc_past _ _ _ (by simp <;> omega), World.cell?_alloc_past _ _ _ (by simp <;> omega), World.cell?_alloc_at _ _ _ _ (by simp)]; rfl)
    have q9 : (W1.alloc (.cells #[.string ⟨#[112]⟩, .int .i64 0, .bool false, .int .i64 (1 + a), .int .i64 (1 + b), .int .i64 c, .int .i64 (1 + a), .int .i64 (1 + b + 1 + more), .int .i64 0, .string ⟨#[120]⟩, .int .i64 0] 24)).cell? ⟨W1.heap.size, 9, none⟩ = some (.string ⟨#[120]⟩) := by first | (simp; done) | (rw [World.cell?_alloc_at _ _ _ _ (by simp)]; rfl) | (rw [World.cell?_alloc_past _ _ _ (by simp <;> omega), World.cell?_alloc_at _ _ _ _ (by simp)]; rfl) | (rw [World.cell?_alloc_past _ _ _ (by simp <;> omega), World.cell?_alloc_past _ _ _ (by simp <;> omega), World.cell?_alloc_at _ _ _ _ (by simp)]; rfl)
    have q10 : (W1.alloc (.cells #[.string ⟨#[112]⟩, .int .i64 0, .bool false, .int .i64 (1 + a), .int .i64 (1 + b), .int .i64 c, .int .i64 (1 + a), .int .i64 (1 + b + 1 + more), .int .i64 0, .string ⟨#[120]⟩, .int .i64 0] 24)).cell? ⟨W1.heap.size, 10, none⟩ = some (.int .i64 0) := by first | (simp; done) | (rw [World.cell?_alloc_at _ _ _ _ (by simp)]; rfl) | (rw [World.cell?_alloc_past _ _ _ (by simp <;> omega), World.cell?_alloc_at _ _ _ _ (by simp)]; rfl) | (rw [World.cell?_alloc_past _ _ _ (by simp <;> omega), World.cell?_alloc_past _ _ _ (by simp <;> omega), World.cell?_alloc_at _ _ _ _ (by simp)]; rfl)
    have hb2 := (by repeat (first | exact hbel | refine belAlloc ?_ _ | refine belDrew ?_ | refine belSet ?_ _ _ (by simp)) : Below W1.heap.size W1 (W1.alloc (.cells #[.string ⟨#[112]⟩, .int .i64 0, .bool false, .int .i64 (1 + a), .int .i64 (1 + b), .int .i64 c, .int .i64 (1 + a), .int .i64 (1 + b + 1 + more), .int .i64 0, .string ⟨#[120]⟩, .int .i64 0] 24)))
    replace p0 := keepOnP p0 hb2
    replace p1 := keepOnP p1 hb2
    replace p2 := keepOnP p2 hb2
    replace p3 := keepOnP p3 hb2
    replace p4 := keepOnP p4 hb2
    replace p5 := keepOnP p5 hb2
    replace p6 := keepOnP p6 hb2
    replace p7 := keepOnP p7 hb2
    replace p8 := keepOnP p8 hb2
    replace p9 := keepOnP p9 hb2
    replace p10 := keepOnP p10 hb2
    replace hw := belStep hw hb2
    clear hb2 hbel
    generalize W1.alloc (.cells #[.string ⟨#[112]⟩, .int .i64 0, .bool false, .int .i64 (1 + a), .int .i64 (1 + b), .int .i64 c, .int .i64 (1 + a), .int .i64 (1 + b + 1 + more), .int .i64 0, .string ⟨#[120]⟩, .int .i64 0] 24) = W2 at *
    replace q0 := keep q0
    replace q1 := keep q1
    replace q2 := keep q2
    replace q3 := keep q3
    replace q4 := keep q4
    replace q5 := keep q5
    replace q6 := keep q6
    replace q7 := keep q7
    replace q8 := keep q8
    replace q9 := keep q9
    replace q10 := keep q10
    generalize W1.heap.size = n2 at *
    have hbel : Below W2.heap.size W2 W2 := Below.refl _ _
    skip
    go_upto_region 10 with fail
    have r0 : (W2.alloc (.cells #[.string ⟨#[112]⟩, .int .i64 0, .bool false, .int .i64 (1 + a), .int .i64 (1 + b), .int .i64 c, .int .i64 (1 + a), .int .i64 0, .int .i64 0, .string ⟨#[120]⟩, .int .i64 0] 24)).cell? ⟨W2.heap.size, 0, none⟩ = some (.string ⟨#[112]⟩) := by first | (simp; done) | (rw [World.cell?_alloc_at _ _ _ _ (by simp)]; rfl) | (rw [World.cell?_alloc_past _ _ _ (by simp <;> omega), World.cell?_alloc_at _ _ _ _ (by simp)]; rfl) | (rw [World.cell?_alloc_past _ _ _ (by simp <;> omega), World.cell?_alloc_past _ _ _ (by simp <;> omega), World.cell?_alloc_at _ _ _ _ (by simp)]; rfl)
    have r1 : (W2.alloc (.cells #[.string ⟨#[112]⟩, .int .i64 0, .bool false, .int .i64 (1 + a), .int .i64 (1 + b), .int .i64 c, .int .i64 (1 + a), .int .i64 0, .int .i64 0, .string ⟨#[120]⟩, .int .i64 0] 24)).cell? ⟨W2.heap.size, 1, none⟩ = some (.int .i64 0) := by first | (simp; done) | (rw [World.cell?_alloc_at _ _ _ _ (by simp)]; rfl) | (rw [World.cell?_alloc_past _ _ _ (by simp <;> omega), World.cell?_alloc_at _ _ _ _ (by simp)]; rfl) | (rw [World.cell?_alloc_past _ _ _ (by simp <;> omega), World.cell?_alloc_past _ _ _ (by simp <;> omega), World.cell?_alloc_at _ _ _ _ (by simp)]; rfl)
    have r2 : (W2.alloc (.cells #[.string ⟨#[112]⟩, .int .i64 0, .bool false, .int .i64 (1 + a), .int .i64 (1 + b), .int .i64 c, .int .i64 (1 + a), .int .i64 0, .int .i64 0, .string ⟨#[120]⟩, .int .i64 0] 24)).cell? ⟨W2.heap.size, 2, none⟩ = some (.bool false) := by first | (simp; done) | (rw [World.cell?_alloc_at _ _ _ _ (by simp)]; rfl) | (rw [World.cell?_alloc_past _ _ _ (by simp <;> omega), World.cell?_alloc_at _ _ _ _ (by simp)]; rfl) | (rw [World.cell?_alloc_past _ _ _ (by simp <;> omega), World.cell?_alloc_past _ _ _ (by simp <;> omega), World.cell?_alloc_at _ _ _ _ (by simp)]; rfl)
    have r3 : (W2.alloc (.cells #[.string ⟨#[112]⟩, .int .i64 0, .bool false, .int .i64 (1 + a), .int .i64 (1 + b), .int .i64 c, .int .i64 (1 + a), .int .i64 0, .int .i64 0, .string ⟨#[120]⟩, .int .i64 0] 24)).cell? ⟨W2.heap.size, 3, none⟩ = some (.int .i64 (1 + a)) := by first | (simp; done) | (rw [World.cell?_alloc_at _ _ _ _ (by simp)]; rfl) | (rw [World.cell?_alloc_past _ _ _ (by simp <;> omega), World.cell?_alloc_at _ _ _ _ (by simp)]; rfl) | (rw [World.cell?_alloc_past _ _ _ (by simp <;> omega), World.cell?_alloc_past _ _ _ (by simp <;> omega), World.cell?_alloc_at _ _ _ _ (by simp)]; rfl)
    have r4 : (W2.alloc (.cells #[.string ⟨#[112]⟩, .int .i64 0, .bool false, .int .i64 (1 + a), .int .i64 (1 + b), .int .i64 c, .int .i64 (1 + a), .int .i64 0, .int .i64 0, .string ⟨#[120]⟩, .int .i64 0] 24)).cell? ⟨W2.heap.size, 4, none⟩ = some (.int .i64 (1 + b)) := by first | (simp; done) | (rw [World.cell?_alloc_at _ _ _ _ (by simp)]; rfl) | (rw [World.cell?_alloc_past _ _ _ (by simp <;> omega), World.cell?_alloc_at _ _ _ _ (by simp)]; rfl) | (rw [World.cell?_alloc_past _ _ _ (by simp <;> omega), World.cell?_alloc_past _ _ _ (by simp <;> omega), World.cell?_alloc_at _ _ _ _ (by simp)]; rfl)
    have r5 : (W2.alloc (.cells #[.string ⟨#[112]⟩, .int .i64 0, .bool false, .int .i64 (1 + a), .int .i64 (1 + b), .int .i64 c, .int .i64 (1 + a), .int .i64 0, .int .i64 0, .string ⟨#[120]⟩, .int .i64 0] 24)).cell? ⟨W2.heap.size, 5, none⟩ = some (.int .i64 c) := by first | (simp; done) | (rw [World.cell?_alloc_at _ _ _ _ (by simp)]; rfl) | (rw [World.cell?_alloc_past _ _ _ (by simp <;> omega), World.cell?_alloc_at _ _ _ _ (by simp)]; rfl) | (rw [World.cell?_alloc_past _ _ _ (by simp <;> omega), World.cell?_alloc_past _ _ _ (by simp <;> omega), World.cell?_alloc_at _ _ _ _ (by simp)]; rfl)
    have r6 : (W2.alloc (.cells #[.string ⟨#[112]⟩, .int .i64 0, .bool false, .int .i64 (1 + a), .int .i64 (1 + b), .int .i64 c, .int .i64 (1 + a), .int .i64 0, .int .i64 0, .string ⟨#[120]⟩, .int .i64 0] 24)).cell? ⟨W2.heap.size, 6, none⟩ = some (.int .i64 (1 + a)) := by first | (simp; done) | (rw [World.cell?_alloc_at _ _ _ _ (by simp)]; rfl) | (rw [World.cell?_alloc_past _ _ _ (by simp <;> omega), World.cell?_alloc_at _ _ _ _ (by simp)]; rfl) | (rw [World.cell?_alloc_past _ _ _ (by simp <;> omega), World.cell?_alloc_past _ _ _ (by simp <;> omega), World.cell?_alloc_at _ _ _ _ (by simp)]; rfl)
    have r7 : (W2.alloc (.cells #[.string ⟨#[112]⟩, .int .i64 0, .bool false, .int .i64 (1 + a), .int .i64 (1 + b), .int .i64 c, .int .i64 (1 + a), .int .i64 0, .int .i64 0, .string ⟨#[120]⟩, .int .i64 0] 24)).cell? ⟨W2.heap.size, 7, none⟩ = some (.int .i64 0) := by first | (simp; done) | (rw [World.cell?_alloc_at _ _ _ _ (by simp)]; rfl) | (rw [World.cell?_alloc_past _ _ _ (by simp <;> omega), World.cell?_alloc_at _ _ _ _ (by simp)]; rfl) | (rw [World.cell?_alloc_past _ _ _ (by simp <;> omega), World.cell?_alloc_past _ _ _ (by simp <;> omega), World.cell?_alloc_at _ _ _ _ (by simp)]; rfl)
    have r8 : (W2.alloc (.cells #[.string ⟨#[112]⟩, .int .i64 0, .bool false, .int .i64 (1 + a), .int .i64 (1 + b), .int .i64 c, .int .i64 (1 + a), .int .i64 0, .int .i64 0, .string ⟨#[120]⟩, .int .i64 0] 24)).cell? ⟨W2.heap.size, 8, none⟩ = some (.int .i64 0) := by first | (simp; done) | (rw [World.cell?_alloc_at _ _ _ _ (by simp)]; rfl) | (rw [World.cell?_alloc_past _ _ _ (by simp <;> omega), World.cell?_alloc_at _ _ _ _ (by simp)]; rfl) | (rw [World.cell?_alloc_past _ _ _ (by simp <;> omega), World.cell?_alloc_past _ _ _ (by simp <;> omega), World.cell?_alloc_at _ _ _ _ (by simp)]; rfl)
    have r9 : (W2.alloc (.cells #[.string ⟨#[112]⟩, .int .i64 0, .bool false, .int .i64 (1 + a), .int .i64 (1 + b), .int .i64 c, .int .i64 (1 + a), .int .i64 0, .int .i64 0, .string ⟨#[120]⟩, .int .i64 0] 24)).cell? ⟨W2.heap.size, 9, none⟩ = some (.string ⟨#[120]⟩) := by first | (simp; done) | (rw [World.cell?_alloc_at _ _ _ _ (by simp)]; rfl) | (rw [World.cell?_alloc_past _ _ _ (by simp <;> omega), World.cell?_alloc_at _ _ _ _ (by simp)]; rfl) | (rw [World.cell?_alloc_past _ _ _ (by simp <;> omega), World.cell?_alloc_past _ _ _ (by simp <;> omega), World.cell?_alloc_at _ _ _ _ (by simp)]; rfl)
    have r10 : (W2.alloc (.cells #[.string ⟨#[112]⟩, .int .i64 0, .bool false, .int .i64 (1 + a), .int .i64 (1 + b), .int .i64 c, .int .i64 (1 + a), .int .i64 0, .int .i64 0, .string ⟨#[120]⟩, .int .i64 0] 24)).cell? ⟨W2.heap.size, 10, none⟩ = some (.int .i64 0) := by first | (simp; done) | (rw [World.cell?_alloc_at _ _ _ _ (by simp)]; rfl) | (rw [World.cell?_alloc_past _ _ _ (by simp <;> omega), World.cell?_alloc_at _ _ _ _ (by simp)]; rfl) | (rw [World.cell?_alloc_past _ _ _ (by simp <;> omega), World.cell?_alloc_past _ _ _ (by simp <;> omega), World.cell?_alloc_at _ _ _ _ (by simp)]; rfl)
    have hb2 := (by repeat (first | exact hbel | refine belAlloc ?_ _ | refine belDrew ?_ | refine belSet ?_ _ _ (by simp)) : Below W2.heap.size W2 (W2.alloc (.cells #[.string ⟨#[112]⟩, .int .i64 0, .bool false, .int .i64 (1 + a), .int .i64 (1 + b), .int .i64 c, .int .i64 (1 + a), .int .i64 0, .int .i64 0, .string ⟨#[120]⟩, .int .i64 0] 24)))
    replace p0 := keepOnP p0 hb2
    replace p1 := keepOnP p1 hb2
    replace p2 := keepOnP p2 hb2
    replace p3 := keepOnP p3 hb2
    replace p4 := keepOnP p4 hb2
    replace p5 := keepOnP p5 hb2
    replace p6 := keepOnP p6 hb2
    replace p7 := keepOnP p7 hb2
    replace p8 := keepOnP p8 hb2
    replace p9 := keepOnP p9 hb2
    replace p10 := keepOnP p10 hb2
    replace q0 := keepOnP q0 hb2
    replace q1 := keepOnP q1 hb2
    replace q2 := keepOnP q2 hb2
    replace q3 := keepOnP q3 hb2
    replace q4 := keepOnP q4 hb2
    replace q5 := keepOnP q5 hb2
    replace q6 := keepOnP q6 hb2
    replace q7 := keepOnP q7 hb2
    replace q8 := keepOnP q8 hb2
    replace q9 := keepOnP q9 hb2
    replace q10 := keepOnP q10 hb2
    replace hw := belStep hw hb2
    clear hb2 hbel
    generalize W2.alloc (.cells #[.string ⟨#[112]⟩, .int .i64 0, .bool false, .int .i64 (1 + a), .int .i64 (1 + b), .int .i64 c, .int .i64 (1 + a), .int .i64 0, .int .i64 0, .string ⟨#[120]⟩, .int .i64 0] 24) = W3 at *
    replace r0 := keep r0
    replace r1 := keep r1
    replace r2 := keep r2
    replace r3 := keep r3
    replace r4 := keep r4
    replace r5 := keep r5
    replace r6 := keep r6
    replace r7 := keep r7
    replace r8 := keep r8
    replace r9 := keep r9
    replace r10 := keep r10
    generalize W2.heap.size = n3 at *
    have hbel : Below W3.heap.size W3 W3 := Below.refl _ _
    skip
    go_upto_region 11 with fail
    have n0 : (W3.alloc (.cells #[.string ⟨#[110]⟩, .int .i64 0, .bool false, .int .i64 0, .int .i64 0, .int .i64 0, .int .i64 0, .int .i64 0, .int .i64 0, .string ⟨#[120]⟩, .int .i64 0] 24)).cell? ⟨W3.heap.size, 0, none⟩ = some (.string ⟨#[110]⟩) := by first | (simp; done) | (rw [World.cell?_alloc_at _ _ _ _ (by simp)]; rfl) | (rw [World.cell?_alloc_past _ _ _ (by simp <;> omega), World.cell?_alloc_at _ _ _ _ (by simp)]; rfl) | (rw [World.cell?_alloc_past _ _ _ (by simp <;> omega), World.cell?_alloc_past _ _ _ (by simp <;> omega), World.cell?_alloc_at _ _ _ _ (by simp)]; rfl)
    have n1 : (W3.alloc (.cells #[.string ⟨#[110]⟩, .int .i64 0, .bool false, .int .i64 0, .int .i64 0, .int .i64 0, .int .i64 0, .int .i64 0, .int .i64 0, .string ⟨#[120]⟩, .int .i64 0] 24)).cell? ⟨W3.heap.size, 1, none⟩ = some (.int .i64 0) := by first | (simp; done) | (rw [World.cell?_alloc_at _ _ _ _ (by simp)]; rfl) | (rw [World.cell?_alloc_past _ _ _ (by simp <;> omega), World.cell?_alloc_at _ _ _ _ (by simp)]; rfl) | (rw [World.cell?_alloc_past _ _ _ (by simp <;> omega), World.cell?_alloc_past _ _ _ (by simp <;> omega), World.cell?_alloc_at _ _ _ _ (by simp)]; rfl)
    have n2 : (W3.alloc (.cells #[.string ⟨#[110]⟩, .int .i64 0, .bool false, .int .i64 0, .int .i64 0, .int .i64 0, .int .i64 0, .int .i64 0, .int .i64 0, .string ⟨#[120]⟩, .int .i64 0] 24)).cell? ⟨W3.heap.size, 2, none⟩ = some (.bool false) := by first | (simp; done) | (rw [World.cell?_alloc_at _ _ _ _ (by simp)]; rfl) | (rw [World.cell?_alloc_past _ _ _ (by simp <;> omega), World.cell?_alloc_at _ _ _ _ (by simp)]; rfl) | (rw [World.cell?_alloc_past _ _ _ (by simp <;> omega), World.cell?_alloc_past _ _ _ (by simp <;> omega), World.cell?_alloc_at _ _ _ _ (by simp)]; rfl)
    have n3 : (W3.alloc (.cells #[.string ⟨#[110]⟩, .int .i64 0, .bool false, .int .i64 0, .int .i64 0, .int .i64 0, .int .i64 0, .int .i64 0, .int .i64 0, .string ⟨#[120]⟩, .int .i64 0] 24)).cell? ⟨W3.heap.size, 3, none⟩ = some (.int .i64 0) := by first | (simp; done) | (rw [World.cell?_alloc_at _ _ _ _ (by simp)]; rfl) | (rw [World.cell?_alloc_past _ _ _ (by simp <;> omega), World.cell?_alloc_at _ _ _ _ (by simp)]; rfl) | (rw [World.cell?_alloc_past _ _ _ (by simp <;> omega), World.cell?_alloc_past _ _ _ (by simp <;> omega), World.cell?_alloc_at _ _ _ _ (by simp)]; rfl)
    have n4 : (W3.alloc (.cells #[.string ⟨#[110]⟩, .int .i64 0, .bool false, .int .i64 0, .int .i64 0, .int .i64 0, .int .i64 0, .int .i64 0, .int .i64 0, .string ⟨#[120]⟩, .int .i64 0] 24)).cell? ⟨W3.heap.size, 4, none⟩ = some (.int .i64 0) := by first | (simp; done) | (rw [World.cell?_alloc_at _ _ _ _ (by simp)]; rfl) | (rw [World.cell?_alloc_past _ _ _ (by simp <;> omega), World.cell?_alloc_at _ _ _ _ (by simp)]; rfl) | (rw [World.cell?_alloc_past _ _ _ (by simp <;> omega), World.cell?_alloc_past _ _ _ (by simp <;> omega), World.cell?_alloc_at _ _ _ _ (by simp)]; rfl)
    have n5 : (W3.alloc (.cells #[.string ⟨#[110]⟩, .int .i64 0, .bool false, .int .i64 0, .int .i64 0, .int .i64 0, .int .i64 0, .int .i64 0, .int .i64 0, .string ⟨#[120]⟩, .int .i64 0] 24)).cell? ⟨W3.heap.size, 5, none⟩ = some (.int .i64 0) := by first | (simp; done) | (rw [World.cell?_alloc_at _ _ _ _ (by simp)]; rfl) | (rw [World.cell?_alloc_past _ _ _ (by simp <;> omega), World.cell?_alloc_at _ _ _ _ (by simp)]; rfl) | (rw [World.cell?_alloc_past _ _ _ (by simp <;> omega), World.cell?_alloc_past _ _ _ (by simp <;> omega), World.cell?_alloc_at _ _ _ _ (by simp)]; rfl)
    have n6 : (W3.alloc (.cells #[.string ⟨#[110]⟩, .int .i64 0, .bool false, .int .i64 0, .int .i64 0, .int .i64 0, .int .i64 0, .int .i64 0, .int .i64 0, .string ⟨#[120]⟩, .int .i64 0] 24)).cell? ⟨W3.heap.size, 6, none⟩ = some (.int .i64 0) := by first | (simp; done) | (rw [World.cell?_alloc_at _ _ _ _ (by simp)]; rfl) | (rw [World.cell?_alloc_past _ _ _ (by simp <;> omega), World.cell?_alloc_at _ _ _ _ (by simp)]; rfl) | (rw [World.cell?_alloc_past _ _ _ (by simp <;> omega), World.cell?_alloc_past _ _ _ (by simp <;> omega), World.cell?_alloc_at _ _ _ _ (by simp)]; rfl)
    have n7 : (W3.alloc (.cells #[.string ⟨#[110]⟩, .int .i64 0, .bool false, .int .i64 0, .int .i64 0, .int .i64 0, .int .i64 0, .int .i64 0, .int .i64 0, .string ⟨#[120]⟩, .int .i64 0] 24)).cell? ⟨W3.heap.size, 7, none⟩ = some (.int .i64 0) := by first | (simp; done) | (rw [World.cell?_alloc_at _ _ _ _ (by simp)]; rfl) | (rw [World.cell?_alloc_past _ _ _ (by simp <;> omega), World.cell?_alloc_at _ _ _ _ (by simp)]; rfl) | (rw [World.cell?_alloc_past _ _ _ (by simp <;> omega), World.cell?_alloc_past _ _ _ (by simp <;> omega), World.cell?_alloc_at _ _ _ _ (by simp)]; rfl)
    have n8 : (W3.alloc (.cells #[.string ⟨#[110]⟩, .int .i64 0, .bool false, .int .i64 0, .int .i64 0, .int .i64 0, .int .i64 0, .int .i64 0, .int .i64 0, .string ⟨#[120]⟩, .int .i64 0] 24)).cell? ⟨W3.heap.size, 8, none⟩ = some (.int .i64 0) := by first | (simp; done) | (rw [World.cell?_alloc_at _ _ _ _ (by simp)]; rfl) | (rw [World.cell?_alloc_past _ _ _ (by simp <;> omega), World.cell?_alloc_at _ _ _ _ (by simp)]; rfl) | (rw [World.cell?_alloc_past _ _ _ (by simp <;> omega), World.cell?_alloc_past _ _ _ (by simp <;> omega), World.cell?_alloc_at _ _ _ _ (by simp)]; rfl)
    have n9 : (W3.alloc (.cells #[.string ⟨#[110]⟩, .int .i64 0, .bool false, .int .i64 0, .int .i64 0, .int .i64 0, .int .i64 0, .int .i64 0, .int .i64 0, .string ⟨#[120]⟩, .int .i64 0] 24)).cell? ⟨W3.heap.size, 9, none⟩ = some (.string ⟨#[120]⟩) := by first | (simp; done) | (rw [World.cell?_alloc_at _ _ _ _ (by simp)]; rfl) | (rw [World.cell?_alloc_past _ _ _ (by simp <;> omega), World.cell?_alloc_at _ _ _ _ (by simp)]; rfl) | (rw [World.cell?_alloc_past _ _ _ (by simp <;> omega), World.cell?_alloc_past _ _ _ (by simp <;> omega), World.cell?_alloc_at _ _ _ _ (by simp)]; rfl)
    have n10 : (W3.alloc (.cells #[.string ⟨#[110]⟩, .int .i64 0, .bool false, .int .i64 0, .int .i64 0, .int .i64 0, .int .i64 0, .int .i64 0, .int .i64 0, .string ⟨#[120]⟩, .int .i64 0] 24)).cell? ⟨W3.heap.size, 10, none⟩ = some (.int .i64 0) := by first | (simp; done) | (rw [World.cell?_alloc_at _ _ _ _ (by simp)]; rfl) | (rw [World.cell?_alloc_past _ _ _ (by simp <;> omega), World.cell?_alloc_at _ _ _ _ (by simp)]; rfl) | (rw [World.cell?_alloc_past _ _ _ (by simp <;> omega), World.cell?_alloc_past _ _ _ (by simp <;> omega), World.cell?_alloc_at _ _ _ _ (by simp)]; rfl)
    have hb2 := (by repeat (first | exact hbel | refine belAlloc ?_ _ | refine belDrew ?_ | refine belSet ?_ _ _ (by simp)) : Below W3.heap.size W3 (W3.alloc (.cells #[.string ⟨#[110]⟩, .int .i64 0, .bool false, .int .i64 0, .int .i64 0, .int .i64 0, .int .i64 0, .int .i64 0, .int .i64 0, .string ⟨#[120]⟩, .int .i64 0] 24)))
    replace p0 := keepOnP p0 hb2
    replace p1 := keepOnP p1 hb2
    replace p2 := keepOnP p2 hb2
    replace p3 := keepOnP p3 hb2
    replace p4 := keepOnP p4 hb2
    replace p5 := keepOnP p5 hb2
    replace p6 := keepOnP p6 hb2
    replace p7 := keepOnP p7 hb2
    replace p8 := keepOnP p8 hb2
    replace p9 := keepOnP p9 hb2
    replace p10 := keepOnP p10 hb2
    replace q0 := keepOnP q0 hb2
    replace q1 := keepOnP q1 hb2
    replace q2 := keepOnP q2 hb2
    replace q3 := keepOnP q3 hb2
    replace q4 := keepOnP q4 hb2
    replace q5 := keepOnP q5 hb2
    replace q6 := keepOnP q6 hb2
    replace q7 := keepOnP q7 hb2
    replace q8 := keepOnP q8 hb2
    replace q9 := keepOnP q9 hb2
    replace q10 := keepOnP q10 hb2
    replace r0 := keepOnP r0 hb2
    replace r1 := keepOnP r1 hb2
    replace r2 := keepOnP r2 hb2
    replace r3 := keepOnP r3 hb2
    replace r4 := keepOnP r4 hb2
    replace r5 := keepOnP r5 hb2
    replace r6 := keepOnP r6 hb2
    replace r7 := keepOnP r7 hb2
    replace r8 := keepOnP r8 hb2
    replace r9 := keepOnP r9 hb2
    replace r10 := keepOnP r10 hb2
    replace hw := belStep hw hb2
    clear hb2 hbel
    generalize W3.alloc (.cells #[.string ⟨#[110]⟩, .int .i64 0, .bool false, .int .i64 0, .int .i64 0, .int .i64 0, .int .i64 0, .int .i64 0, .int .i64 0, .string ⟨#[120]⟩, .int .i64 0] 24) = W4 at *
    replace n0 := keep n0
    replace n1 := keep n1
    replace n2 := keep n2
    replace n3 := keep n3
    replace n4 := keep n4
    replace n5 := keep n5
    replace n6 := keep n6
    replace n7 := keep n7
    replace n8 := keep n8
    replace n9 := keep n9
    replace n10 := keep n10
    generalize W3.heap.size = n4 at *
    have hbel : Below W4.heap.size W4 W4 := Below.refl _ _
    skip
    go_upto_region 13 with fail
    have m0 : (W4.alloc (.cells #[.string ⟨#[110]⟩, .int .i64 0, .bool false, .int .i64 0, .int .i64 0, .int .i64 0, .int .i64 0, .int .i64 0, .int .i64 (1 + more), .string ⟨#[120]⟩, .int .i64 0] 24)).cell? ⟨W4.heap.size, 0, none⟩ = some (.string ⟨#[110]⟩) := by first | (simp; done) | (rw [World.cell?_alloc_at _ _ _ _ (by simp)]; rfl) | (rw [World.cell?_alloc_past _ _ _ (by simp <;> omega), World.cell?_alloc_at _ _ _ _ (by simp)]; rfl) | (rw [World.cell?_alloc_past _ _ _ (by simp <;> omega), World.cell?_alloc_past _ _ _ (by simp <;> omega), World.cell?_alloc_at _ _ _ _ (by simp)]; rfl)
    have m1 : (W4.alloc (.cells #[.string ⟨#[110]⟩, .int .i64 0, .bool false, .int .i64 0, .int .i64 0, .int .i64 0, .int .i64 0, .int .i64 0, .int .i64 (1 + more), .string ⟨#[120]⟩, .int .i64 0] 24)).cell? ⟨W4.heap.size, 1, none⟩ = some (.int .i64 0) := by first | (simp; done) | (rw [World.cell?_alloc_at _ _ _ _ (by simp)]; rfl) | (rw [World.cell?_alloc_past _ _ _ (by simp <;> omega), World.cell?_alloc_at _ _ _ _ (by simp)]; rfl) | (rw [World.cell?_alloc_past _ _ _ (by simp <;> omega), World.cell?_alloc_past _ _ _ (by simp <;> omega), World.cell?_alloc_at _ _ _ _ (by simp)]; rfl)
    have m2 : (W4.alloc (.cells #[.string ⟨#[110]⟩, .int .i64 0, .bool false, .int .i64 0, .int .i64 0, .int .i64 0, .int .i64 0, .int .i64 0, .int .i64 (1 + more), .string ⟨#[120]⟩, .int .i64 0] 24)).cell? ⟨W4.heap.size, 2, none⟩ = some (.bool false) := by first | (simp; done) | (rw [World.cell?_alloc_at _ _ _ _ (by simp)]; rfl) | (rw [World.cell?_alloc_past _ _ _ (by simp <;> omega), World.cell?_alloc_at _ _ _ _ (by simp)]; rfl) | (rw [World.cell?_alloc_past _ _ _ (by simp <;> omega), World.cell?_alloc_past _ _ _ (by simp <;> omega), World.cell?_alloc_at _ _ _ _ (by simp)]; rfl)
    have m3 : (W4.alloc (.cells #[.string ⟨#[110]⟩, .int .i64 0, .bool false, .int .i64 0, .int .i64 0, .int .i64 0, .int .i64 0, .int .i64 0, .int .i64 (1 + more), .string ⟨#[120]⟩, .int .i64 0] 24)).cell? ⟨W4.heap.size, 3, none⟩ = some (.int .i64 0) := by first | (simp; done) | (rw [World.cell?_alloc_at _ _ _ _ (by simp)]; rfl) | (rw [World.cell?_alloc_past _ _ _ (by simp <;> omega), World.cell?_alloc_at _ _ _ _ (by simp)]; rfl) | (rw [World.cell?_alloc_past _ _ _ (by simp <;> omega), World.cell?_alloc_past _ _ _ (by simp <;> omega), World.cell?_alloc_at _ _ _ _ (by simp)]; rfl)
    have m4 : (W4.alloc (.cells #[.string ⟨#[110]⟩, .int .i64 0, .bool false, .int .i64 0, .int .i64 0, .int .i64 0, .int .i64 0, .int .i64 0, .int .i64 (1 + more), .string ⟨#[120]⟩, .int .i64 0] 24)).cell? ⟨W4.heap.size, 4, none⟩ = some (.int .i64 0) := by first | (simp; done) | (rw [World.cell?_alloc_at _ _ _ _ (by simp)]; rfl) | (rw [World.cell?_alloc_past _ _ _ (by simp <;> omega), World.cell?_alloc_at _ _ _ _ (by simp)]; rfl) | (rw [World.cell?_alloc_past _ _ _ (by simp <;> omega), World.cell?_alloc_past _ _ _ (by simp <;> omega), World.cell?_alloc_at _ _ _ _ (by simp)]; rfl)
    have m5 : (W4.alloc (.cells #[.string ⟨#[110]⟩, .int .i64 0, .bool false, .int .i64 0, .int .i64 0, .int .i64 0, .int .i64 0, .int .i64 0, .int .i64 (1 + more), .string ⟨#[120]⟩, .int .i64 0] 24)).cell? ⟨W4.heap.size, 5, none⟩ = some (.int .i64 0) := by first | (simp; done) | (rw [World.cell?_alloc_at _ _ _ _ (by simp)]; rfl) | (rw [World.cell?_alloc_past _ _ _ (by simp <;> omega), World.cell?_alloc_at _ _ _ _ (by simp)]; rfl) | (rw [World.cell?_alloc_past _ _ _ (by simp <;> omega), World.cell?_alloc_past _ _ _ (by simp <;> omega), World.cell?_alloc_at _ _ _ _ (by simp)]; rfl)
    have m6 : (W4.alloc (.cells #[.string ⟨#[110]⟩, .int .i64 0, .bool false, .int .i64 0, .int .i64 0, .int .i64 0, .int .i64 0, .int .i64 0, .int .i64 (1 + more), .string ⟨#[120]⟩, .int .i64 0] 24)).cell? ⟨W4.heap.size, 6, none⟩ = some (.int .i64 0) := by first | (simp; done) | (rw [World.cell?_alloc_at _ _ _ _ (by simp)]; rfl) | (rw [World.cell?_alloc_past _ _ _ (by simp <;> omega), World.cell?_alloc_at _ _ _ _ (by simp)]; rfl) | (rw [World.cell?_alloc_past _ _ _ (by simp <;> omega), World.cell?_alloc_past _ _ _ (by simp <;> omega), World.cell?_alloc_at _ _ _ _ (by simp)]; rfl)
    have m7 : (W4.alloc (.cells #[.string ⟨#[110]⟩, .int .i64 0, .bool false, .int .i64 0, .int .i64 0, .int .i64 0, .int .i64 0, .int .i64 0, .int .i64 (1 + more), .string ⟨#[120]⟩, .int .i64 0] 24)).cell? ⟨W4.heap.size, 7, none⟩ = some (.int .i64 0) := by first | (simp; done) | (rw [World.cell?_alloc_at _ _ _ _ (by simp)]; rfl) | (rw [World.cell?_alloc_past _ _ _ (by simp <;> omega), World.cell?_alloc_at _ _ _ _ (by simp)]; rfl) | (rw [World.cell?_alloc_past _ _ _ (by simp <;> omega), World.cell?_alloc_past _ _ _ (by simp <;> omega), World.cell?_alloc_at _ _ _ _ (by simp)]; rfl)
    have m8 : (W4.alloc (.cells #[.string ⟨#[110]⟩, .int .i64 0, .bool false, .int .i64 0, .int .i64 0, .int .i64 0, .int .i64 0, .int .i64 0, .int .i64 (1 + more), .string ⟨#[120]⟩, .int .i64 0] 24)).cell? ⟨W4.heap.size, 8, none⟩ = some (.int .i64 (1 + more)) := by first | (simp; done) | (rw [World.cell?_alloc_at _ _ _ _ (by simp)]; rfl) | (rw [World.cell?_alloc_past _ _ _ (by simp <;> omega), World.cell?_alloc_at _ _ _ _ (by simp)]; rfl) | (rw [World.cell?_alloc_past _ _ _ (by simp <;> omega), World.cell?_alloc_past _ _ _ (by simp <;> omega), World.cell?_alloc_at _ _ _ _ (by simp)]; rfl)
    have m9 : (W4.alloc (.cells #[.string ⟨#[110]⟩, .int .i64 0, .bool false, .int .i64 0, .int .i64 0, .int .i64 0, .int .i64 0, .int .i64 0, .int .i64 (1 + more), .string ⟨#[120]⟩, .int .i64 0] 24)).cell? ⟨W4.heap.size, 9, none⟩ = some (.string ⟨#[120]⟩) := by first | (simp; done) | (rw [World.cell?_alloc_at _ _ _ _ (by simp)]; rfl) | (rw [World.cell?_alloc_past _ _ _ (by simp <;> omega), World.cell?_alloc_at _ _ _ _ (by simp)]; rfl) | (rw [World.cell?_alloc_past _ _ _ (by simp <;> omega), World.cell?_alloc_past _ _ _ (by simp <;> omega), World.cell?_alloc_at _ _ _ _ (by simp)]; rfl)
    have m10 : (W4.alloc (.cells #[.string ⟨#[110]⟩, .int .i64 0, .bool false, .int .i64 0, .int .i64 0, .int .i64 0, .int .i64 0, .int .i64 0, .int .i64 (1 + more), .string ⟨#[120]⟩, .int .i64 0] 24)).cell? ⟨W4.heap.size, 10, none⟩ = some (.int .i64 0) := by first | (simp; done) | (rw [World.cell?_alloc_at _ _ _ _ (by simp)]; rfl) | (rw [World.cell?_alloc_past _ _ _ (by simp <;> omega), World.cell?_alloc_at _ _ _ _ (by simp)]; rfl) | (rw [World.cell?_alloc_past _ _ _ (by simp <;> omega), World.cell?_alloc_past _ _ _ (by simp <;> omega), World.cell?_alloc_at _ _ _ _ (by simp)]; rfl)
    have hb2 := (by repeat (first | exact hbel | refine belAlloc ?_ _ | refine belDrew ?_ | refine belSet ?_ _ _ (by simp)) : Below W4.heap.size W4 (W4.alloc (.cells #[.string ⟨#[110]⟩, .int .i64 0, .bool false, .int .i64 0, .int .i64 0, .int .i64 0, .int .i64 0, .int .i64 0, .int .i64 (1 + more), .string ⟨#[120]⟩, .int .i64 0] 24)))
    replace p0 := keepOnP p0 hb2
    replace p1 := keepOnP p1 hb2
    replace p2 := keepOnP p2 hb2
    replace p3 := keepOnP p3 hb2
    replace p4 := keepOnP p4 hb2
    replace p5 := keepOnP p5 hb2
    replace p6 := keepOnP p6 hb2
    replace p7 := keepOnP p7 hb2
    replace p8 := keepOnP p8 hb2
    replace p9 := keepOnP p9 hb2
    replace p10 := keepOnP p10 hb2
    replace q0 := keepOnP q0 hb2
    replace q1 := keepOnP q1 hb2
    replace q2 := keepOnP q2 hb2
    replace q3 := keepOnP q3 hb2
    replace q4 := keepOnP q4 hb2
    replace q5 := keepOnP q5 hb2
    replace q6 := keepOnP q6 hb2
    replace q7 := keepOnP q7 hb2
    replace q8 := keepOnP q8 hb2
    replace q9 := keepOnP q9 hb2
    replace q10 := keepOnP q10 hb2
    replace r0 := keepOnP r0 hb2
    replace r1 := keepOnP r1 hb2
    replace r2 := keepOnP r2 hb2
    replace r3 := keepOnP r3 hb2
    replace r4 := keepOnP r4 hb2
    replace r5 := keepOnP r5 hb2
    replace r6 := keepOnP r6 hb2
    replace r7 := keepOnP r7 hb2
    replace r8 := keepOnP r8 hb2
    replace r9 := keepOnP r9 hb2
    replace r10 := keepOnP r10 hb2
    replace n0 := keepOnP n0 hb2
    replace n1 := keepOnP n1 hb2
    replace n2 := keepOnP n2 hb2
    replace n3 := keepOnP n3 hb2
    replace n4 := keepOnP n4 hb2
    replace n5 := keepOnP n5 hb2
    replace n6 := keepOnP n6 hb2
    replace n7 := keepOnP n7 hb2
    replace n8 := keepOnP n8 hb2
    replace n9 := keepOnP n9 hb2
    replace n10 := keepOnP n10 hb2
    replace hw := belStep hw hb2
    clear hb2 hbel
    generalize W4.alloc (.cells #[.string ⟨#[110]⟩, .int .i64 0, .bool false, .int .i64 0, .int .i64 0, .int .i64 0, .int .i64 0, .int .i64 0, .int .i64 (1 + more), .string ⟨#[120]⟩, .int .i64 0] 24) = W5 at *
    replace m0 := keep m0
    replace m1 := keep m1
    replace m2 := keep m2
    replace m3 := keep m3
    replace m4 := keep m4
    replace m5 := keep m5
    replace m6 := keep m6
    replace m7 := keep m7
    replace m8 := keep m8
    replace m9 := keep m9
    replace m10 := keep m10
    generalize W4.heap.size = n5 at *
    have hbel : Below W5.heap.size W5 W5 := Below.refl _ _
    skip
    go_wp2_with (first | (go_at_call 29; (with_reducible refine (CP.out _).mono ?_); rintro e w1 ⟨rfl, hb1⟩; replace hbel := belStep hbel hb1; clear hb1) | (go_at_call 29; (with_reducible refine (CQ1.out _).mono ?_); rintro e w1 ⟨rfl, hb1⟩; replace hbel := belStep hbel hb1; clear hb1) | (go_at_call 29; (with_reducible refine (CR1.out _).mono ?_); rintro e w1 ⟨rfl, hb1⟩; replace hbel := belStep hbel hb1; clear hb1) | (go_at_call 29; (with_reducible refine (CN.out _).mono ?_); rintro e w1 ⟨rfl, hb1⟩; replace hbel := belStep hbel hb1; clear hb1) | (go_at_call 29; (with_reducible refine (CM.out _).mono ?_); rintro e w1 ⟨rfl, hb1⟩; replace hbel := belStep hbel hb1; clear hb1))
    go_ret
    exact ⟨rfl, belStep hw hbel⟩

set_option maxRecDepth 100000 in
theorem lifted (os : Os) (started : os.Started) (H : Type) (enc : TypeId × Value → H) :
    ReturnsInHanded {} Try.checked os 13 .any (Rows.qosLimitsSpec.pre6 enc Try.prog Try.f13 Rows.qosLimitsRow.domain false) (Rows.qosLimitsSpec.post enc Try.prog Try.f13 false true false false) := by
  refine returnsInHanded_of_change (C := Try.checked) own started (by kernel_rfl) Try.func13
    (ChangeSpec.witness6 (enc := enc) (C := Try.checked) false ⟨#[], #[.int .u32 0, .int .u32 0, .int .u32 0, .int .u16 0, .int .u8 0], []⟩ 8 (by kernel_rfl) (by kernel_rfl) (by kernel_rfl) (by kernel_rfl)) ?_
  intro W base args ds gs before hval0 hW hcnd _
  have hval : ∀ (j : Nat) t v, Try.f13.params[j]? = some t → args[j]? = some v → Value.okWide Try.prog W .any base t v := hval0
  have hW' := hW
  obtain ⟨p, q, hA0, hV, rfl, hfz, hnd⟩ := hW
  have hA : DataW.TrodAll enc Try.prog W 0 (fun _ => true) true Try.f13.params.toList args.toList ds p := hA0
  rw [Try.params13] at hA hval
  obtain ⟨v0, vs0, d0, ds0, p0, q0, hargs, rfl, rfl, h0, r0⟩ := trodAll_cons hA
  obtain ⟨v1, vs1, d1, ds1, p1, q1, rfl, rfl, rfl, h1, r1⟩ := trodAll_cons r0
  obtain ⟨v2, vs2, d2, ds2, p2, q2, rfl, rfl, rfl, h2, r2⟩ := trodAll_cons r1
  obtain ⟨v3, vs3, d3, ds3, p3, q3, rfl, rfl, rfl, h3, r3⟩ := trodAll_cons r2
  obtain ⟨v4, vs4, d4, ds4, p4, q4, rfl, rfl, rfl, h4, r4⟩ := trodAll_cons r3
  obtain ⟨rfl, rfl, rfl⟩ := trodAll_nil r4
  obtain rfl : args = #[v0, v1, v2, v3, v4] := by cases args; simp_all
  obtain ⟨rfl, rfl⟩ := trodVars_none hV
  have k0 := h0
  have lt0 : ∀ x ∈ p0, x.block < W.heap.size := by obtain ⟨m, hm⟩ := k0; exact DataW.trod_lt m _ _ _ hm
  have o0 : Value.okWide Try.prog W .any base 54 v0 := hval 0 54 v0 rfl rfl
  obtain ⟨a0, rfl, rfl, rfl, w0⟩ := open_int Try.underlying54 o0 h0
  have k1 := h1
  have lt1 : ∀ x ∈ p1, x.block < W.heap.size := by obtain ⟨m, hm⟩ := k1; exact DataW.trod_lt m _ _ _ hm
  have o1 : Value.okWide Try.prog W .any base 54 v1 := hval 1 54 v1 rfl rfl
  obtain ⟨a1, rfl, rfl, rfl, w1⟩ := open_int Try.underlying54 o1 h1
  have k2 := h2
  have lt2 : ∀ x ∈ p2, x.block < W.heap.size := by obtain ⟨m, hm⟩ := k2; exact DataW.trod_lt m _ _ _ hm
  have o2 : Value.okWide Try.prog W .any base 54 v2 := hval 2 54 v2 rfl rfl
  obtain ⟨a2, rfl, rfl, rfl, w2⟩ := open_int Try.underlying54 o2 h2
  have k3 := h3
  have lt3 : ∀ x ∈ p3, x.block < W.heap.size := by obtain ⟨m, hm⟩ := k3; exact DataW.trod_lt m _ _ _ hm
  have o3 : Value.okWide Try.prog W .any base 55 v3 := hval 3 55 v3 rfl rfl
  obtain ⟨a3, rfl, rfl, rfl, w3⟩ := open_int Try.underlying55 o3 h3
  have k4 := h4
  have lt4 : ∀ x ∈ p4, x.block < W.heap.size := by obtain ⟨m, hm⟩ := k4; exact DataW.trod_lt m _ _ _ hm
  have o4 : Value.okWide Try.prog W .any base 5 v4 := hval 4 5 v4 rfl rfl
  obtain ⟨a4, rfl, rfl, rfl, w4⟩ := open_int Try.underlying5 o4 h4
  clear hA0 hval0
  refine (walk a0 a1 a2 a3 a4 W (in32_of_wf w0) (in32_of_wf w1) (in32_of_wf w2) (in16_of_wf w3) (in8_of_wf w4)).mono fun e W' ⟨he, bel⟩ => ?_
  subst he
  exact ⟨_, rfl, _, _, _, [], _, [], hW', trodAll_mk1 (shut_bool Try.underlying4 _), (trodAll_cons_mk (Below.trod laidOut (by kernel_rfl) (of_decide_eq_true (by kernel_rfl)) k0 bel lt0) (trodAll_cons_mk (Below.trod laidOut (by kernel_rfl) (of_decide_eq_true (by kernel_rfl)) k1 bel lt1) (trodAll_cons_mk (Below.trod laidOut (by kernel_rfl) (of_decide_eq_true (by kernel_rfl)) k2 bel lt2) (trodAll_cons_mk (Below.trod laidOut (by kernel_rfl) (of_decide_eq_true (by kernel_rfl)) k3 bel lt3) (trodAll_cons_mk (Below.trod laidOut (by kernel_rfl) (of_decide_eq_true (by kernel_rfl)) k4 bel lt4) trodAll_mk0))))), rfl, bel.frame _, fun h => by cases h⟩

theorem over : Rows.qosLimitsRow.holds Try.pinned (OpenSpec.ofChange Rows.qosLimitsSpec) :=
  OpenClaim.holds_of_wide 13 Try.f13 rfl rfl rfl rfl rfl rfl rfl ⟨rfl, rfl, rfl, rfl, rfl⟩ rfl rfl rfl rfl rfl (by kernel_rfl) Try.func13 (by kernel_rfl)
    (of_decide_eq_true (by kernel_rfl)) (by unfold Func.isWrapper; first | (rw [if_pos (by decide +kernel)]; kernel_rfl) | (rw [if_neg (by decide +kernel)]; exact ⟨rfl, rfl⟩))
    (fun os started H enc _ => lifted os started H enc)

/-- The statement. -/
theorem proved : Rows.QosLimitsSaid := over
#print axioms proved

end Go.Proofs.Ytnfblpiapendeaa.qosLimits
