/- The fixed answers of layer 13's statements. -/
import Derived.Test.YtnfblpiapendeaaQosCount
namespace Go.Proofs.Ytnfblpiapendeaa
open Go.RowKit
set_option linter.unusedVariables false
set_option linter.unusedSimpArgs false

theorem row_made11 (w : World) (cs : List Value) (T : TypeId) (fr : Nat × Nat) (n size : Nat) (h : cs.length = n * size) (hm : n ≤ maxLen) : Row (w.alloc (.cells cs.toArray T fr)) (some ⟨w.heap.size, 0, none⟩) n n size cs := by
  refine ⟨h, Nat.le_refl _, hm, (fun h => by cases h), .inr ⟨_, _, rfl, fun i hi => ?_⟩⟩
  rw [Nat.zero_add, World.cell?_alloc_mark]
  simp

set_option maxHeartbeats 1000000 in
theorem eq_four (d : Nat) (a b c e a' b' c' e' : Int) (w : World) :
    (Op.equalIn (d + 2) 52 (.agg #[.int .i64 a, .int .i64 b, .int .i64 c, .int .i64 e]) (.agg #[.int .i64 a', .int .i64 b', .int .i64 c', .int .i64 e'])).run Try.prog w = .ok (a == a' && b == b' && c == c' && e == e') w := by
  rw [Op.equalIn]
  simp [run_underlying Try.underlying52, go_sem]
  rw [show List.range' 0 4 = [0, 1, 2, 3] from rfl]
  simp [List.forIn_cons, go_sem]
  by_cases h0 : a = a' <;> by_cases h1 : b = b' <;> by_cases h2 : c = c' <;> by_cases h3 : e = e' <;> simp [h0, h1, h2, h3, go_sem]

theorem count_awake (w : World) (fr : Nat × Nat) :
    Calls Try.prog 35 #[.slice (some ⟨w.heap.size, 0, none⟩) 3 3] (w.alloc (.cells #[.string ⟨#[103]⟩, .int .i64 0, .bool false, .int .i64 1, .int .i64 2, .int .i64 0, .int .i64 1, .int .i64 2, .int .i64 9, .string ⟨#[120]⟩, .int .i64 0, .string ⟨#[98]⟩, .int .i64 0, .bool false, .int .i64 1, .int .i64 50, .int .i64 0, .int .i64 0, .int .i64 0, .int .i64 0, .string ⟨#[120]⟩, .int .i64 0, .string ⟨#[98]⟩, .int .i64 0, .bool false, .int .i64 1, .int .i64 50, .int .i64 0, .int .i64 0, .int .i64 0, .int .i64 0, .string ⟨#[120]⟩, .int .i64 0] 24 fr)) fun e w' =>
      e = .returned (.agg #[.int .i64 0, .int .i64 1, .int .i64 2, .int .i64 0]) ∧ Below (w.alloc (.cells #[.string ⟨#[103]⟩, .int .i64 0, .bool false, .int .i64 1, .int .i64 2, .int .i64 0, .int .i64 1, .int .i64 2, .int .i64 9, .string ⟨#[120]⟩, .int .i64 0, .string ⟨#[98]⟩, .int .i64 0, .bool false, .int .i64 1, .int .i64 50, .int .i64 0, .int .i64 0, .int .i64 0, .int .i64 0, .string ⟨#[120]⟩, .int .i64 0, .string ⟨#[98]⟩, .int .i64 0, .bool false, .int .i64 1, .int .i64 50, .int .i64 0, .int .i64 0, .int .i64 0, .int .i64 0, .string ⟨#[120]⟩, .int .i64 0] 24 fr)).heap.size (w.alloc (.cells #[.string ⟨#[103]⟩, .int .i64 0, .bool false, .int .i64 1, .int .i64 2, .int .i64 0, .int .i64 1, .int .i64 2, .int .i64 9, .string ⟨#[120]⟩, .int .i64 0, .string ⟨#[98]⟩, .int .i64 0, .bool false, .int .i64 1, .int .i64 50, .int .i64 0, .int .i64 0, .int .i64 0, .int .i64 0, .string ⟨#[120]⟩, .int .i64 0, .string ⟨#[98]⟩, .int .i64 0, .bool false, .int .i64 1, .int .i64 50, .int .i64 0, .int .i64 0, .int .i64 0, .int .i64 0, .string ⟨#[120]⟩, .int .i64 0] 24 fr)) w' := by
  have h := qos_Count _ 3 3 [⟨⟨#[103]⟩, 0, false, 1, 2, 0, 1, 2, 9, ⟨#[120]⟩, 0⟩, ⟨⟨#[98]⟩, 0, false, 1, 50, 0, 0, 0, 0, ⟨#[120]⟩, 0⟩, ⟨⟨#[98]⟩, 0, false, 1, 50, 0, 0, 0, 0, ⟨#[120]⟩, 0⟩] _ rfl (row_made11 w (List.flatMap PodV.cells [⟨⟨#[103]⟩, 0, false, 1, 2, 0, 1, 2, 9, ⟨#[120]⟩, 0⟩, ⟨⟨#[98]⟩, 0, false, 1, 50, 0, 0, 0, 0, ⟨#[120]⟩, 0⟩, ⟨⟨#[98]⟩, 0, false, 1, 50, 0, 0, 0, 0, ⟨#[120]⟩, 0⟩]) 24 fr 3 11 rfl (by unfold maxLen; omega))
  rw [show cnt3 [⟨⟨#[103]⟩, 0, false, 1, 2, 0, 1, 2, 9, ⟨#[120]⟩, 0⟩, ⟨⟨#[98]⟩, 0, false, 1, 50, 0, 0, 0, 0, ⟨#[120]⟩, 0⟩, ⟨⟨#[98]⟩, 0, false, 1, 50, 0, 0, 0, 0, ⟨#[120]⟩, 0⟩] = (1, 2, 0) from by decide] at h
  exact h

set_option maxRecDepth 100000 in
set_option maxHeartbeats 8000000 in
theorem awake13 (w : World) : Calls Try.prog 28 #[] w fun e w' => e = .returned (.bool true) ∧ Below w.heap.size w w' := by
  have g1 := fun v => qos_Class ⟨#[103]⟩ 0 false 1 2 0 1 2 9 ⟨#[120]⟩ 0 v
  have b1 := fun v => qos_Class ⟨#[98]⟩ 0 false 1 50 0 0 0 0 ⟨#[120]⟩ 0 v
  have n1 := fun v => qos_Class ⟨#[110]⟩ 0 false 0 0 0 0 0 0 ⟨#[120]⟩ 0 v
  have gs := fun v => qos_Score ⟨#[103]⟩ 0 false 1 2 0 1 2 9 ⟨#[120]⟩ 0 100 v (by omega) (by unfold InI; omega) (by omega) (by unfold InI; omega)
  have bs := fun v => qos_Score ⟨#[98]⟩ 0 false 1 50 0 0 0 0 ⟨#[120]⟩ 0 100 v (by omega) (by unfold InI; omega) (by omega) (by unfold InI; omega)
  have ns := fun v => qos_Score ⟨#[110]⟩ 0 false 0 0 0 0 0 0 ⟨#[120]⟩ 0 100 v (by omega) (by unfold InI; omega) (by omega) (by unfold InI; omega)
  have th := fun v => qos_Thousandths 1 3 v (by omega) (by unfold InI; omega) (by omega) (by unfold InI; omega)
  have he := eq_four 9998 0 1 2 0 0 1 2 0
  rw [show classI 1 2 0 1 2 9 = 1 from by decide] at g1 gs
  rw [show classI 1 50 0 0 0 0 = 2 from by decide] at b1 bs
  rw [show classI 0 0 0 0 0 0 = 3 from by decide] at n1 ns
  rw [show scoreI false 1 2 100 = 0 from by decide] at gs
  rw [show scoreI false 2 50 100 = 500 from by decide] at bs
  rw [show scoreI false 3 0 100 = 1000 from by decide] at ns
  rw [show thouI 1 3 = 333 from by decide] at th
  simp only [BEq.rfl, Bool.and_self] at he
  have G1 := Lib.hid g1
  have B1 := Lib.hid b1
  have N1 := Lib.hid n1
  have GS := Lib.hid gs
  have BS := Lib.hid bs
  have NS := Lib.hid ns
  have TH := Lib.hid th
  clear g1 b1 n1 gs bs ns th
  have hw : Below w.heap.size w w := Below.refl _ _
  have hbel := hw
  go_enter Try.func28, Try.ntmps28
  go_upto_region 2 with fail
  have g0 : (w.alloc (.cells #[.string ⟨#[103]⟩, .int .i64 0, .bool false, .int .i64 1, .int .i64 2, .int .i64 0, .int .i64 1, .int .i64 2, .int .i64 9, .string ⟨#[120]⟩, .int .i64 0] 24)).cell? ⟨w.heap.size, 0, none⟩ = some (.string ⟨#[103]⟩) := by first | (simp; done) | (rw [World.cell?_alloc_at _ _ _ _ (by simp)]; rfl) | (rw [World.cell?_alloc_past _ _ _ (by simp <;> omega), World.cell?_alloc_at _ _ _ _ (by simp)]; rfl) | (rw [World.cell?_alloc_past _ _ _ (by simp <;> omega), World.cell?_alloc_past _ _ _ (by simp <;> omega), World.cell?_alloc_at _ _ _ _ (by simp)]; rfl)
  have g1 : (w.alloc (.cells #[.string ⟨#[103]⟩, .int .i64 0, .bool false, .int .i64 1, .int .i64 2, .int .i64 0, .int .i64 1, .int .i64 2, .int .i64 9, .string ⟨#[120]⟩, .int .i64 0] 24)).cell? ⟨w.heap.size, 1, none⟩ = some (.int .i64 0) := by first | (simp; done) | (rw [World.cell?_alloc_at _ _ _ _ (by simp)]; rfl) | (rw [World.cell?_alloc_past _ _ _ (by simp <;> omega), World.cell?_alloc_at _ _ _ _ (by simp)]; rfl) | (rw [World.cell?_alloc_past _ _ _ (by simp <;> omega), World.cell?_alloc_past _ _ _ (by simp <;> omega), World.cell?_alloc_at _ _ _ _ (by simp)]; rfl)
  have g2 : (w.alloc (.cells #[.string ⟨#[103]⟩, .int .i64 0, .bool false, .int .i64 1, .int .i64 2, .int .i64 0, .int .i64 1, .int .i64 2, .int .i64 9, .string ⟨#[120]⟩, .int .i64 0] 24)).cell? ⟨w.heap.size, 2, none⟩ = some (.bool false) := by first | (simp; done) | (rw [World.cell?_alloc_at _ _ _ _ (by simp)]; rfl) | (rw [World.cell?_alloc_past _ _ _ (by simp <;> omega), World.cell?_alloc_at _ _ _ _ (by simp)]; rfl) | (rw [World.cell?_alloc_past _ _ _ (by simp <;> omega), World.cell?_alloc_past _ _ _ (by simp <;> omega), World.cell?_alloc_at _ _ _ _ (by simp)]; rfl)
  have g3 : (w.alloc (.cells #[.string ⟨#[103]⟩, .int .i64 0, .bool false, .int .i64 1, .int .i64 2, .int .i64 0, .int .i64 1, .int .i64 2, .int .i64 9, .string ⟨#[120]⟩, .int .i64 0] 24)).cell? ⟨w.heap.size, 3, none⟩ = some (.int .i64 1) := by first | (simp; done) | (rw [World.cell?_alloc_at _ _ _ _ (by simp)]; rfl) | (rw [World.cell?_alloc_past _ _ _ (by simp <;> omega), World.cell?_alloc_at _ _ _ _ (by simp)]; rfl) | (rw [World.cell?_alloc_past _ _ _ (by simp <;> omega), World.cell?_alloc_past _ _ _ (by simp <;> omega), World.cell?_alloc_at _ _ _ _ (by simp)]; rfl)
  have g4 : (w.alloc (.cells #[.string ⟨#[103]⟩, .int .i64 0, .bool false, .int .i64 1, .int .i64 2, .int .i64 0, .int .i64 1, .int .i64 2, .int .i64 9, .string ⟨#[120]⟩, .int .i64 0] 24)).cell? ⟨w.heap.size, 4, none⟩ = some (.int .i64 2) := by first | (simp; done) | (rw [World.cell?_alloc_at _ _ _ _ (by simp)]; rfl) | (rw [World.cell?_alloc_past _ _ _ (by simp <;> omega), World.cell?_alloc_at _ _ _ _ (by simp)]; rfl) | (rw [World.cell?_alloc_past _ _ _ (by simp <;> omega), World.cell?_alloc_past _ _ _ (by simp <;> omega), World.cell?_alloc_at _ _ _ _ (by simp)]; rfl)
  have g5 : (w.alloc (.cells #[.string ⟨#[103]⟩, .int .i64 0, .bool false, .int .i64 1, .int .i64 2, .int .i64 0, .int .i64 1, .int .i64 2, .int .i64 9, .string ⟨#[120]⟩, .int .i64 0] 24)).cell? ⟨w.heap.size, 5, none⟩ = some (.int .i64 0) := by first | (simp; done) | (rw [World.cell?_alloc_at _ _ _ _ (by simp)]; rfl) | (rw [World.cell?_alloc_past _ _ _ (by simp <;> omega), World.cell?_alloc_at _ _ _ _ (by simp)]; rfl) | (rw [World.cell?_alloc_past _ _ _ (by simp <;> omega), World.cell?_alloc_past _ _ _ (by simp <;> omega), World.cell?_alloc_at _ _ _ _ (by simp)]; rfl)
  have g6 : (w.alloc (.cells #[.string ⟨#[103]⟩, .int .i64 0, .bool false, .int .i64 1, .int .i64 2, .int .i64 0, .int .i64 1, .int .i64 2, .int .i64 9, .string ⟨#[120]⟩, .int .i64 0] 24)).cell? ⟨w.heap.size, 6, none⟩ = some (.int .i64 1) := by first | (simp; done) | (rw [World.cell?_alloc_at _ _ _ _ (by simp)]; rfl) | (rw [World.cell?_alloc_past _ _ _ (by simp <;> omega), World.cell?_alloc_at _ _ _ _ (by simp)]; rfl) | (rw [World.cell?_alloc_past _ _ _ (by simp <;> omega), World.cell?_alloc_past _ _ _ (by simp <;> omega), World.cell?_alloc_at _ _ _ _ (by simp)]; rfl)
  have g7 : (w.alloc (.cells #[.string ⟨#[103]⟩, .int .i64 0, .bool false, .int .i64 1, .int .i64 2, .int .i64 0, .int .i64 1, .int .i64 2, .int .i64 9, .string ⟨#[120]⟩, .int .i64 0] 24)).cell? ⟨w.heap.size, 7, none⟩ = some (.int .i64 2) := by first | (simp; done) | (rw [World.cell?_alloc_at _ _ _ _ (by simp)]; rfl) | (rw [World.cell?_alloc_past _ _ _ (by simp <;> omega), World.cell?_alloc_at _ _ _ _ (by simp)]; rfl) | (rw [World.cell?_alloc_past _ _ _ (by simp <;> omega), World.cell?_alloc_past _ _ _ (by simp <;> omega), World.cell?_alloc_at _ _ _ _ (by simp)]; rfl)
  have g8 : (w.alloc (.cells #[.string ⟨#[103]⟩, .int .i64 0, .bool false, .int .i64 1, .int .i64 2, .int .i64 0, .int .i64 1, .int .i64 2, .int .i64 9, .string ⟨#[120]⟩, .int .i64 0] 24)).cell? ⟨w.heap.size, 8, none⟩ = some (.int .i64 9) := by first | (simp; done) | (rw [World.cell?_alloc_at _ _ _ _ (by simp)]; rfl) | (rw [World.cell?_alloc_past _ _ _ (by simp <;> omega), World.cell?_alloc_at _ _ _ _ (by simp)]; rfl) | (rw [World.cell?_alloc_past _ _ _ (by simp <;> omega), World.cell?_alloc_past _ _ _ (by simp <;> omega), World.cell?_alloc_at _ _ _ _ (by simp)]; rfl)
  have g9 : (w.alloc (.cells #[.string ⟨#[103]⟩, .int .i64 0, .bool false, .int .i64 1, .int .i64 2, .int .i64 0, .int .i64 1, .int .i64 2, .int .i64 9, .string ⟨#[120]⟩, .int .i64 0] 24)).cell? ⟨w.heap.size, 9, none⟩ = some (.string ⟨#[120]⟩) := by first | (simp; done) | (rw [World.cell?_alloc_at _ _ _ _ (by simp)]; rfl) | (rw [World.cell?_alloc_past _ _ _ (by simp <;> omega), World.cell?_alloc_at _ _ _ _ (by simp)]; rfl) | (rw [World.cell?_alloc_past _ _ _ (by simp <;> omega), World.cell?_alloc_past _ _ _ (by simp <;> omega), World.cell?_alloc_at _ _ _ _ (by simp)]; rfl)
  have g10 : (w.alloc (.cells #[.string ⟨#[103]⟩, .int .i64 0, .bool false, .int .i64 1, .int .i64 2, .int .i64 0, .int .i64 1, .int .i64 2, .int .i64 9, .string ⟨#[120]⟩, .int .i64 0] 24)).cell? ⟨w.heap.size, 10, none⟩ = some (.int .i64 0) := by first | (simp; done) | (rw [World.cell?_alloc_at _ _ _ _ (by simp)]; rfl) | (rw [World.cell?_alloc_past _ _ _ (by simp <;> omega), World.cell?_alloc_at _ _ _ _ (by simp)]; rfl) | (rw [World.cell?_alloc_past _ _ _ (by simp <;> omega), World.cell?_alloc_past _ _ _ (by simp <;> omega), World.cell?_alloc_at _ _ _ _ (by simp)]; rfl)
  have hb2 := (by repeat (first | exact hbel | refine belAlloc ?_ _ | refine belDrew ?_ | refine belSet ?_ _ _ (by simp)) : Below w.heap.size w (w.alloc (.cells #[.string ⟨#[103]⟩, .int .i64 0, .bool false, .int .i64 1, .int .i64 2, .int .i64 0, .int .i64 1, .int .i64 2, .int .i64 9, .string ⟨#[120]⟩, .int .i64 0] 24)))
  replace hw := belStep hw hb2
  clear hb2 hbel
  generalize w.alloc (.cells #[.string ⟨#[103]⟩, .int .i64 0, .bool false, .int .i64 1, .int .i64 2, .int .i64 0, .int .i64 1, .int .i64 2, .int .i64 9, .string ⟨#[120]⟩, .int .i64 0] 24) = W1 at *
  replace g0 := keep g0
  replace g1 := keep g1
  replace g2 := keep g2
  replace g3 := keep g3
  replace g4 := keep g4
  replace g5 := keep g5
  replace g6 := keep g6
  replace g7 := keep g7
  replace g8 := keep g8
  replace g9 := keep g9
  replace g10 := keep g10
  have hbel : Below W1.heap.size W1 W1 := Below.refl _ _
  skip
  go_upto_region 3 with fail
  have b0 : (W1.alloc (.cells #[.string ⟨#[98]⟩, .int .i64 0, .bool false, .int .i64 1, .int .i64 50, .int .i64 0, .int .i64 0, .int .i64 0, .int .i64 0, .string ⟨#[120]⟩, .int .i64 0] 24)).cell? ⟨W1.heap.size, 0, none⟩ = some (.string ⟨#[98]⟩) := by first | (simp; done) | (rw [World.cell?_alloc_at _ _ _ _ (by simp)]; rfl) | (rw [World.cell?_alloc_past _ _ _ (by simp <;> omega), World.cell?_alloc_at _ _ _ _ (by simp)]; rfl) | (rw [World.cell?_alloc_past _ _ _ (by simp <;> omega), World.cell?_alloc_past _ _ _ (by simp <;> omega), World.cell?_alloc_at _ _ _ _ (by simp)]; rfl)
  have b1 : (W1.alloc (.cells #[.string ⟨#[98]⟩, .int .i64 0, .bool false, .int .i64 1, .int .i64 50, .int .i64 0, .int .i64 0, .int .i64 0, .int .i64 0, .string ⟨#[120]⟩, .int .i64 0] 24)).cell? ⟨W1.heap.size, 1, none⟩ = some (.int .i64 0) := by first | (simp; done) | (rw [World.cell?_alloc_at _ _ _ _ (by simp)]; rfl) | (rw [World.cell?_alloc_past _ _ _ (by simp <;> omega), World.cell?_alloc_at _ _ _ _ (by simp)]; rfl) | (rw [World.cell?_alloc_past _ _ _ (by simp <;> omega), World.cell?_alloc_past _ _ _ (by simp <;> omega), World.cell?_alloc_at _ _ _ _ (by simp)]; rfl)
  have b2 : (W1.alloc (.cells #[.string ⟨#[98]⟩, .int .i64 0, .bool false, .int .i64 1, .int .i64 50, .int .i64 0, .int .i64 0, .int .i64 0, .int .i64 0, .string ⟨#[120]⟩, .int .i64 0] 24)).cell? ⟨W1.heap.size, 2, none⟩ = some (.bool false) := by first | (simp; done) | (rw [World.cell?_alloc_at _ _ _ _ (by simp)]; rfl) | (rw [World.cell?_alloc_past _ _ _ (by simp <;> omega), World.cell?_alloc_at _ _ _ _ (by simp)]; rfl) | (rw [World.cell?_alloc_past _ _ _ (by simp <;> omega), World.cell?_alloc_past _ _ _ (by simp <;> omega), World.cell?_alloc_at _ _ _ _ (by simp)]; rfl)
  have b3 : (W1.alloc (.cells #[.string ⟨#[98]⟩, .int .i64 0, .bool false, .int .i64 1, .int .i64 50, .int .i64 0, .int .i64 0, .int .i64 0, .int .i64 0, .string ⟨#[120]⟩, .int .i64 0] 24)).cell? ⟨W1.heap.size, 3, none⟩ = some (.int .i64 1) := by first | (simp; done) | (rw [World.cell?_alloc_at _ _ _ _ (by simp)]; rfl) | (rw [World.cell?_alloc_past _ _ _ (by simp <;> omega), World.cell?_alloc_at _ _ _ _ (by simp)]; rfl) | (rw [World.cell?_alloc_past _ _ _ (by simp <;> omega), World.cell?_alloc_past _ _ _ (by simp <;> omega), World.cell?_alloc_at _ _ _ _ (by simp)]; rfl)
  have b4 : (W1.alloc (.cells #[.string ⟨#[98]⟩, .int .i64 0, .bool false, .int .i64 1, .int .i64 50, .int .i64 0, .int .i64 0, .int .i64 0, .int .i64 0, .string ⟨#[120]⟩, .int .i64 0] 24)).cell? ⟨W1.heap.size, 4, none⟩ = some (.int .i64 50) := by first | (simp; done) | (rw [World.cell?_alloc_at _ _ _ _ (by simp)]; rfl) | (rw [World.cell?_alloc_past _ _ _ (by simp <;> omega), World.cell?_alloc_at _ _ _ _ (by simp)]; rfl) | (rw [World.cell?_alloc_past _ _ _ (by simp <;> omega), World.cell?_alloc_past _ _ _ (by simp <;> omega), World.cell?_alloc_at _ _ _ _ (by simp)]; rfl)
  have b5 : (W1.alloc (.cells #[.string ⟨#[98]⟩, .int .i64 0, .bool false, .int .i64 1, .int .i64 50, .int .i64 0, .int .i64 0, .int .i64 0, .int .i64 0, .string ⟨#[120]⟩, .int .i64 0] 24)).cell? ⟨W1.heap.size, 5, none⟩ = some (.int .i64 0) := by first | (simp; done) | (rw [World.cell?_alloc_at _ _ _ _ (by simp)]; rfl) | (rw [World.cell?_alloc_past _ _ _ (by simp <;> omega), World.cell?_alloc_at _ _ _ _ (by simp)]; rfl) | (rw [World.cell?_alloc_past _ _ _ (by simp <;> omega), World.cell?_alloc_past _ _ _ (by simp <;> omega), World.cell?_alloc_at _ _ _ _ (by simp)]; rfl)
  have b6 : (W1.alloc (.cells #[.string ⟨#[98]⟩, .int .i64 0, .bool false, .int .i64 1, .int .i64 50, .int .i64 0, .int .i64 0, .int .i64 0, .int .i64 0, .string ⟨#[120]⟩, .int .i64 0] 24)).cell? ⟨W1.heap.size, 6, none⟩ = some (.int .i64 0) := by first | (simp; done) | (rw [World.cell?_alloc_at _ _ _ _ (by simp)]; rfl) | (rw [World.cell?_alloc_past _ _ _ (by simp <;> omega), World.cell?_alloc_at _ _ _ _ (by simp)]; rfl) | (rw [World.cell?_alloc_past _ _ _ (by simp <;> omega), World.cell?_alloc_past _ _ _ (by simp <;> omega), World.cell?_alloc_at _ _ _ _ (by simp)]; rfl)
  have b7 : (W1.alloc (.cells #[.string ⟨#[98]⟩, .int .i64 0, .bool false, .int .i64 1, .int .i64 50, .int .i64 0, .int .i64 0, .int .i64 0, .int .i64 0, .string ⟨#[120]⟩, .int .i64 0] 24)).cell? ⟨W1.heap.size, 7, none⟩ = some (.int .i64 0) := by first | (simp; done) | (rw [World.cell?_alloc_at _ _ _ _ (by simp)]; rfl) | (rw [World.cell?_alloc_past _ _ _ (by simp <;> omega), World.cell?_alloc_at _ _ _ _ (by simp)]; rfl) | (rw [World.cell?_alloc_past _ _ _ (by simp <;> omega), World.cell?_alloc_past _ _ _ (by simp <;> omega), World.cell?_alloc_at _ _ _ _ (by simp)]; rfl)
  have b8 : (W1.alloc (.cells #[.string ⟨#[98]⟩, .int .i64 0, .bool false, .int .i64 1, .int .i64 50, .int .i64 0, .int .i64 0, .int .i64 0, .int .i64 0, .string ⟨#[120]⟩, .int .i64 0] 24)).cell? ⟨W1.heap.size, 8, none⟩ = some (.int .i64 0) := by first | (simp; done) | (rw [World.cell?_alloc_at _ _ _ _ (by simp)]; rfl) | (rw [World.cell?_alloc_past _ _ _ (by simp <;> omega), World.cell?_alloc_at _ _ _ _ (by simp)]; rfl) | (rw [World.cell?_alloc_past _ _ _ (by simp <;> omega), World.cell?_alloc_past _ _ _ (by simp <;> omega), World.cell?_alloc_at _ _ _ _ (by simp)]; rfl)
  have b9 : (W1.alloc (.cells #[.string ⟨#[98]⟩, .int .i64 0, .bool false, .int .i64 1, .int .i64 50, .int .i64 0, .int .i64 0, .int .i64 0, .int .i64 0, .string ⟨#[120]⟩, .int .i64 0] 24)).cell? ⟨W1.heap.size, 9, none⟩ = some (.string ⟨#[120]⟩) := by first | (simp; done) | (rw [World.cell?_alloc_at _ _ _ _ (by simp)]; rfl) | (rw [World.cell?_alloc_past _ _ _ (by simp <;> omega), World.cell?_alloc_at _ _ _ _ (by simp)]; rfl) | (rw [World.cell?_alloc_past _ _ _ (by simp <;> omega), World.cell?_alloc_past _ _ _ (by simp <;> omega), World.cell?_alloc_at _ _ _ _ (by simp)]; rfl)
  have b10 : (W1.alloc (.cells #[.string ⟨#[98]⟩, .int .i64 0, .bool false, .int .i64 1, .int .i64 50, .int .i64 0, .int .i64 0, .int .i64 0, .int .i64 0, .string ⟨#[120]⟩, .int .i64 0] 24)).cell? ⟨W1.heap.size, 10, none⟩ = some (.int .i64 0) := by first | (simp; done) | (rw [World.cell?_alloc_at _ _ _ _ (by simp)]; rfl) | (rw [World.cell?_alloc_past _ _ _ (by simp <;> omega), World.cell?_alloc_at _ _ _ _ (by simp)]; rfl) | (rw [World.cell?_alloc_past _ _ _ (by simp <;> omega), World.cell?_alloc_past _ _ _ (by simp <;> omega), World.cell?_alloc_at _ _ _ _ (by simp)]; rfl)
  have hb2 := (by repeat (first | exact hbel | refine belAlloc ?_ _ | refine belDrew ?_ | refine belSet ?_ _ _ (by simp)) : Below W1.heap.size W1 (W1.alloc (.cells #[.string ⟨#[98]⟩, .int .i64 0, .bool false, .int .i64 1, .int .i64 50, .int .i64 0, .int .i64 0, .int .i64 0, .int .i64 0, .string ⟨#[120]⟩, .int .i64 0] 24)))
  replace g0 := keepOnP g0 hb2
  replace g1 := keepOnP g1 hb2
  replace g2 := keepOnP g2 hb2
  replace g3 := keepOnP g3 hb2
  replace g4 := keepOnP g4 hb2
  replace g5 := keepOnP g5 hb2
  replace g6 := keepOnP g6 hb2
  replace g7 := keepOnP g7 hb2
  replace g8 := keepOnP g8 hb2
  replace g9 := keepOnP g9 hb2
  replace g10 := keepOnP g10 hb2
  replace hw := belStep hw hb2
  clear hb2 hbel
  generalize W1.alloc (.cells #[.string ⟨#[98]⟩, .int .i64 0, .bool false, .int .i64 1, .int .i64 50, .int .i64 0, .int .i64 0, .int .i64 0, .int .i64 0, .string ⟨#[120]⟩, .int .i64 0] 24) = W2 at *
  replace b0 := keep b0
  replace b1 := keep b1
  replace b2 := keep b2
  replace b3 := keep b3
  replace b4 := keep b4
  replace b5 := keep b5
  replace b6 := keep b6
  replace b7 := keep b7
  replace b8 := keep b8
  replace b9 := keep b9
  replace b10 := keep b10
  generalize W1.heap.size = M2 at *
  have hbel : Below W2.heap.size W2 W2 := Below.refl _ _
  skip
  go_upto_region 4 with fail
  have n0 : (W2.alloc (.cells #[.string ⟨#[110]⟩, .int .i64 0, .bool false, .int .i64 0, .int .i64 0, .int .i64 0, .int .i64 0, .int .i64 0, .int .i64 0, .string ⟨#[120]⟩, .int .i64 0] 24)).cell? ⟨W2.heap.size, 0, none⟩ = some (.string ⟨#[110]⟩) := by first | (simp; done) | (rw [World.cell?_alloc_at _ _ _ _ (by simp)]; rfl) | (rw [World.cell?_alloc_past _ _ _ (by simp <;> omega), World.cell?_alloc_at _ _ _ _ (by simp)]; rfl) | (rw [World.cell?_alloc_past _ _ _ (by simp <;> omega), World.cell?_alloc_past _ _ _ (by simp <;> omega), World.cell?_alloc_at _ _ _ _ (by simp)]; rfl)
  have n1 : (W2.alloc (.cells #[.string ⟨#[110]⟩, .int .i64 0, .bool false, .int .i64 0, .int .i64 0, .int .i64 0, .int .i64 0, .int .i64 0, .int .i64 0, .string ⟨#[120]⟩, .int .i64 0] 24)).cell? ⟨W2.heap.size, 1, none⟩ = some (.int .i64 0) := by first | (simp; done) | (rw [World.cell?_alloc_at _ _ _ _ (by simp)]; rfl) | (rw [World.cell?_alloc_past _ _ _ (by simp <;> omega), World.cell?_alloc_at _ _ _ _ (by simp)]; rfl) | (rw [World.cell?_alloc_past _ _ _ (by simp <;> omega), World.cell?_alloc_past _ _ _ (by simp <;> omega), World.cell?_alloc_at _ _ _ _ (by simp)]; rfl)
  have n2 : (W2.alloc (.cells #[.string ⟨#[110]⟩, .int .i64 0, .bool false, .int .i64 0, .int .i64 0, .int .i64 0, .int .i64 0, .int .i64 0, .int .i64 0, .string ⟨#[120]⟩, .int .i64 0] 24)).cell? ⟨W2.heap.size, 2, none⟩ = some (.bool false) := by first | (simp; done) | (rw [World.cell?_alloc_at _ _ _ _ (by simp)]; rfl) | (rw [World.cell?_alloc_past _ _ _ (by simp <;> omega), World.cell?_alloc_at _ _ _ _ (by simp)]; rfl) | (rw [World.cell?_alloc_past _ _ _ (by simp <;> omega), World.cell?_alloc_past _ _ _ (by simp <;> omega), World.cell?_alloc_at _ _ _ _ (by simp)]; rfl)
  have n3 : (W2.alloc (.cells #[.string ⟨#[110]⟩, .int .i64 0, .bool false, .int .i64 0, .int .i64 0, .int .i64 0, .int .i64 0, .int .i64 0, .int .i64 0, .string ⟨#[120]⟩, .int .i64 0] 24)).cell? ⟨W2.heap.size, 3, none⟩ = some (.int .i64 0) := by first | (simp; done) | (rw [World.cell?_alloc_at _ _ _ _ (by simp)]; rfl) | (rw [World.cell?_alloc_past _ _ _ (by simp <;> omega), World.cell?_alloc_at _ _ _ _ (by simp)]; rfl) | (rw [World.cell?_alloc_past _ _ _ (by simp <;> omega), World.cell?_alloc_past _ _ _ (by simp <;> omega), World.cell?_alloc_at _ _ _ _ (by simp)]; rfl)
  have n4 : (W2.alloc (.cells #[.string ⟨#[110]⟩, .int .i64 0, .bool false, .int .i64 0, .int .i64 0, .int .i64 0, .int .i64 0, .int .i64 0, .int .i64 0, .string ⟨#[120]⟩, .int .i64 0] 24)).cell? ⟨W2.heap.size, 4, none⟩ = some (.int .i64 0) := by first | (simp; done) | (rw [World.cell?_alloc_at _ _ _ _ (by simp)]; rfl) | (rw [World.cell?_alloc_past _ _ _ (by simp <;> omega), World.cell?_alloc_at _ _ _ _ (by simp)]; rfl) | (rw [World.cell?_alloc_past _ _ _ (by simp <;> omega), World.cell?_alloc_past _ _ _ (by simp <;> omega), World.cell?_alloc_at _ _ _ _ (by simp)]; rfl)
  have n5 : (W2.alloc (.cells #[.string ⟨#[110]⟩, .int .i64 0, .bool false, .int .i64 0, .int .i64 0, .int .i64 0, .int .i64 0, .int .i64 0, .int .i64 0, .string ⟨#[120]⟩, .int .i64 0] 24)).cell? ⟨W2.heap.size, 5, none⟩ = some (.int .i64 0) := by first | (simp; done) | (rw [World.cell?_alloc_at _ _ _ _ (by simp)]; rfl) | (rw [World.cell?_alloc_past _ _ _ (by simp <;> omega), World.cell?_alloc_at _ _ _ _ (by simp)]; rfl) | (rw [World.cell?_alloc_past _ _ _ (by simp <;> omega), World.cell?_alloc_past _ _ _ (by simp <;> omega), World.cell?_alloc_at _ _ _ _ (by simp)]; rfl)
  have n6 : (W2.alloc (.cells #[.string ⟨#[110]⟩, .int .i64 0, .bool false, .int .i64 0, .int .i64 0, .int .i64 0, .int .i64 0, .int .i64 0, .int .i64 0, .string ⟨#[120]⟩, .int .i64 0] 24)).cell? ⟨W2.heap.size, 6, none⟩ = some (.int .i64 0) := by first | (simp; done) | (rw [World.cell?_alloc_at _ _ _ _ (by simp)]; rfl) | (rw [World.cell?_alloc_past _ _ _ (by simp <;> omega), World.cell?_alloc_at _ _ _ _ (by simp)]; rfl) | (rw [World.cell?_alloc_past _ _ _ (by simp <;> omega), World.cell?_alloc_past _ _ _ (by simp <;> omega), World.cell?_alloc_at _ _ _ _ (by simp)]; rfl)
  have n7 : (W2.alloc (.cells #[.string ⟨#[110]⟩, .int .i64 0, .bool false, .int .i64 0, .int .i64 0, .int .i64 0, .int .i64 0, .int .i64 0, .int .i64 0, .string ⟨#[120]⟩, .int .i64 0] 24)).cell? ⟨W2.heap.size, 7, none⟩ = some (.int .i64 0) := by first | (simp; done) | (rw [World.cell?_alloc_at _ _ _ _ (by simp)]; rfl) | (rw [World.cell?_alloc_past _ _ _ (by simp <;> omega), World.cell?_alloc_at _ _ _ _ (by simp)]; rfl) | (rw [World.cell?_alloc_past _ _ _ (by simp <;> omega), World.cell?_alloc_past _ _ _ (by simp <;> omega), World.cell?_alloc_at _ _ _ _ (by simp)]; rfl)
  have n8 : (W2.alloc (.cells #[.string ⟨#[110]⟩, .int .i64 0, .bool false, .int .i64 0, .int .i64 0, .int .i64 0, .int .i64 0, .int .i64 0, .int .i64 0, .string ⟨#[120]⟩, .int .i64 0] 24)).cell? ⟨W2.heap.size, 8, none⟩ = some (.int .i64 0) := by first | (simp; done) | (rw [World.cell?_alloc_at _ _ _ _ (by simp)]; rfl) | (rw [World.cell?_alloc_past _ _ _ (by simp <;> omega), World.cell?_alloc_at _ _ _ _ (by simp)]; rfl) | (rw [World.cell?_alloc_past _ _ _ (by simp <;> omega), World.cell?_alloc_past _ _ _ (by simp <;> omega), World.cell?_alloc_at _ _ _ _ (by simp)]; rfl)
  have n9 : (W2.alloc (.cells #[.string ⟨#[110]⟩, .int .i64 0, .bool false, .int .i64 0, .int .i64 0, .int .i64 0, .int .i64 0, .int .i64 0, .int .i64 0, .string ⟨#[120]⟩, .int .i64 0] 24)).cell? ⟨W2.heap.size, 9, none⟩ = some (.string ⟨#[120]⟩) := by first | (simp; done) | (rw [World.cell?_alloc_at _ _ _ _ (by simp)]; rfl) | (rw [World.cell?_alloc_past _ _ _ (by simp <;> omega), World.cell?_alloc_at _ _ _ _ (by simp)]; rfl) | (rw [World.cell?_alloc_past _ _ _ (by simp <;> omega), World.cell?_alloc_past _ _ _ (by simp <;> omega), World.cell?_alloc_at _ _ _ _ (by simp)]; rfl)
  have n10 : (W2.alloc (.cells #[.string ⟨#[110]⟩, .int .i64 0, .bool false, .int .i64 0, .int .i64 0, .int .i64 0, .int .i64 0, .int .i64 0, .int .i64 0, .string ⟨#[120]⟩, .int .i64 0] 24)).cell? ⟨W2.heap.size, 10, none⟩ = some (.int .i64 0) := by first | (simp; done) | (rw [World.cell?_alloc_at _ _ _ _ (by simp)]; rfl) | (rw [World.cell?_alloc_past _ _ _ (by simp <;> omega), World.cell?_alloc_at _ _ _ _ (by simp)]; rfl) | (rw [World.cell?_alloc_past _ _ _ (by simp <;> omega), World.cell?_alloc_past _ _ _ (by simp <;> omega), World.cell?_alloc_at _ _ _ _ (by simp)]; rfl)
  have hb2 := (by repeat (first | exact hbel | refine belAlloc ?_ _ | refine belDrew ?_ | refine belSet ?_ _ _ (by simp)) : Below W2.heap.size W2 (W2.alloc (.cells #[.string ⟨#[110]⟩, .int .i64 0, .bool false, .int .i64 0, .int .i64 0, .int .i64 0, .int .i64 0, .int .i64 0, .int .i64 0, .string ⟨#[120]⟩, .int .i64 0] 24)))
  replace g0 := keepOnP g0 hb2
  replace g1 := keepOnP g1 hb2
  replace g2 := keepOnP g2 hb2
  replace g3 := keepOnP g3 hb2
  replace g4 := keepOnP g4 hb2
  replace g5 := keepOnP g5 hb2
  replace g6 := keepOnP g6 hb2
  replace g7 := keepOnP g7 hb2
  replace g8 := keepOnP g8 hb2
  replace g9 := keepOnP g9 hb2
  replace g10 := keepOnP g10 hb2
  replace b0 := keepOnP b0 hb2
  replace b1 := keepOnP b1 hb2
  replace b2 := keepOnP b2 hb2
  replace b3 := keepOnP b3 hb2
  replace b4 := keepOnP b4 hb2
  replace b5 := keepOnP b5 hb2
  replace b6 := keepOnP b6 hb2
  replace b7 := keepOnP b7 hb2
  replace b8 := keepOnP b8 hb2
  replace b9 := keepOnP b9 hb2
  replace b10 := keepOnP b10 hb2
  replace hw := belStep hw hb2
  clear hb2 hbel
  generalize W2.alloc (.cells #[.string ⟨#[110]⟩, .int .i64 0, .bool false, .int .i64 0, .int .i64 0, .int .i64 0, .int .i64 0, .int .i64 0, .int .i64 0, .string ⟨#[120]⟩, .int .i64 0] 24) = W3 at *
  replace n0 := keep n0
  replace n1 := keep n1
  replace n2 := keep n2
  replace n3 := keep n3
  replace n4 := keep n4
  replace n5 := keep n5
  replace n6 := keep n6
  replace n7 := keep n7
  replace n8 := keep n8
  replace n9 := keep n9
  replace n10 := keep n10
  generalize W2.heap.size = M3 at *
  have hbel : Below W3.heap.size W3 W3 := Below.refl _ _
  skip
  go_wp2_with (first | (go_at_call 29; (with_reducible refine (G1.out _).mono ?_); rintro e w1 ⟨rfl, hb1⟩; replace hbel := belStep hbel hb1; clear hb1) | (go_at_call 29; (with_reducible refine (B1.out _).mono ?_); rintro e w1 ⟨rfl, hb1⟩; replace hbel := belStep hbel hb1; clear hb1) | (go_at_call 29; (with_reducible refine (N1.out _).mono ?_); rintro e w1 ⟨rfl, hb1⟩; replace hbel := belStep hbel hb1; clear hb1) | (go_at_call 30; (with_reducible refine (GS.out _).mono ?_); rintro e w1 ⟨rfl, hb1⟩; replace hbel := belStep hbel hb1; clear hb1) | (go_at_call 30; (with_reducible refine (BS.out _).mono ?_); rintro e w1 ⟨rfl, hb1⟩; replace hbel := belStep hbel hb1; clear hb1) | (go_at_call 30; (with_reducible refine (NS.out _).mono ?_); rintro e w1 ⟨rfl, hb1⟩; replace hbel := belStep hbel hb1; clear hb1) | (go_at_call 33; (with_reducible refine (TH.out _).mono ?_); rintro e w1 ⟨rfl, hb1⟩; replace hbel := belStep hbel hb1; clear hb1) | (go_at_call 35; refine (count_awake _ _).mono ?_; rintro e w1 ⟨rfl, hb1⟩; replace hbel := belStep (belAlloc hbel _) hb1; clear hb1))
  go_ret
  exact ⟨rfl, belStep hw hbel⟩
end Go.Proofs.Ytnfblpiapendeaa
