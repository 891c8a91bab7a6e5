
/- The fixed answers of layer 6's statements: the walk. -/
import Derived.Test.YtdmnogljdkncpaaDoorThr5
namespace Go.Proofs.YtdmnogljdkncpaaDoor
open Go.RowKit
set_option linter.unusedVariables false
set_option linter.unusedSimpArgs false
set_option maxRecDepth 100000 in
set_option maxHeartbeats 8000000 in
theorem awake06 (w : World) (he : Env w) : Calls Tryd.prog 4 #[] w fun e w' => e = .returned (.bool true) ∧ Below w.heap.size w w' := by
  have hw : Below w.heap.size w w := Below.refl _ _
  have hbel := hw
  have HE := Lib.hid (fun u (hu : Below w.heap.size w u) => he.later hu)
  have heq : ∀ u : World, (Op.equalIn 10000 23 (.agg #[.int .i64 0, .int .i64 10, .int .i64 0, .bool true, .int .i64 5]) (.agg #[.int .i64 0, .int .i64 10, .int .i64 0, .bool true, .int .i64 5])).run Tryd.prog u = .ok true u := fun u => eq_thr ThA ThA u
  clear he
  go_enter Tryd.func4, Tryd.ntmps4
  go_upto_region 2 with (first | (go_at_call 7; (with_reducible refine (read_tA _ (HE.out _ (belStep hw hbel))).mono ?_); rintro e w1 ⟨rfl, hb1⟩; replace hbel := belStep hbel hb1; clear hb1))
  replace hw := belStep hw hbel
  clear hbel
  generalize w1 = W0 at *
  have hbel : Below W0.heap.size W0 W0 := Below.refl _ _
  have ta0 : (W0.alloc (.cells #[.int .i64 0, .int .i64 10, .int .i64 0, .bool true, .int .i64 5] 23)).cell? ⟨W0.heap.size, 0, none⟩ = some (.int .i64 0) := by first | (simp; done) | (rw [World.cell?_alloc_at _ _ _ _ (by simp)]; rfl) | (rw [World.cell?_alloc_past _ _ _ (by simp <;> omega), World.cell?_alloc_at _ _ _ _ (by simp)]; rfl) | (rw [World.cell?_alloc_past _ _ _ (by simp <;> omega), World.cell?_alloc_past _ _ _ (by simp <;> omega), World.cell?_alloc_at _ _ _ _ (by simp)]; rfl)
  have ta1 : (W0.alloc (.cells #[.int .i64 0, .int .i64 10, .int .i64 0, .bool true, .int .i64 5] 23)).cell? ⟨W0.heap.size, 1, none⟩ = some (.int .i64 10) := by first | (simp; done) | (rw [World.cell?_alloc_at _ _ _ _ (by simp)]; rfl) | (rw [World.cell?_alloc_past _ _ _ (by simp <;> omega), World.cell?_alloc_at _ _ _ _ (by simp)]; rfl) | (rw [World.cell?_alloc_past _ _ _ (by simp <;> omega), World.cell?_alloc_past _ _ _ (by simp <;> omega), World.cell?_alloc_at _ _ _ _ (by simp)]; rfl)
  have ta2 : (W0.alloc (.cells #[.int .i64 0, .int .i64 10, .int .i64 0, .bool true, .int .i64 5] 23)).cell? ⟨W0.heap.size, 2, none⟩ = some (.int .i64 0) := by first | (simp; done) | (rw [World.cell?_alloc_at _ _ _ _ (by simp)]; rfl) | (rw [World.cell?_alloc_past _ _ _ (by simp <;> omega), World.cell?_alloc_at _ _ _ _ (by simp)]; rfl) | (rw [World.cell?_alloc_past _ _ _ (by simp <;> omega), World.cell?_alloc_past _ _ _ (by simp <;> omega), World.cell?_alloc_at _ _ _ _ (by simp)]; rfl)
  have ta3 : (W0.alloc (.cells #[.int .i64 0, .int .i64 10, .int .i64 0, .bool true, .int .i64 5] 23)).cell? ⟨W0.heap.size, 3, none⟩ = some (.bool true) := by first | (simp; done) | (rw [World.cell?_alloc_at _ _ _ _ (by simp)]; rfl) | (rw [World.cell?_alloc_past _ _ _ (by simp <;> omega), World.cell?_alloc_at _ _ _ _ (by simp)]; rfl) | (rw [World.cell?_alloc_past _ _ _ (by simp <;> omega), World.cell?_alloc_past _ _ _ (by simp <;> omega), World.cell?_alloc_at _ _ _ _ (by simp)]; rfl)
  have ta4 : (W0.alloc (.cells #[.int .i64 0, .int .i64 10, .int .i64 0, .bool true, .int .i64 5] 23)).cell? ⟨W0.heap.size, 4, none⟩ = some (.int .i64 5) := by first | (simp; done) | (rw [World.cell?_alloc_at _ _ _ _ (by simp)]; rfl) | (rw [World.cell?_alloc_past _ _ _ (by simp <;> omega), World.cell?_alloc_at _ _ _ _ (by simp)]; rfl) | (rw [World.cell?_alloc_past _ _ _ (by simp <;> omega), World.cell?_alloc_past _ _ _ (by simp <;> omega), World.cell?_alloc_at _ _ _ _ (by simp)]; rfl)
  have hb2 := (by repeat (first | exact hbel | refine belAlloc ?_ _ | refine belDrew ?_ | refine belSet ?_ _ _ (by simp)) : Below W0.heap.size W0 (W0.alloc (.cells #[.int .i64 0, .int .i64 10, .int .i64 0, .bool true, .int .i64 5] 23)))
  replace hw := belStep hw hb2
  clear hb2 hbel
  generalize W0.alloc (.cells #[.int .i64 0, .int .i64 10, .int .i64 0, .bool true, .int .i64 5] 23) = W1 at *
  replace ta0 := keep ta0
  replace ta1 := keep ta1
  replace ta2 := keep ta2
  replace ta3 := keep ta3
  replace ta4 := keep ta4
  have hbel : Below W1.heap.size W1 W1 := Below.refl _ _
  skip
  go_upto_region 3 with (first | (go_at_call 7; (with_reducible refine (read_tB _ (HE.out _ (belStep hw hbel))).mono ?_); rintro e w1 ⟨rfl, hb1⟩; replace hbel := belStep hbel hb1; clear hb1))
  replace ta0 := keepOnP ta0 hbel
  replace ta1 := keepOnP ta1 hbel
  replace ta2 := keepOnP ta2 hbel
  replace ta3 := keepOnP ta3 hbel
  replace ta4 := keepOnP ta4 hbel
  replace hw := belStep hw hbel
  clear hbel
  generalize w1 = W2 at *
  have hbel : Below W2.heap.size W2 W2 := Below.refl _ _
  have tb0 : (W2.alloc (.cells #[.int .i64 1, .int .i64 0, .int .i64 2097152, .bool false, .int .i64 0] 23)).cell? ⟨W2.heap.size, 0, none⟩ = some (.int .i64 1) := by first | (simp; done) | (rw [World.cell?_alloc_at _ _ _ _ (by simp)]; rfl) | (rw [World.cell?_alloc_past _ _ _ (by simp <;> omega), World.cell?_alloc_at _ _ _ _ (by simp)]; rfl) | (rw [World.cell?_alloc_past _ _ _ (by simp <;> omega), World.cell?_alloc_past _ _ _ (by simp <;> omega), World.cell?_alloc_at _ _ _ _ (by simp)]; rfl)
  have tb1 : (W2.alloc (.cells #[.int .i64 1, .int .i64 0, .int .i64 2097152, .bool false, .int .i64 0] 23)).cell? ⟨W2.heap.size, 1, none⟩ = some (.int .i64 0) := by first | (simp; done) | (rw [World.cell?_alloc_at _ _ _ _ (by simp)]; rfl) | (rw [World.cell?_alloc_past _ _ _ (by simp <;> omega), World.cell?_alloc_at _ _ _ _ (by simp)]; rfl) | (rw [World.cell?_alloc_past _ _ _ (by simp <;> omega), World.cell?_alloc_past _ _ _ (by simp <;> omega), World.cell?_alloc_at _ _ _ _ (by simp)]; rfl)
  have tb2 : (W2.alloc (.cells #[.int .i64 1, .int .i64 0, .int .i64 2097152, .bool false, .int .i64 0] 23)).cell? ⟨W2.heap.size, 2, none⟩ = some (.int .i64 2097152) := by first | (simp; done) | (rw [World.cell?_alloc_at _ _ _ _ (by simp)]; rfl) | (rw [World.cell?_alloc_past _ _ _ (by simp <;> omega), World.cell?_alloc_at _ _ _ _ (by simp)]; rfl) | (rw [World.cell?_alloc_past _ _ _ (by simp <;> omega), World.cell?_alloc_past _ _ _ (by simp <;> omega), World.cell?_alloc_at _ _ _ _ (by simp)]; rfl)
  have tb3 : (W2.alloc (.cells #[.int .i64 1, .int .i64 0, .int .i64 2097152, .bool false, .int .i64 0] 23)).cell? ⟨W2.heap.size, 3, none⟩ = some (.bool false) := by first | (simp; done) | (rw [World.cell?_alloc_at _ _ _ _ (by simp)]; rfl) | (rw [World.cell?_alloc_past _ _ _ (by simp <;> omega), World.cell?_alloc_at _ _ _ _ (by simp)]; rfl) | (rw [World.cell?_alloc_past _ _ _ (by simp <;> omega), World.cell?_alloc_past _ _ _ (by simp <;> omega), World.cell?_alloc_at _ _ _ _ (by simp)]; rfl)
  have tb4 : (W2.alloc (.cells #[.int .i64 1, .int .i64 0, .int .i64 2097152, .bool false, .int .i64 0] 23)).cell? ⟨W2.heap.size, 4, none⟩ = some (.int .i64 0) := by first | (simp; done) | (rw [World.cell?_alloc_at _ _ _ _ (by simp)]; rfl) | (rw [World.cell?_alloc_past _ _ _ (by simp <;> omega), World.cell?_alloc_at _ _ _ _ (by simp)]; rfl) | (rw [World.cell?_alloc_past _ _ _ (by simp <;> omega), World.cell?_alloc_past _ _ _ (by simp <;> omega), World.cell?_alloc_at _ _ _ _ (by simp)]; rfl)
  have hb2 := (by repeat (first | exact hbel | refine belAlloc ?_ _ | refine belDrew ?_ | refine belSet ?_ _ _ (by simp)) : Below W2.heap.size W2 (W2.alloc (.cells #[.int .i64 1, .int .i64 0, .int .i64 2097152, .bool false, .int .i64 0] 23)))
  replace ta0 := keepOnP ta0 hb2
  replace ta1 := keepOnP ta1 hb2
  replace ta2 := keepOnP ta2 hb2
  replace ta3 := keepOnP ta3 hb2
  replace ta4 := keepOnP ta4 hb2
  replace hw := belStep hw hb2
  clear hb2 hbel
  generalize W2.alloc (.cells #[.int .i64 1, .int .i64 0, .int .i64 2097152, .bool false, .int .i64 0] 23) = W3 at *
  replace tb0 := keep tb0
  replace tb1 := keep tb1
  replace tb2 := keep tb2
  replace tb3 := keep tb3
  replace tb4 := keep tb4
  have hbel : Below W3.heap.size W3 W3 := Below.refl _ _
  skip
  go_upto_region 4 with (first | (go_at_call 7; (with_reducible refine (read_tC _ (HE.out _ (belStep hw hbel))).mono ?_); rintro e w1 ⟨rfl, hb1⟩; replace hbel := belStep hbel hb1; clear hb1))
  replace ta0 := keepOnP ta0 hbel
  replace ta1 := keepOnP ta1 hbel
  replace ta2 := keepOnP ta2 hbel
  replace ta3 := keepOnP ta3 hbel
  replace ta4 := keepOnP ta4 hbel
  replace tb0 := keepOnP tb0 hbel
  replace tb1 := keepOnP tb1 hbel
  replace tb2 := keepOnP tb2 hbel
  replace tb3 := keepOnP tb3 hbel
  replace tb4 := keepOnP tb4 hbel
  replace hw := belStep hw hbel
  clear hbel
  generalize w1 = W4 at *
  have hbel : Below W4.heap.size W4 W4 := Below.refl _ _
  have tc0 : (W4.alloc (.cells #[.int .i64 0, .int .i64 0, .int .i64 0, .bool false, .int .i64 0] 23)).cell? ⟨W4.heap.size, 0, none⟩ = some (.int .i64 0) := by first | (simp; done) | (rw [World.cell?_alloc_at _ _ _ _ (by simp)]; rfl) | (rw [World.cell?_alloc_past _ _ _ (by simp <;> omega), World.cell?_alloc_at _ _ _ _ (by simp)]; rfl) | (rw [World.cell?_alloc_past _ _ _ (by simp <;> omega), World.cell?_alloc_past _ _ _ (by simp <;> omega), World.cell?_alloc_at _ _ _ _ (by simp)]; rfl)
  have tc1 : (W4.alloc (.cells #[.int .i64 0, .int .i64 0, .int .i64 0, .bool false, .int .i64 0] 23)).cell? ⟨W4.heap.size, 1, none⟩ = some (.int .i64 0) := by first | (simp; done) | (rw [World.cell?_alloc_at _ _ _ _ (by simp)]; rfl) | (rw [World.cell?_alloc_past _ _ _ (by simp <;> omega), World.cell?_alloc_at _ _ _ _ (by simp)]; rfl) | (rw [World.cell?_alloc_past _ _ _ (by simp <;> omega), World.cell?_alloc_past _ _ _ (by simp <;> omega), World.cell?_alloc_at _ _ _ _ (by simp)]; rfl)
  have tc2 : (W4.alloc (.cells #[.int .i64 0, .int .i64 0, .int .i64 0, .bool false, .int .i64 0] 23)).cell? ⟨W4.heap.size, 2, none⟩ = some (.int .i64 0) := by first | (simp; done) | (rw [World.cell?_alloc_at _ _ _ _ (by simp)]; rfl) | (rw [World.cell?_alloc_past _ _ _ (by simp <;> omega), World.cell?_alloc_at _ _ _ _ (by simp)]; rfl) | (rw [World.cell?_alloc_past _ _ _ (by simp <;> omega), World.cell?_alloc_past _ _ _ (by simp <;> omega), World.cell?_alloc_at _ _ _ _ (by simp)]; rfl)
  have tc3 : (W4.alloc (.cells #[.int .i64 0, .int .i64 0, .int .i64 0, .bool false, .int .i64 0] 23)).cell? ⟨W4.heap.size, 3, none⟩ = some (.bool false) := by first | (simp; done) | (rw [World.cell?_alloc_at _ _ _ _ (by simp)]; rfl) | (rw [World.cell?_alloc_past _ _ _ (by simp <;> omega), World.cell?_alloc_at _ _ _ _ (by simp)]; rfl) | (rw [World.cell?_alloc_past _ _ _ (by simp <;> omega), World.cell?_alloc_past _ _ _ (by simp <;> omega), World.cell?_alloc_at _ _ _ _ (by simp)]; rfl)
  have tc4 : (W4.alloc (.cells #[.int .i64 0, .int .i64 0, .int .i64 0, .bool false, .int .i64 0] 23)).cell? ⟨W4.heap.size, 4, none⟩ = some (.int .i64 0) := by first | (simp; done) | (rw [World.cell?_alloc_at _ _ _ _ (by simp)]; rfl) | (rw [World.cell?_alloc_past _ _ _ (by simp <;> omega), World.cell?_alloc_at _ _ _ _ (by simp)]; rfl) | (rw [World.cell?_alloc_past _ _ _ (by simp <;> omega), World.cell?_alloc_past _ _ _ (by simp <;> omega), World.cell?_alloc_at _ _ _ _ (by simp)]; rfl)
  have hb2 := (by repeat (first | exact hbel | refine belAlloc ?_ _ | refine belDrew ?_ | refine belSet ?_ _ _ (by simp)) : Below W4.heap.size W4 (W4.alloc (.cells #[.int .i64 0, .int .i64 0, .int .i64 0, .bool false, .int .i64 0] 23)))
  replace ta0 := keepOnP ta0 hb2
  replace ta1 := keepOnP ta1 hb2
  replace ta2 := keepOnP ta2 hb2
  replace ta3 := keepOnP ta3 hb2
  replace ta4 := keepOnP ta4 hb2
  replace tb0 := keepOnP tb0 hb2
  replace tb1 := keepOnP tb1 hb2
  replace tb2 := keepOnP tb2 hb2
  replace tb3 := keepOnP tb3 hb2
  replace tb4 := keepOnP tb4 hb2
  replace hw := belStep hw hb2
  clear hb2 hbel
  generalize W4.alloc (.cells #[.int .i64 0, .int .i64 0, .int .i64 0, .bool false, .int .i64 0] 23) = W5 at *
  replace tc0 := keep tc0
  replace tc1 := keep tc1
  replace tc2 := keep tc2
  replace tc3 := keep tc3
  replace tc4 := keep tc4
  have hbel : Below W5.heap.size W5 W5 := Below.refl _ _
  skip
  go_wp2_with (first | (go_at_call 10; (with_reducible refine (sig_pid _).mono ?_); rintro e w' ⟨rfl, rfl⟩) | (go_at_call 8; (with_reducible refine (print_t _ (HE.out _ (belStep hw hbel)).tab).mono ?_); rintro e w1 ⟨rfl, hb1⟩; replace hbel := belStep hbel hb1; clear hb1) | (go_at_call 11; (with_reducible refine (met_a _).mono ?_); rintro e w1 ⟨rfl, hb1⟩; replace hbel := belStep hbel hb1; clear hb1) | (go_at_call 11; (with_reducible refine (met_b _).mono ?_); rintro e w1 ⟨rfl, hb1⟩; replace hbel := belStep hbel hb1; clear hb1) | (go_at_call 12; (with_reducible refine (edge_a _).mono ?_); rintro e w1 ⟨rfl, hb1⟩; replace hbel := belStep hbel hb1; clear hb1) | (go_at_call 5; (with_reducible refine (right_b _).mono ?_); rintro e w1 ⟨rfl, hb1⟩; replace hbel := belStep hbel hb1; clear hb1))
  go_ret
  exact ⟨rfl, belStep hw hbel⟩
end Go.Proofs.YtdmnogljdkncpaaDoor
