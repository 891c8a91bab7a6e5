/- The fixed answers of layer 3's statements. -/
import Derived.Test.YtkdkhbeacejamaaEdgeList
namespace Go.Proofs.Ytkdkhbeacejamaa
open Go.RowKit
set_option linter.unusedVariables false
set_option linter.unusedSimpArgs false

theorem math_Copysign (w : World) : Calls Try.prog 20 #[.float .f64 0, .float .f64 13830554455654793216] w fun e w' => e = .returned (.float .f64 9223372036854775808) ∧ w = w' := by
  have h1 := run_bits 0
  have h2 := run_bits 13830554455654793216
  have h3 := run_frombits 9223372036854775808
  have b1 : bits .andNot .u64 0 9223372036854775808 = 0 := by decide
  have b2 : bits .and .u64 13830554455654793216 9223372036854775808 = 9223372036854775808 := by decide
  have b3 : bits .or .u64 0 9223372036854775808 = 9223372036854775808 := by decide
  go_enter Try.func20, Try.ntmps20
  go_wp2
  go_ret
  exact ⟨rfl, rfl⟩
theorem math_NaN (w : World) : Calls Try.prog 21 #[] w fun e w' => e = .returned (.float .f64 9221120237041090561) ∧ w = w' := by
  have h3 := run_frombits 9221120237041090561
  go_enter Try.func21, Try.ntmps21
  go_wp2
  go_ret
  exact ⟨rfl, rfl⟩
theorem read_29 (w : World) : Calls Try.prog 11 #[.float .f64 4613712638259704627] w fun e w' => e = .returned (.tuple #[.int .i64 2, .bool true]) ∧ w = w' := by
  have h := edge_Read 4613712638259704627 w (by omega)
  rw [if_neg (by decide +kernel), show readF 4613712638259704627 = 2 by decide +kernel] at h
  exact h
theorem read_nan (w : World) : Calls Try.prog 11 #[.float .f64 9221120237041090561] w fun e w' => e = .returned (.tuple #[.int .i64 0, .bool false]) ∧ w = w' := by
  have h := edge_Read 9221120237041090561 w (by omega)
  rw [if_pos (by decide +kernel)] at h
  exact h
theorem kind_m0 (w : World) : Calls Try.prog 13 #[.float .f64 9223372036854775808] w fun e w' => e = .returned (.int .i64 4) ∧ w = w' := by
  have h := edge_Kind 9223372036854775808 w (by omega)
  rw [show kindF 9223372036854775808 = 4 by decide +kernel] at h
  exact h
theorem cmp_m0 (w : World) : Calls Try.prog 15 #[.float .f64 9223372036854775808, .float .f64 0] w fun e w' => e = .returned (.int .i64 (-1)) ∧ w = w' := by
  have h := edge_Compare 9223372036854775808 0 w (by omega) (by omega)
  rw [show cmpI (fplace 9223372036854775808) (fplace 0) = -1 by decide +kernel] at h
  exact h
theorem cmp_nan (w : World) : Calls Try.prog 15 #[.float .f64 9221120237041090561, .float .f64 9221120237041090561] w fun e w' => e = .returned (.int .i64 0) ∧ w = w' := by
  have h := edge_Compare 9221120237041090561 9221120237041090561 w (by omega) (by omega)
  rw [show cmpI (fplace 9221120237041090561) (fplace 9221120237041090561) = 0 by decide +kernel] at h
  exact h
theorem all_two (W : World) : Calls Try.prog 19 #[.slice (some ⟨W.heap.size, 0, none⟩) 2 2] (W.alloc (.cells #[.float .f64 4607182418800017408, .float .f64 9218868437227405312] 24)) fun e w' => ∃ g c, e = .returned (.tuple #[.slice (some ⟨g, 0, none⟩) 2 c, .bool true]) ∧ w'.cell? ⟨g, 0, none⟩ = some (.int .i64 1) ∧ w'.cell? ⟨g, 1, none⟩ = some (.int .i64 9223372036854775807) ∧ 2 ≤ c ∧ Below W.heap.size W w' := by
  have hf := flts_new W [4607182418800017408, 9218868437227405312] 24 (by decide) (by decide)
  refine Calls.mono (edge_All _ 2 2 [4607182418800017408, 9218868437227405312] _ hf (by omega)) ?_
  rintro e w' ⟨hp, hb⟩
  unfold AllPost at hp
  rw [if_pos (by decide +kernel)] at hp
  obtain ⟨v, rfl, ho⟩ := hp
  rw [show ([4607182418800017408, 9218868437227405312].map readF) = [1, 9223372036854775807] by decide +kernel] at ho
  rcases ho.shape with ⟨_, h⟩ | ⟨g, c, rfl, h1, h2, h3, h4⟩
  · cases h
  · refine ⟨g, c, rfl, ho.cellAt (n := 2) rfl (i := 0) (by omega), ho.cellAt (n := 2) rfl (i := 1) (by omega), h3, ?_⟩
    exact belStep (belAlloc (Below.refl _ _) _) hb
theorem least_two (W : World) : Calls Try.prog 17 #[.slice (some ⟨W.heap.size, 0, none⟩) 2 2] (W.alloc (.cells #[.float .f64 4613937818241073152, .float .f64 4611686018427387904] 24)) fun e w' => e = .returned (.float .f64 4611686018427387904) ∧ W.alloc (.cells #[.float .f64 4613937818241073152, .float .f64 4611686018427387904] 24) = w' := by
  have hf := flts_new W [4613937818241073152, 4611686018427387904] 24 (by decide) (by decide)
  have h := edge_Least _ 2 2 [4613937818241073152, 4611686018427387904] _ hf
  rw [show leastF [4613937818241073152, 4611686018427387904] = 4611686018427387904 by decide +kernel] at h
  exact h

set_option maxRecDepth 100000 in
set_option maxHeartbeats 8000000 in
theorem awake03 (w : World) : Calls Try.prog 9 #[] w fun e w' => e = .returned (.bool true) ∧ Below w.heap.size w w' := by
  have hw : Below w.heap.size w w := Below.refl _ _
  have hbel := hw
  have ho2 : FloatKind.f64.format.order 4611686018427387904 4611686018427387904 = some .eq := by decide +kernel
  go_enter Try.func9, Try.ntmps9
  go_wp2_with (first | (go_at_call 11; (with_reducible refine (read_29 _).mono ?_); rintro e w' ⟨rfl, rfl⟩) | (go_at_call 11; (with_reducible refine (read_nan _).mono ?_); rintro e w' ⟨rfl, rfl⟩) | (go_at_call 21; (with_reducible refine (math_NaN _).mono ?_); rintro e w' ⟨rfl, rfl⟩) | (go_at_call 22; (with_reducible refine (math_Inf _).mono ?_); rintro e w' ⟨rfl, rfl⟩) | (go_at_call 20; (with_reducible refine (math_Copysign _).mono ?_); rintro e w' ⟨rfl, rfl⟩) | (go_at_call 13; (with_reducible refine (kind_m0 _).mono ?_); rintro e w' ⟨rfl, rfl⟩) | (go_at_call 15; (with_reducible refine (cmp_m0 _).mono ?_); rintro e w' ⟨rfl, rfl⟩) | (go_at_call 15; (with_reducible refine (cmp_nan _).mono ?_); rintro e w' ⟨rfl, rfl⟩) | (go_at_call 19; (with_reducible refine (all_two _).mono ?_); rintro e w1 ⟨g, c, rfl, c0, c1, hc, hb1⟩) | (go_at_call 17; (with_reducible refine (least_two _).mono ?_); rintro e w' ⟨rfl, rfl⟩))
  go_ret
  exact ⟨rfl, hb1.alloc hb1.size _⟩
end Go.Proofs.Ytkdkhbeacejamaa
