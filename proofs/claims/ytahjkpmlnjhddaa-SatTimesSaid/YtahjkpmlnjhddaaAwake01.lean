/- The fixed answers of layer 1's statements: the call returns true, and makes memory of its own alone. -/
import Derived.Test.YtahjkpmlnjhddaaSat
namespace Go.Proofs.Ytahjkpmlnjhddaa
open Go.RowKit
set_option linter.unusedVariables false
set_option maxHeartbeats 1000000 in
theorem awake01 (w : World) : Calls Try.prog 13 #[] w fun e w' => e = .returned (.bool true) ∧ Below w.heap.size w w' := by
  go_enter Try.func13, Try.ntmps13
  have hr := ints_new (k := .i64) w [1, 2, 3] 3 (0, 0) (by decide) (by decide)
  simp only [List.map_cons, List.map_nil, List.length_cons, List.length_nil, Nat.reduceAdd, Nat.zero_add] at hr
  have HR := Lib.hid hr
  clear hr
  have hs : satSum [1, 2, 3] = 6 := by decide
  have HS := Lib.hid hs
  clear hs
  go_wp2_with (first | (go_at_call 21; refine (sat_Sum _ _ _ _ _ HR.out).mono ?_; rintro e w' ⟨rfl, rfl⟩; rw [HS.out]) | go_in)
  go_ret
  exact ⟨rfl, (Below.refl _ _).alloc (Nat.le_refl _) _⟩
end Go.Proofs.Ytahjkpmlnjhddaa
