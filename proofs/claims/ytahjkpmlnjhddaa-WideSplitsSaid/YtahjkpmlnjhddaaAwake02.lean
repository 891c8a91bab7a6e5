/- The fixed answers of layer 2's statements: the call returns true, and makes memory of its own alone. -/
import Derived.Test.YtahjkpmlnjhddaaWide
namespace Go.Proofs.Ytahjkpmlnjhddaa
open Go.RowKit
set_option linter.unusedVariables false
theorem inI_of {a : Int} (h0 : -9223372036854775808 ≤ a) (h1 : a ≤ 9223372036854775807) : InI a := ⟨h0, h1⟩
set_option maxHeartbeats 1000000 in
theorem awake02 (w : World) : Calls Try.prog 23 #[] w fun e w' => e = .returned (.bool true) ∧ Below w.heap.size w w' := by
  have f1 : satNum 9 * 100 < satNum 100 * satNum 10 := by decide
  have f2 : ¬ satNum 10 * 100 < satNum 100 * satNum 10 := by decide
  have f3 : cmpI (satNum 4611686018427387904 * satNum 4611686018427387904) (satNum 4611686018427387904 * satNum 4611686018427387903) = 1 := by decide
  have f4 : ratI 1 2 2 4 = 0 := by decide
  have f5 : ratI 1 0 9 1 = 1 := by decide
  have f6 : shareI 1000 15 = 150 := by decide
  have f7 : shareI 7 50 = 4 := by decide
  have hb : Below w.heap.size w w := Below.refl _ _
  go_enter Try.func23, Try.ntmps23
  go_wp2_with (first
    | (go_at_call 26; refine (wide_Below _ _ _ _ (inI_of (by omega) (by omega)) (inI_of (by omega) (by omega)) (inI_of (by omega) (by omega))).mono ?_; rintro e w1 ⟨rfl, hb1⟩; replace hb := belStep hb hb1; clear hb1)
    | (go_at_call 24; refine (wide_Compare _ _ _ _ _ (inI_of (by omega) (by omega)) (inI_of (by omega) (by omega)) (inI_of (by omega) (by omega)) (inI_of (by omega) (by omega))).mono ?_; rintro e w1 ⟨rfl, hb1⟩; replace hb := belStep hb hb1; clear hb1)
    | (go_at_call 27; refine (wide_Ratio _ _ _ _ _ (inI_of (by omega) (by omega)) (inI_of (by omega) (by omega)) (inI_of (by omega) (by omega)) (inI_of (by omega) (by omega))).mono ?_; rintro e w1 ⟨rfl, hb1⟩; replace hb := belStep hb hb1; clear hb1)
    | (go_at_call 28; refine (wide_Share _ _ _ (inI_of (by omega) (by omega)) (inI_of (by omega) (by omega))).mono ?_; rintro e w1 ⟨rfl, hb1⟩; replace hb := belStep hb hb1; clear hb1))
  go_ret
  exact ⟨rfl, hb⟩
end Go.Proofs.Ytahjkpmlnjhddaa
