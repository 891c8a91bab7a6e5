
/- The fixed answers of layer 5's statements. -/
import Derived.Test.YtekakalhknjdaaaDoorQuantB
namespace Go.Proofs.YtekakalhknjdaaaDoor
open Go.RowKit
set_option linter.unusedVariables false
set_option linter.unusedSimpArgs false

theorem dd_one (u : Nat) (h : u < 10) : ddB u = ⟨#[UInt8.ofNat (48 + u)]⟩ := by unfold ddB; rw [dd_small h]
end Go.Proofs.YtekakalhknjdaaaDoor
