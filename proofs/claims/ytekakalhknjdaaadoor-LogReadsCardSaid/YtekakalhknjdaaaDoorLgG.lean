
/- Stage 27: the reference: Read: contract. -/
import Derived.Test.YtekakalhknjdaaaDoorLgF3
import Derived.Test.YtekakalhknjdaaaDoorLgF4
import Derived.Test.YtekakalhknjdaaaDoorLgF5
namespace Go.Proofs.YtekakalhknjdaaaDoor
open Go.RowKit
set_option linter.unusedVariables false
set_option linter.unusedSimpArgs false
theorem rf_Read27 (s : ByteArray) (w : World) (hs : s.size ≤ 1000000) :
    Calls Tryd.prog 15 #[.string s] w fun e0 w' => e0 = .returned (.tuple #[.int .i64 (rdR s), (rdE s).v, .bool (rdB s)]) ∧ Below w.heap.size w w' := by
  by_cases h3 : (cutsL 32 s.data.toList).length = 3
  · exact rf_Read27_3 s w hs h3
  · by_cases h4 : (cutsL 32 s.data.toList).length = 4
    · exact rf_Read27_4 s w hs h4
    · by_cases h5 : (cutsL 32 s.data.toList).length = 5
      · exact rf_Read27_5 s w hs h5
      · exact rf_Read27_0 s w hs (by omega)
end Go.Proofs.YtekakalhknjdaaaDoor
