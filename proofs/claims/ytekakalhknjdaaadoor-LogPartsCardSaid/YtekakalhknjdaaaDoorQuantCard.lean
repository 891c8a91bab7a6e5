
/- What a tied row's condition gives: the table of powers of ten. -/
import Derived.Test.YtekakalhknjdaaaDoorAwake05
import Derived.Test.YtekakalhknjdaaaDoorTie
import Derived.Test.YtekakalhknjdaaaDoorCards
import Derived.SevenTiedAt
import Derived.LaidMore
import Derived.MakeChecks
import Derived.Stop.Joined
import Derived.Stop.LaidErr
import Derived.Lib.LaidTab
namespace Go.Proofs.YtekakalhknjdaaaDoor
open Go.RowKit
set_option linter.unusedVariables false

theorem tab_data : (Rows.laid_internal_strconv_uint64pow10 : DataW Unit) = Lib.tabData .u64 Lib.pow10Tab := by kernel_rfl
end Go.Proofs.YtekakalhknjdaaaDoor
