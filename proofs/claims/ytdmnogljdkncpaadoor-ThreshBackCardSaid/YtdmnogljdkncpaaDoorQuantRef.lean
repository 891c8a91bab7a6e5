
/- bilgeref05.Names, Unit, Read: contracts. -/
import Derived.Test.YtdmnogljdkncpaaDoorQuantNames
namespace Go.Proofs.YtdmnogljdkncpaaDoor
open Go.RowKit
set_option linter.unusedVariables false
set_option linter.unusedSimpArgs false

end Go.Proofs.YtdmnogljdkncpaaDoor
