
/- bilgeref21.Without: contract. -/
import Derived.Test.YtbifmmdiekodjaaVicP
namespace Go.Proofs.Ytbifmmdiekodjaa
open Go.RowKit
set_option linter.unusedVariables false
set_option linter.unusedSimpArgs false
end Go.Proofs.Ytbifmmdiekodjaa
