/- What a tied row's condition gives: the table of powers of ten. -/
import Derived.Test.YtiaemcejgjobiaaDoorAwake05
import Derived.Test.YtiaemcejgjobiaaDoorTie
import Derived.Test.YtiaemcejgjobiaaDoorCards
import Derived.SevenTiedAt
import Derived.LaidMore
import Derived.MakeChecks
import Derived.Stop.Joined
import Derived.Stop.LaidErr
import Derived.Lib.LaidTab
namespace Go.Proofs.YtiaemcejgjobiaaDoor
open Go.RowKit
set_option linter.unusedVariables false

theorem tab_data : (Rows.laid_internal_strconv_uint64pow10 : DataW Unit) = Lib.tabData .u64 Lib.pow10Tab := by kernel_rfl
theorem tab_of {W : World} (h : laidMet Tryd.prog Rows.quantReadsRow.laid W) : Tab W := by
  have h2 : laidMet Tryd.prog [("internal/strconv.uint64pow10", (Rows.laid_internal_strconv_uint64pow10 : DataW Unit))] W := h.tail.tail
  rw [tab_data] at h2
  exact Lib.tabIs_of_head (g := 3) (t := 93) (e := 64) (n := 20) (by kernel_rfl) (by kernel_rfl) Tryd.underlying93 Tryd.underlying64 (by kernel_rfl) (by kernel_rfl) h2
end Go.Proofs.YtiaemcejgjobiaaDoor
