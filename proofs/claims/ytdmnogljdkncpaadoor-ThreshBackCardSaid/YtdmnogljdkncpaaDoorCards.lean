/-
  DERIVED. GIVEN WITH THE SEED: THE CARDS: each row of YtdmnogljdkncpaaDoorRows.lean that lists a variable, with what it lists TIED to the program's text (the seventh form; the later family's looks); each row that meets fmt, with fmt's text TOLD by the authors' own Lean function (tested against real Go, not proved from fmt's source: count such statements apart). THE CARD IS WHAT COUNTS. Prove the row's statement (the work); the ties are given (YtdmnogljdkncpaaDoorTie.lean); close each card by the builder's one call (the guide's Derived/Test/ToyasCard.lean, 'card_holds'). Laid BY PROGRAM, IN A SANDBOX (cutbox-door.mjs). By AI agents, Wed Nov 11 2026. No macro, syntax, notation, axiom, sorry.
-/
import Derived.Test.YtdmnogljdkncpaaDoorRows
import GoSem.ClaimSeven
namespace Go.Proofs.YtdmnogljdkncpaaDoor
namespace Rows

/-- THE TIED CARD OF 'bilgelaw06.ThreshBack'. -/
def threshBackCard : Claim7 := { stood := { row := threshBackRow, standIns := [], harness := (true, "fd0d97049504e2503e76f183d1cf4a8561fd29694cbcb889c407528ec09fb548"), looks := true }, kinds := [], alts := [], laidByText := true, laidKinds := [.data, .data, .data, .sentinel, .sentinel], laidTests := true, laidLooks := .later }
def ThreshBackCardSaid : Prop := Claim7.holds Tryd.pinned (.plain (OpenSpec.ofChange threshBackSpec)) threshBackCard

/-- THE SECOND FORM's CARD OF 'bilgelaw06.ThreshBack'. -/
def threshBackUptoCard : Claim7 := { stood := { row := threshBackUptoRow, standIns := [], harness := (true, "fd0d97049504e2503e76f183d1cf4a8561fd29694cbcb889c407528ec09fb548"), looks := true }, kinds := [], alts := [], laidByText := true, laidKinds := [.data, .data, .data, .sentinel, .sentinel], laidTests := true, laidLooks := .later }
def ThreshBackUptoCardSaid : Prop := Claim7.holds Tryd.pinned (.plain (OpenSpec.upto threshBackSpec)) threshBackUptoCard
end Rows
end Go.Proofs.YtdmnogljdkncpaaDoor
