/-
  DERIVED. GIVEN WITH THE SEED: THE CARDS: each row of YtiaemcejgjobiaaDoorRows.lean that lists a variable, with what it lists TIED to the program's text (the seventh form; the later family's looks); each row that meets fmt, with fmt's text TOLD by the authors' own Lean function (tested against real Go, not proved from fmt's source: count such statements apart). THE CARD IS WHAT COUNTS. Prove the row's statement (the work); the ties are given (YtiaemcejgjobiaaDoorTie.lean); close each card by the builder's one call (the guide's Derived/Test/ToyasCard.lean, 'card_holds'). Laid BY PROGRAM, IN A SANDBOX (cutbox-door.mjs). By AI agents, Wed Nov 11 2026. No macro, syntax, notation, axiom, sorry.
-/
import Derived.Test.YtiaemcejgjobiaaDoorRows
import GoSem.ClaimSeven
namespace Go.Proofs.YtiaemcejgjobiaaDoor
namespace Rows

/-- THE TIED CARD OF 'bilgelaw05.QuantReads'. -/
def quantReadsCard : Claim7 := { stood := { row := quantReadsRow, standIns := [], harness := (true, "5d5b060bcb284ba844f1c69f1af37065df4dfa279ad9a90ce95551f7a1b81e2d"), looks := true }, kinds := [], alts := [], laidByText := true, laidKinds := [.data, .data, .data], laidTests := true, laidLooks := .later }
def QuantReadsCardSaid : Prop := Claim7.holds Tryd.pinned (.plain (OpenSpec.ofChange quantReadsSpec)) quantReadsCard

/-- THE TIED CARD OF 'bilgelaw05.QuantBack'. -/
def quantBackCard : Claim7 := { stood := { row := quantBackRow, standIns := [], harness := (true, "5d5b060bcb284ba844f1c69f1af37065df4dfa279ad9a90ce95551f7a1b81e2d"), looks := true }, kinds := [], alts := [], laidByText := true, laidKinds := [.data, .data, .data], laidTests := true, laidLooks := .later }
def QuantBackCardSaid : Prop := Claim7.holds Tryd.pinned (.plain (OpenSpec.ofChange quantBackSpec)) quantBackCard

/-- THE TIED CARD OF 'bilgelaw05.QuantUnits'. -/
def quantUnitsCard : Claim7 := { stood := { row := quantUnitsRow, standIns := [], harness := (true, "5d5b060bcb284ba844f1c69f1af37065df4dfa279ad9a90ce95551f7a1b81e2d"), looks := true }, kinds := [], alts := [], laidByText := true, laidKinds := [.data, .data, .data], laidTests := true, laidLooks := .later }
def QuantUnitsCardSaid : Prop := Claim7.holds Tryd.pinned (.plain (OpenSpec.ofChange quantUnitsSpec)) quantUnitsCard

/-- THE TIED CARD OF 'bilgelaw05.QuantKeeps'. -/
def quantKeepsCard : Claim7 := { stood := { row := quantKeepsRow, standIns := [], harness := (true, "5d5b060bcb284ba844f1c69f1af37065df4dfa279ad9a90ce95551f7a1b81e2d"), looks := true }, kinds := [], alts := [], laidByText := true, laidKinds := [.data, .data, .data], laidTests := true, laidLooks := .later }
def QuantKeepsCardSaid : Prop := Claim7.holds Tryd.pinned (.plain (OpenSpec.ofChange quantKeepsSpec)) quantKeepsCard

/-- THE TIED CARD OF 'bilgelaw05.QuantOrder'. -/
def quantOrderCard : Claim7 := { stood := { row := quantOrderRow, standIns := [], harness := (true, "5d5b060bcb284ba844f1c69f1af37065df4dfa279ad9a90ce95551f7a1b81e2d"), looks := true }, kinds := [], alts := [], laidByText := true, laidKinds := [.data, .data, .data], laidTests := true, laidLooks := .later }
def QuantOrderCardSaid : Prop := Claim7.holds Tryd.pinned (.plain (OpenSpec.ofChange quantOrderSpec)) quantOrderCard

/-- THE TIED CARD OF 'bilgelaw06.ThreshReads'. -/
def threshReadsCard : Claim7 := { stood := { row := threshReadsRow, standIns := [], harness := (true, "5d5b060bcb284ba844f1c69f1af37065df4dfa279ad9a90ce95551f7a1b81e2d"), looks := true }, kinds := [], alts := [], laidByText := true, laidKinds := [.data, .data, .data, .sentinel, .sentinel], laidTests := true, laidLooks := .later }
def ThreshReadsCardSaid : Prop := Claim7.holds Tryd.pinned (.plain (OpenSpec.ofChange threshReadsSpec)) threshReadsCard

/-- THE TIED CARD OF 'bilgelaw06.ThreshBack'. -/
def threshBackCard : Claim7 := { stood := { row := threshBackRow, standIns := [], harness := (true, "5d5b060bcb284ba844f1c69f1af37065df4dfa279ad9a90ce95551f7a1b81e2d"), looks := true }, kinds := [], alts := [], laidByText := true, laidKinds := [.data, .data, .data, .sentinel, .sentinel], laidTests := true, laidLooks := .later }
def ThreshBackCardSaid : Prop := Claim7.holds Tryd.pinned (.plain (OpenSpec.ofChange threshBackSpec)) threshBackCard

/-- THE TIED CARD OF 'bilgelaw06.ThreshShares'. -/
def threshSharesCard : Claim7 := { stood := { row := threshSharesRow, standIns := [], harness := (true, "5d5b060bcb284ba844f1c69f1af37065df4dfa279ad9a90ce95551f7a1b81e2d"), looks := true }, kinds := [], alts := [], laidByText := true, laidKinds := [.data, .data, .data, .sentinel, .sentinel], laidTests := true, laidLooks := .later }
def ThreshSharesCardSaid : Prop := Claim7.holds Tryd.pinned (.plain (OpenSpec.ofChange threshSharesSpec)) threshSharesCard

/-- THE TIED CARD OF 'bilgelaw06.ThreshTexts'. -/
def threshTextsCard : Claim7 := { stood := { row := threshTextsRow, standIns := [], harness := (true, "5d5b060bcb284ba844f1c69f1af37065df4dfa279ad9a90ce95551f7a1b81e2d"), looks := true }, kinds := [], alts := [], laidByText := true, laidKinds := [.data, .data, .data, .sentinel, .sentinel], laidTests := true, laidLooks := .later }
def ThreshTextsCardSaid : Prop := Claim7.holds Tryd.pinned (.plain (OpenSpec.ofChange threshTextsSpec)) threshTextsCard

/-- THE SECOND FORM's CARD OF 'bilgelaw05.QuantReads'. -/
def quantReadsUptoCard : Claim7 := { stood := { row := quantReadsUptoRow, standIns := [], harness := (true, "5d5b060bcb284ba844f1c69f1af37065df4dfa279ad9a90ce95551f7a1b81e2d"), looks := true }, kinds := [], alts := [], laidByText := true, laidKinds := [.data, .data, .data], laidTests := true, laidLooks := .later }
def QuantReadsUptoCardSaid : Prop := Claim7.holds Tryd.pinned (.plain (OpenSpec.upto quantReadsSpec)) quantReadsUptoCard

/-- THE SECOND FORM's CARD OF 'bilgelaw05.QuantBack'. -/
def quantBackUptoCard : Claim7 := { stood := { row := quantBackUptoRow, standIns := [], harness := (true, "5d5b060bcb284ba844f1c69f1af37065df4dfa279ad9a90ce95551f7a1b81e2d"), looks := true }, kinds := [], alts := [], laidByText := true, laidKinds := [.data, .data, .data], laidTests := true, laidLooks := .later }
def QuantBackUptoCardSaid : Prop := Claim7.holds Tryd.pinned (.plain (OpenSpec.upto quantBackSpec)) quantBackUptoCard

/-- THE SECOND FORM's CARD OF 'bilgelaw05.QuantUnits'. -/
def quantUnitsUptoCard : Claim7 := { stood := { row := quantUnitsUptoRow, standIns := [], harness := (true, "5d5b060bcb284ba844f1c69f1af37065df4dfa279ad9a90ce95551f7a1b81e2d"), looks := true }, kinds := [], alts := [], laidByText := true, laidKinds := [.data, .data, .data], laidTests := true, laidLooks := .later }
def QuantUnitsUptoCardSaid : Prop := Claim7.holds Tryd.pinned (.plain (OpenSpec.upto quantUnitsSpec)) quantUnitsUptoCard

/-- THE SECOND FORM's CARD OF 'bilgelaw05.QuantKeeps'. -/
def quantKeepsUptoCard : Claim7 := { stood := { row := quantKeepsUptoRow, standIns := [], harness := (true, "5d5b060bcb284ba844f1c69f1af37065df4dfa279ad9a90ce95551f7a1b81e2d"), looks := true }, kinds := [], alts := [], laidByText := true, laidKinds := [.data, .data, .data], laidTests := true, laidLooks := .later }
def QuantKeepsUptoCardSaid : Prop := Claim7.holds Tryd.pinned (.plain (OpenSpec.upto quantKeepsSpec)) quantKeepsUptoCard

/-- THE SECOND FORM's CARD OF 'bilgelaw05.QuantOrder'. -/
def quantOrderUptoCard : Claim7 := { stood := { row := quantOrderUptoRow, standIns := [], harness := (true, "5d5b060bcb284ba844f1c69f1af37065df4dfa279ad9a90ce95551f7a1b81e2d"), looks := true }, kinds := [], alts := [], laidByText := true, laidKinds := [.data, .data, .data], laidTests := true, laidLooks := .later }
def QuantOrderUptoCardSaid : Prop := Claim7.holds Tryd.pinned (.plain (OpenSpec.upto quantOrderSpec)) quantOrderUptoCard

/-- THE SECOND FORM's CARD OF 'bilgelaw06.ThreshReads'. -/
def threshReadsUptoCard : Claim7 := { stood := { row := threshReadsUptoRow, standIns := [], harness := (true, "5d5b060bcb284ba844f1c69f1af37065df4dfa279ad9a90ce95551f7a1b81e2d"), looks := true }, kinds := [], alts := [], laidByText := true, laidKinds := [.data, .data, .data, .sentinel, .sentinel], laidTests := true, laidLooks := .later }
def ThreshReadsUptoCardSaid : Prop := Claim7.holds Tryd.pinned (.plain (OpenSpec.upto threshReadsSpec)) threshReadsUptoCard

/-- THE SECOND FORM's CARD OF 'bilgelaw06.ThreshBack'. -/
def threshBackUptoCard : Claim7 := { stood := { row := threshBackUptoRow, standIns := [], harness := (true, "5d5b060bcb284ba844f1c69f1af37065df4dfa279ad9a90ce95551f7a1b81e2d"), looks := true }, kinds := [], alts := [], laidByText := true, laidKinds := [.data, .data, .data, .sentinel, .sentinel], laidTests := true, laidLooks := .later }
def ThreshBackUptoCardSaid : Prop := Claim7.holds Tryd.pinned (.plain (OpenSpec.upto threshBackSpec)) threshBackUptoCard

/-- THE SECOND FORM's CARD OF 'bilgelaw06.ThreshShares'. -/
def threshSharesUptoCard : Claim7 := { stood := { row := threshSharesUptoRow, standIns := [], harness := (true, "5d5b060bcb284ba844f1c69f1af37065df4dfa279ad9a90ce95551f7a1b81e2d"), looks := true }, kinds := [], alts := [], laidByText := true, laidKinds := [.data, .data, .data, .sentinel, .sentinel], laidTests := true, laidLooks := .later }
def ThreshSharesUptoCardSaid : Prop := Claim7.holds Tryd.pinned (.plain (OpenSpec.upto threshSharesSpec)) threshSharesUptoCard

/-- THE SECOND FORM's CARD OF 'bilgelaw06.ThreshTexts'. -/
def threshTextsUptoCard : Claim7 := { stood := { row := threshTextsUptoRow, standIns := [], harness := (true, "5d5b060bcb284ba844f1c69f1af37065df4dfa279ad9a90ce95551f7a1b81e2d"), looks := true }, kinds := [], alts := [], laidByText := true, laidKinds := [.data, .data, .data, .sentinel, .sentinel], laidTests := true, laidLooks := .later }
def ThreshTextsUptoCardSaid : Prop := Claim7.holds Tryd.pinned (.plain (OpenSpec.upto threshTextsSpec)) threshTextsUptoCard
end Rows
end Go.Proofs.YtiaemcejgjobiaaDoor
