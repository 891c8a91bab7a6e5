
/- Outcomes as rows of one cell. -/
import Derived.Test.YtampkolkbjmmkaaSw5
namespace Go.Proofs.Ytampkolkbjmmkaa
open Go.RowKit
structure BoolW where
  b : Bool
def BoolW.cells (x : BoolW) : List Value := [.bool x.b]
theorem BoolW.cells_len (x : BoolW) : x.cells.length = 1 := rfl
instance : Inhabited BoolW := ⟨⟨false⟩⟩
theorem boolW_map (l : List Bool) : (l.map BoolW.mk).flatMap BoolW.cells = l.map Value.bool := by
  induction l with
  | nil => rfl
  | cons b l ih => rw [List.map_cons, List.flatMap_cons, ih]; rfl
end Go.Proofs.Ytampkolkbjmmkaa
