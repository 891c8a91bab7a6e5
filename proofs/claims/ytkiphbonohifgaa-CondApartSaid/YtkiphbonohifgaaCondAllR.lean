
/- The signals' conditions behind a round: the reference's All, and SameEvents. -/
import Derived.Test.YtkiphbonohifgaaCondAll0
namespace Go.Proofs.Ytkiphbonohifgaa
open Go.RowKit
set_option linter.unusedVariables false

/-- The reference's cells behind k signals. -/
def Three.nextR (x : Three) (k : Nat) : List Value :=
  [.bool (if 0 < k then x.s 0 else false), .int .i64 (if 0 < k then x.d 0 else 0),
   .bool (if 1 < k then x.s 1 else false), .int .i64 (if 1 < k then x.d 1 else 0),
   .bool (if 2 < k then x.s 2 else false), .int .i64 (if 2 < k then x.d 2 else 0)]
def Three.fitsR (x : Three) : Prop := (if x.b0 then x.c0 < x.n else x.c0 = 0) ∧ (if x.b1 then x.c1 < x.n else x.c1 = 0) ∧ (if x.b2 then x.c2 < x.n else x.c2 = 0)

theorem evs_at {l : List (Int × Int)} {k : Nat} {x : Int × Int} (h : l[k]? = some x) :
    (evsCells l)[4 * k]? = some (.int .i64 x.1) ∧ (evsCells l)[4 * k + 1]? = some (.string ByteArray.empty) ∧ (evsCells l)[4 * k + 2]? = some (.int .i64 x.2) ∧ (evsCells l)[4 * k + 3]? = some (.int .i64 0) := by
  induction l generalizing k with
  | nil => simp at h
  | cons y l ih =>
    have e : evsCells (y :: l) = evCells y.1 y.2 ++ evsCells l := rfl
    cases k with
    | zero => simp at h; subst h; rw [e]; exact ⟨rfl, rfl, rfl, rfl⟩
    | succ k =>
      simp at h
      have := ih h
      rw [e, show 4 * (k + 1) = 4 * k + 4 by omega]
      have g : ∀ j, (evCells y.1 y.2 ++ evsCells l)[4 + j]? = (evsCells l)[j]? := fun j => by
        rw [List.getElem?_append_right (by simp [evCells])]
        simp [evCells]
      refine ⟨?_, ?_, ?_, ?_⟩
      · rw [Nat.add_comm, g]; exact this.1
      · rw [show 4 * k + 4 + 1 = 4 + (4 * k + 1) by omega, g]; exact this.2.1
      · rw [show 4 * k + 4 + 2 = 4 + (4 * k + 2) by omega, g]; exact this.2.2.1
      · rw [show 4 * k + 4 + 3 = 4 + (4 * k + 3) by omega, g]; exact this.2.2.2

end Go.Proofs.Ytkiphbonohifgaa
