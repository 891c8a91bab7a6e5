
/- bilgeref21.Choose: contract. -/
import Derived.Test.YtbifmmdiekodjaaVicNext
import Derived.Test.YtbifmmdiekodjaaAppG
namespace Go.Proofs.Ytbifmmdiekodjaa
open Go.RowKit
set_option linter.unusedVariables false
set_option linter.unusedSimpArgs false
def sliceLen : Value → Nat
  | .slice _ n _ => n
  | _ => 0
def NextI (L : List PodV) (o : Option PodV) (i : Int) : Prop := (o = none ∧ i = -1) ∨ ∃ (j : Nat) (y : PodV), o = some y ∧ L[j]? = some y ∧ i = (j : Int)
theorem row_nil {w : World} {size : Nat} : Row w none 0 0 size ([] : List Value) := ⟨by simp, Nat.le_refl _, by unfold maxLen; omega, fun _ => ⟨rfl, rfl⟩, .inl rfl⟩
theorem sep_new {w w' : World} {B B' : Nat} {e e' : TypeId} {k k' : Nat} {v v' : Value} {n n' : Nat} {cs cs' : List Value} (h : OwnR w B e k v n cs) (h' : OwnR w' B' e' k' v' n' cs') (hB : w.heap.size ≤ B') : Sep v v' := fun q h1 h2 => by
  have e1 := World.ownsRow.lt h q h1
  have e2 := World.ownsRow.lt h' q h2
  omega
theorem owns_len {w : World} {B : Nat} {v : Value} {G : List ByteArray} (h : OwnS w B v G) : sliceLen v = G.length := by
  obtain ⟨a, c, rfl, _⟩ := rowR_of_own h
  rfl
theorem sortS_nil : sortS [] = [] := List.eq_nil_of_length_eq_zero (by rw [sortS_len]; rfl)
theorem take_map_next {M : List PodV} {j : Nat} {x : PodV} (h : M[j]? = some x) : (M.take j).map PodV.id ++ [x.id] = (M.take (j + 1)).map PodV.id := by
  rw [List.take_add_one, h, List.map_append]; rfl
end Go.Proofs.Ytbifmmdiekodjaa
