
/- bilgeref21.next: contract. -/
import Derived.Test.YtbifmmdiekodjaaVicBest
namespace Go.Proofs.Ytbifmmdiekodjaa
open Go.RowKit
set_option linter.unusedVariables false
set_option linter.unusedSimpArgs false
def BestR (f : PodV → Bool) (L : List PodV) (k : Nat) (v : Value) : Prop := (bestF f (L.take k) = none ∧ v = .int .i64 (-1)) ∨ ∃ (j : Nat) (y : PodV), bestF f (L.take k) = some y ∧ L[j]? = some y ∧ v = .int .i64 (j : Int)
theorem best_skip {f : PodV → Bool} {L : List PodV} {k : Nat} {x : PodV} {v : Value} (h : L[k]? = some x) (hf : f x = false) (hb : BestR f L k v) : BestR f L (k + 1) v := by
  rcases hb with ⟨h1, h2⟩ | ⟨j, y, h1, h2, h3⟩
  · exact .inl ⟨(best_next h h1).trans (step_skip _ hf), h2⟩
  · exact .inr ⟨j, y, (best_next h h1).trans (step_skip _ hf), h2, h3⟩
def NextP (L : List PodV) (o : Option PodV) (e : Ending) : Prop := (o = none ∧ e = .returned (.int .i64 (-1))) ∨ ∃ (j : Nat) (y : PodV), o = some y ∧ L[j]? = some y ∧ e = .returned (.int .i64 (j : Int))
theorem next_of {f : PodV → Bool} {L : List PodV} {v : Value} (h : BestR f L L.length v) : NextP L (bestF f L) (.returned v) := by
  unfold BestR at h
  rw [List.take_length] at h
  rcases h with ⟨h1, rfl⟩ | ⟨j, y, h1, h2, rfl⟩
  · exact .inl ⟨h1, rfl⟩
  · exact .inr ⟨j, y, h1, h2, rfl⟩
end Go.Proofs.Ytbifmmdiekodjaa
