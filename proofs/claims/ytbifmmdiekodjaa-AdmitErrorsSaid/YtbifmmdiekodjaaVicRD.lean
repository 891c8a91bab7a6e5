
/- What bilgeref21.Choose answers, as a row that stays; rows of texts that the call owns and stores into. -/
import Derived.Test.YtbifmmdiekodjaaVicRC
namespace Go.Proofs.Ytbifmmdiekodjaa
open Go.RowKit
set_option linter.unusedVariables false
set_option linter.unusedSimpArgs false
theorem own_shape {w : World} {B : Nat} {e : TypeId} {size : Nat} {v : Value} {n : Nat} {cs : List Value} (h : OwnR w B e size v n cs) :
    (v = .slice none 0 0 ∧ n = 0) ∨ ∃ g cap, v = .slice (some ⟨g, 0, none⟩) n cap ∧ B ≤ g ∧ g < w.heap.size ∧ n ≤ cap ∧ cap ≤ 9223372036854775807 := by
  obtain ⟨h1, h2⟩ := h
  rcases h2 with ⟨rfl, hn⟩ | ⟨g, cap, cur, rfl, hg, hh, hl, hm, hc, ht⟩
  · exact .inl ⟨rfl, hn⟩
  · exact .inr ⟨g, cap, rfl, hg, (Array.getElem?_eq_some_iff.1 hh).1, hl, by unfold maxLen at hm; omega⟩
theorem owns_at {w : World} {B : Nat} {e : TypeId} {g n cap : Nat} {cs : List Value} (h : OwnR w B e 1 (.slice (some ⟨g, 0, none⟩) n cap) n cs) {i : Nat} (hi : i < n) : (∃ u, w.cell? ⟨g, i, none⟩ = some u) ∧ w.frozen? ⟨g, i, none⟩ = false := by
  have hn : cs.length = n := by have := h.1; omega
  refine ⟨⟨cs[i]'(by omega), ?_⟩, World.ownsRow.frozenAt h i⟩
  · rw [World.ownsRow.cellAt h i (by omega)]
    exact List.getElem?_eq_getElem (by omega)
theorem owns_set {w : World} {B : Nat} {e : TypeId} {g n cap : Nat} {cs : List Value} (h : OwnR w B e 1 (.slice (some ⟨g, 0, none⟩) n cap) n cs) (i : Nat) (u : Value) : OwnR (w.setCell ⟨g, i, none⟩ u) B e 1 (.slice (some ⟨g, 0, none⟩) n cap) n (cs.set i u) :=
  (World.ownsRow.stored h i u).1
end Go.Proofs.Ytbifmmdiekodjaa
