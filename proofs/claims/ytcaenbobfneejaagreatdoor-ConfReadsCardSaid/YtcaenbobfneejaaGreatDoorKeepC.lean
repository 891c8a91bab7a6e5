
/- Stores beside own rows; rows that are overwritten from the front. -/
import Derived.Test.YtcaenbobfneejaaGreatDoorApp
namespace Go.Proofs.YtcaenbobfneejaaGreatDoor
open Go.RowKit
set_option linter.unusedVariables false
set_option linter.unusedSimpArgs false
theorem own_far {w : World} {B k n : Nat} {E T : TypeId} {v : Value} {cs C : List Value} {M : Nat} (h : OwnR w B E k v n cs) (hb : Blk w M C T) (hne : E ≠ T) (a : Addr) (ha : a.block = M) (x : Value) : OwnR (w.setCell a x) B E k v n cs := by
  obtain ⟨h1, h2⟩ := h
  refine ⟨h1, h2.imp id ?_⟩
  rintro ⟨g, cap, cur, e1, e2, e3, e4⟩
  refine ⟨g, cap, cur, e1, e2, ?_, e4⟩
  have hg : a.block ≠ g := by
    intro e
    unfold Blk at hb
    rw [← ha, e, e3] at hb
    simp at hb
    exact hne hb.2
  rw [Below.heap_setCell _ _ _ _ (by omega)]; exact e3
theorem own_low {w : World} {B k n : Nat} {E : TypeId} {v : Value} {cs : List Value} (h : OwnR w B E k v n cs) (a : Addr) (ha : a.block < B) (x : Value) : OwnR (w.setCell a x) B E k v n cs := by
  obtain ⟨h1, h2⟩ := h
  refine ⟨h1, h2.imp id ?_⟩
  rintro ⟨g, cap, cur, e1, e2, e3, e4⟩
  refine ⟨g, cap, cur, e1, e2, ?_, e4⟩
  rw [Below.heap_setCell _ _ _ _ (by omega)]; exact e3
/-- From place m on the one is as the other. -/
def TailEq (cs ds : List Value) (m : Nat) : Prop := ∀ j, m ≤ j → cs[j]? = ds[j]?
theorem TailEq.refl (cs : List Value) (m : Nat) : TailEq cs cs m := fun _ _ => rfl
theorem TailEq.set {cs ds : List Value} {m q : Nat} (h : TailEq cs ds m) (j : Nat) (hj : j < q) (hm : m ≤ q) (v : Value) : TailEq (cs.set j v) ds q := fun i hi => by
  rw [List.getElem?_set_ne (by omega)]; exact h i (by omega)
theorem TailEq.set2 {cs ds : List Value} {q : Nat} (h : TailEq cs ds q) (j : Nat) (hj : j < q) (v : Value) : TailEq (cs.set j v) ds q := h.set j hj (Nat.le_refl _) v
section
variable {α : Type} {enc : α → List Value} {sz : Nat}
theorem flat_cell (hen : ∀ x, (enc x).length = sz) {L : List α} {k j : Nat} {x : α} (hx : L[k]? = some x) (hj : j < sz) : (L.flatMap enc)[k * sz + j]? = (enc x)[j]? := by
  obtain ⟨hk, rfl⟩ := List.getElem?_eq_some_iff.1 hx
  have h : L.flatMap enc = (L.take k).flatMap enc ++ (enc L[k] ++ (L.drop (k + 1)).flatMap enc) := by
    rw [← List.flatMap_cons, ← List.flatMap_append, ← List.drop_eq_getElem_cons hk, List.take_append_drop]
  have hl : ((L.take k).flatMap enc).length = k * sz := by rw [flatMap_len enc sz hen, List.length_take, Nat.min_eq_left (by omega)]
  rw [h, List.getElem?_append_right (by omega), hl, Nat.add_sub_cancel_left, List.getElem?_append_left (by rw [hen]; omega)]
end
end Go.Proofs.YtcaenbobfneejaaGreatDoor
