
/- Growth, rows of structs, comparisons of numbers and texts (partly taken out of stage 21). -/
import Derived.Test.YtekakalhknjdaaaDoorRowK
import Derived.Test.YtekakalhknjdaaaDoorCmpG
import Derived.Test.YtekakalhknjdaaaDoorKrip
import Derived.Test.YtekakalhknjdaaaDoorShelf
namespace Go.Proofs.YtekakalhknjdaaaDoor
open Go.RowKit Go.Sort Go.Lib
set_option linter.unusedVariables false
set_option linter.unusedSimpArgs false
/-- Draws and new blocks, and nothing else. -/
def GW (w u : World) : Prop := ∃ q os, u = grow (w.drewN q) os
theorem GW.refl (w : World) : GW w w := ⟨0, #[], by rw [grow_empty]; rfl⟩
theorem GW.drew {w u : World} (h : GW w u) : GW w u.drew := by
  obtain ⟨q, os, rfl⟩ := h
  exact ⟨q + 1, os, rfl⟩
theorem GW.alloc {w u : World} (h : GW w u) (o : Obj) : GW w (u.alloc o) := by
  obtain ⟨q, os, rfl⟩ := h
  exact ⟨q, os ++ #[o], by rw [alloc_eq_grow, grow_grow]⟩
theorem GW.trans {a b c : World} (h : GW a b) (k : GW b c) : GW a c := by
  obtain ⟨q, os, rfl⟩ := h
  obtain ⟨q2, os2, rfl⟩ := k
  refine ⟨q + q2, os ++ os2, ?_⟩
  unfold grow World.drewN
  simp [Array.append_assoc, Nat.add_assoc]
theorem GW.below {w u : World} (h : GW w u) : Below w.heap.size w u := by
  obtain ⟨q, os, rfl⟩ := h
  refine ⟨rfl, rfl, rfl, ?_, fun k hk => ?_⟩
  · show w.heap.size ≤ (w.heap ++ os).size
    rw [Array.size_append]; omega
  · show (w.heap ++ os)[k]? = w.heap[k]?
    exact Array.getElem?_append_left hk
theorem rowR_of_own {w : World} {B : Nat} {e : TypeId} {k : Nat} {v : Value} {n : Nat} {cs : List Value} (h : OwnR w B e k v n cs) : ∃ a cap, v = .slice a n cap ∧ Row w a n cap k cs := by
  have h' := h
  obtain ⟨h1, h2⟩ := h
  rcases h2 with ⟨rfl, hn⟩ | ⟨g, cap, cur, rfl, hg, hh, hl, hm, hc, ht⟩
  · subst hn
    have : cs = [] := List.eq_nil_of_length_eq_zero (by simpa using h1)
    subst this
    exact ⟨none, 0, rfl, by simp, Nat.le_refl _, by unfold maxLen; omega, fun _ => ⟨rfl, rfl⟩, .inl rfl⟩
  · refine ⟨_, cap, rfl, h1, hl, hm, (fun h => by cases h), .inr ⟨g, 0, rfl, fun i hi => ?_⟩⟩
    rw [List.getElem?_eq_getElem hi]
    have := h'.cells (g := g) rfl i _ (List.getElem?_eq_getElem hi)
    have e : (⟨g, 0, none⟩ : Addr).add i = ⟨g, 0 + i, none⟩ := by cases i <;> simp [Addr.add]
    rw [e] at this
    exact this
theorem row_new_at (w : World) (cs : List Value) (T : TypeId) (n k N : Nat) (hN : w.heap.size = N) (h1 : cs.length = n * k) (h2 : n ≤ maxLen) : Row (w.alloc (.cells cs.toArray T)) (some ⟨N, 0, none⟩) n n k cs := hN ▸ row_new w cs T n k h1 h2
theorem own_ne_new {w : World} {B : Nat} {e : TypeId} {k : Nat} {v : Value} {n : Nat} {cs : List Value} (h : OwnR w B e k v n cs) {N : Nat} (hN : w.heap.size ≤ N) : v.ownBlock ≠ some N := fun q => absurd (World.ownsRow.lt h _ q).2 (by omega)
theorem row_nil {w : World} {size : Nat} : Row w none 0 0 size ([] : List Value) := ⟨by simp, Nat.le_refl _, by unfold maxLen; omega, fun _ => ⟨rfl, rfl⟩, .inl rfl⟩
theorem own_shape {w : World} {B : Nat} {e : TypeId} {size : Nat} {v : Value} {n : Nat} {cs : List Value} (h : OwnR w B e size v n cs) :
    (v = .slice none 0 0 ∧ n = 0) ∨ ∃ g cap, v = .slice (some ⟨g, 0, none⟩) n cap ∧ B ≤ g ∧ g < w.heap.size ∧ n ≤ cap ∧ cap ≤ 9223372036854775807 := by
  obtain ⟨h1, h2⟩ := h
  rcases h2 with ⟨rfl, hn⟩ | ⟨g, cap, cur, rfl, hg, hh, hl, hm, hc, ht⟩
  · exact .inl ⟨rfl, hn⟩
  · exact .inr ⟨g, cap, rfl, hg, (Array.getElem?_eq_some_iff.1 hh).1, hl, by unfold maxLen at hm; omega⟩

@[go_sem] theorem run_store_flt {P : Program} {w : World} {a : Addr} {m : Mode} (k : FloatKind) (n : Nat) : (store a (.float k n) m).run P w = stored P w a (.float k n) m := run_store P w a _ m rfl
theorem own_snocG {α : Type} {enc : α → List Value} {k : Nat} {E : TypeId} {w : World} {B : Nat} {v : Value} {N : List α} {x : α} (h : OwnR w B E k v (N.length + 1) (N.flatMap enc ++ enc x)) : OwnR w B E k v (N ++ [x]).length ((N ++ [x]).flatMap enc) := by
  rw [List.length_append, List.flatMap_append]; simpa using h
theorem own_snocM {α : Type} {enc : α → Value} {E : TypeId} {w : World} {B : Nat} {v : Value} {N : List α} {x : α} (h : OwnR w B E 1 v (N.length + 1) (N.map enc ++ [enc x])) : OwnR w B E 1 v (N ++ [x]).length ((N ++ [x]).map enc) := by
  rw [List.length_append, List.map_append]; simpa using h
theorem row_of_blkN {w : World} {M n k : Nat} {C : List Value} {T : TypeId} (h : Blk w M C T) (hl : C.length = n * k) (hm : n ≤ maxLen) : Row w (some ⟨M, 0, none⟩) n n k C :=
  ⟨hl, Nat.le_refl _, hm, (fun h => by cases h), .inr ⟨M, 0, rfl, fun i hi => by rw [Nat.zero_add, h.cell (j := i) (List.getElem?_eq_getElem hi), List.getElem?_eq_getElem hi]⟩⟩
theorem own_blk {w : World} {M n k : Nat} {C : List Value} {T : TypeId} {B : Nat} (h : Blk w M C T) (hl : C.length = n * k) (hm : n ≤ maxLen) (hB : B ≤ M) : OwnR w B T k (.slice (some ⟨M, 0, none⟩) n n) n C :=
  ⟨hl, .inr ⟨M, n, C.toArray, rfl, hB, h, Nat.le_refl _, hm, by simp [hl], by simp [← hl]⟩⟩
theorem filtG_next {α : Type} {f : α → Bool} {L : List α} {k : Nat} {x : α} (h : L[k]? = some x) (hf : f x = true) : (L.take (k + 1)).filter f = (L.take k).filter f ++ [x] := by
  rw [List.take_add_one, h, List.filter_append]; simp [hf]
theorem filtG_same {α : Type} {f : α → Bool} {L : List α} {k : Nat} {x : α} (h : L[k]? = some x) (hf : f x = false) : (L.take (k + 1)).filter f = (L.take k).filter f := by
  rw [List.take_add_one, h, List.filter_append]; simp [hf]
theorem filtG_len {α : Type} (f : α → Bool) (L : List α) (k : Nat) : ((L.take k).filter f).length ≤ L.length :=
  Nat.le_trans (List.length_filter_le _ _) (by rw [List.length_take]; omega)
theorem mapG_next {α β : Type} {f : α → β} {L : List α} {k : Nat} {x : α} (h : L[k]? = some x) : (L.take (k + 1)).map f = (L.take k).map f ++ [f x] := by
  rw [List.take_add_one, h, List.map_append]; rfl
theorem takeG_next {α : Type} {L : List α} {k : Nat} {x : α} (h : L[k]? = some x) : L.take (k + 1) = L.take k ++ [x] := by
  rw [List.take_add_one, h]; rfl
theorem bytesLess_iff (x y : ByteArray) : Op.bytesLess x.toList y.toList = decide (x.toList < y.toList) := by rw [bytesLess_eq]
theorem cS_cases (x y : ByteArray) : (Op.bytesLess x.toList y.toList = true ∧ cS x y = -1) ∨ (Op.bytesLess x.toList y.toList = false ∧ (x.toList == y.toList) = true ∧ cS x y = 0) ∨ (Op.bytesLess x.toList y.toList = false ∧ (x.toList == y.toList) = false ∧ cS x y = 1) := by
  rw [bytesLess_iff]
  unfold cS
  by_cases h : x.toList < y.toList
  · exact .inl ⟨by simp [h], by rw [if_pos h]⟩
  · by_cases e : x.toList = y.toList
    · exact .inr (.inl ⟨by simp [h], by simp [e], by rw [if_neg h, if_pos e]⟩)
    · exact .inr (.inr ⟨by simp [h], by simp [e], by rw [if_neg h, if_neg e]⟩)
end Go.Proofs.YtekakalhknjdaaaDoor
