
/- Rows of rows of the call's own: the fields of lines. Lines: how many, how long; rows of rows, further. -/
import Derived.Test.YtcaenbobfneejaaGreatDoorLex1
import Derived.Test.YtcaenbobfneejaaGreatDoorKeepC
namespace Go.Proofs.YtcaenbobfneejaaGreatDoor
open Go.RowKit
set_option linter.unusedVariables false
set_option linter.unusedSimpArgs false
theorem own_type_sep {w : World} {B C k j n m : Nat} {E F : TypeId} {v y : Value} {cs ds : List Value} (h : OwnR w B E k v n cs) (h' : OwnR w C F j y m ds) (hne : E ≠ F) : Sep v y := fun q h1 h2 => by
  obtain ⟨_, a⟩ := h
  obtain ⟨_, b⟩ := h'
  rcases a with ⟨e1, _⟩ | ⟨g, cap, cur, e1, _, e3, _⟩
  · rw [e1] at h1; cases h1
  rcases b with ⟨f1, _⟩ | ⟨g', cap', cur', f1, _, f3, _⟩
  · rw [f1] at h2; cases h2
  rw [e1] at h1
  rw [f1] at h2
  simp only [Value.ownBlock, Option.some.injEq] at h1 h2
  subst h1 h2
  rw [e3] at f3
  simp at f3
  exact hne f3.2
theorem own_set_far {w : World} {B C k j n m c g : Nat} {E F : TypeId} {v : Value} {cs ds : List Value} (h : OwnR w B E k v n cs) (h' : OwnR w C F j (.slice (some ⟨g, 0, none⟩) m c) m ds) (hne : E ≠ F) (i : Nat) (x : Value) : OwnR (w.setCell ⟨g, i, none⟩ x) B E k v n cs := by
  obtain ⟨h1, h2⟩ := h
  obtain ⟨_, b⟩ := h'
  refine ⟨h1, h2.imp id ?_⟩
  rintro ⟨q, cap, cur, e1, e2, e3, e4⟩
  refine ⟨q, cap, cur, e1, e2, ?_, e4⟩
  rcases b with ⟨f1, _⟩ | ⟨g', cap', cur', f1, _, f3, _⟩
  · cases f1
  simp only [Value.slice.injEq, Option.some.injEq, Addr.mk.injEq] at f1
  obtain ⟨⟨rfl, _⟩, _⟩ := f1
  have hg : g ≠ q := by
    rintro rfl
    rw [e3] at f3
    simp at f3
    exact hne f3.2
  rw [Below.heap_setCell _ _ _ _ (Ne.symm hg)]; exact e3
/-- A row of rows of fields. -/
structure RowsF (w : World) (B : Nat) (v : Value) (LL : List (List FldV)) (vs : List Value) : Prop where
  out : OwnR w B 43 1 v LL.length vs
  inn : ∀ (i : Nat) (F : List FldV) (u : Value), LL[i]? = some F → vs[i]? = some u → OwnR w B 45 3 u F.length (F.flatMap FldV.cells)
  sep : ∀ (i j : Nat) (u x : Value), vs[i]? = some u → vs[j]? = some x → i ≠ j → Sep u x
theorem RowsF.len {w : World} {B : Nat} {v : Value} {LL : List (List FldV)} {vs : List Value} (h : RowsF w B v LL vs) : vs.length = LL.length := by
  have := h.out.1
  omega
theorem RowsF.nil (w : World) (B : Nat) : RowsF w B (.slice none 0 0) [] [] := ⟨OwnR.nil _ _ _ _, (fun i F u h => by cases h), (fun i j u x h => by cases h)⟩
theorem RowsF.later {w w' : World} {B : Nat} {v : Value} {LL : List (List FldV)} {vs : List Value} (h : RowsF w B v LL vs) (hb : Below w.heap.size w w') : RowsF w' B v LL vs :=
  ⟨h.out.later hb, fun i F u h1 h2 => (h.inn i F u h1 h2).later hb, h.sep⟩
theorem RowsF.alloc {w : World} {B : Nat} {v : Value} {LL : List (List FldV)} {vs : List Value} (h : RowsF w B v LL vs) (o : Obj) : RowsF (w.alloc o) B v LL vs :=
  ⟨h.out.alloc o, fun i F u h1 h2 => (h.inn i F u h1 h2).alloc o, h.sep⟩
/-- 'all = append(all, nil)'. -/
theorem RowsF.push {w w' : World} {B : Nat} {v v' : Value} {LL : List (List FldV)} {vs : List Value} (h : RowsF w B v LL vs) (ho : OwnR w' B 43 1 v' (LL.length + 1) (vs ++ [.slice none 0 0])) (hg : w.grownBy w' v.ownBlock) : RowsF w' B v' (LL ++ [[]]) (vs ++ [.slice none 0 0]) := by
  have hl := h.len
  have hin : ∀ (i : Nat) (F : List FldV) (u : Value), LL[i]? = some F → vs[i]? = some u → OwnR w' B 45 3 u F.length (F.flatMap FldV.cells) := fun i F u h1 h2 => by
    have hy := h.inn i F u h1 h2
    exact OwnR.sep hy hg (own_type_sep h.out hy (by decide))
  refine ⟨by rw [List.length_append]; exact ho, fun i F u h1 h2 => ?_, fun i j u x h1 h2 hne => ?_⟩
  · rcases Nat.lt_or_ge i LL.length with q | q
    · rw [List.getElem?_append_left q] at h1
      rw [List.getElem?_append_left (by omega)] at h2
      exact hin i F u h1 h2
    · rw [List.getElem?_append_right q] at h1
      rw [List.getElem?_append_right (by omega), hl] at h2
      cases hi : i - LL.length with
      | zero =>
        rw [hi] at h1 h2
        simp only [List.getElem?_cons_zero, Option.some.injEq] at h1 h2
        subst h1 h2
        exact OwnR.nil _ _ _ _
      | succ k => rw [hi] at h1; cases h1
  · rcases Nat.lt_or_ge i vs.length with q | q
    · rw [List.getElem?_append_left q] at h1
      rcases Nat.lt_or_ge j vs.length with p | p
      · rw [List.getElem?_append_left p] at h2
        exact h.sep i j u x h1 h2 hne
      · rw [List.getElem?_append_right p] at h2
        cases hj : j - vs.length with
        | zero =>
          rw [hj] at h2
          simp only [List.getElem?_cons_zero, Option.some.injEq] at h2
          subst h2
          exact Sep.nilR _
        | succ k => rw [hj] at h2; cases h2
    · rw [List.getElem?_append_right q] at h1
      cases hi : i - vs.length with
      | zero =>
        rw [hi] at h1
        simp only [List.getElem?_cons_zero, Option.some.injEq] at h1
        subst h1
        exact Sep.nilL _
      | succ k => rw [hi] at h1; cases h1
/-- The last row. -/
theorem RowsF.last {w : World} {B : Nat} {v : Value} {LL : List (List FldV)} {F : List FldV} {vs : List Value} (h : RowsF w B v (LL ++ [F]) vs) : ∃ us u, vs = us ++ [u] ∧ us.length = LL.length ∧ OwnR w B 45 3 u F.length (F.flatMap FldV.cells) := by
  have hl := h.len
  rw [List.length_append] at hl
  simp only [List.length_cons, List.length_nil] at hl
  have hne : vs ≠ [] := fun e => by rw [e] at hl; simp at hl
  refine ⟨vs.dropLast, vs.getLast hne, (List.dropLast_concat_getLast hne).symm, by rw [List.length_dropLast]; omega, ?_⟩
  refine h.inn LL.length F _ (by simp) ?_
  rw [List.getLast_eq_getElem, List.getElem?_eq_getElem (by omega)]
  congr 1
  congr 1
  omega
/-- 'all[len(all)-1] = append(all[len(all)-1], f)': behind the append and the store. -/
theorem RowsF.grow {w w1 : World} {B g c : Nat} {LL : List (List FldV)} {F : List FldV} {us : List Value} {u u' : Value} {f : FldV} (h : RowsF w B (.slice (some ⟨g, 0, none⟩) (LL ++ [F]).length c) (LL ++ [F]) (us ++ [u])) (hl : us.length = LL.length)
    (ho : OwnR w1 B 45 3 u' (F.length + 1) (F.flatMap FldV.cells ++ f.cells)) (hg : w.grownBy w1 u.ownBlock) (hm : Moved w u u') :
    RowsF (w1.setCell ⟨g, LL.length, none⟩ u') B (.slice (some ⟨g, 0, none⟩) (LL ++ [F]).length c) (LL ++ [F ++ [f]]) (us ++ [u']) := by
  have hlast : OwnR w B 45 3 u F.length (F.flatMap FldV.cells) := h.inn LL.length F u (by simp) (by rw [← hl]; simp)
  have hout1 : OwnR w1 B 43 1 (.slice (some ⟨g, 0, none⟩) (LL ++ [F]).length c) (LL ++ [F]).length (us ++ [u]) := OwnR.sep h.out hg (own_type_sep hlast h.out (by decide))
  have hset : (us ++ [u]).set LL.length u' = us ++ [u'] := by
    rw [← hl, List.set_append_right _ _ (Nat.le_refl _), Nat.sub_self]; rfl
  have hout2 := (World.ownsRow.stored hout1 LL.length u').1
  rw [hset] at hout2
  have hother : ∀ (i : Nat) (G : List FldV) (x : Value), LL[i]? = some G → us[i]? = some x → OwnR w1 B 45 3 x G.length (G.flatMap FldV.cells) ∧ Sep u x := fun i G x h1 h2 => by
    have hil : i < LL.length := (List.getElem?_eq_some_iff.1 h1).1
    have hs : Sep u x := h.sep LL.length i u x (by rw [← hl]; simp) (by rw [List.getElem?_append_left (by omega)]; exact h2) (by omega)
    exact ⟨OwnR.sep (h.inn i G x (by rw [List.getElem?_append_left hil]; exact h1) (by rw [List.getElem?_append_left (by omega)]; exact h2)) hg hs, hs⟩
  have hsep' : ∀ (i : Nat) (G : List FldV) (x : Value), LL[i]? = some G → us[i]? = some x → Sep u' x := fun i G x h1 h2 => by
    have hil : i < LL.length := (List.getElem?_eq_some_iff.1 h1).1
    exact hm.sep (h.inn i G x (by rw [List.getElem?_append_left hil]; exact h1) (by rw [List.getElem?_append_left (by omega)]; exact h2)) (hother i G x h1 h2).2
  refine ⟨?_, fun i G x h1 h2 => ?_, fun i j x y h1 h2 hne => ?_⟩
  · have e1 : (LL ++ [F ++ [f]]).length = (LL ++ [F]).length := by simp
    rw [e1]; exact hout2
  · rcases Nat.lt_or_ge i LL.length with q | q
    · rw [List.getElem?_append_left q] at h1
      rw [List.getElem?_append_left (by omega)] at h2
      exact own_set_far (hother i G x h1 h2).1 hout1 (by decide) _ _
    · rw [List.getElem?_append_right q] at h1
      rw [List.getElem?_append_right (by omega), hl] at h2
      cases hi : i - LL.length with
      | zero =>
        rw [hi] at h1 h2
        simp only [List.getElem?_cons_zero, Option.some.injEq] at h1 h2
        subst h1 h2
        rw [List.length_append, List.flatMap_append]
        simp only [List.length_cons, List.length_nil, List.flatMap_cons, List.flatMap_nil, List.append_nil]
        exact own_set_far ho hout1 (by decide) _ _
      | succ k => rw [hi] at h1; cases h1
  · have hat : ∀ (i : Nat) (x : Value), us[i]? = some x → ∃ G, LL[i]? = some G := fun i x hx => by
      have hil : i < us.length := (List.getElem?_eq_some_iff.1 hx).1
      exact ⟨LL[i]'(by omega), List.getElem?_eq_getElem _⟩
    rcases Nat.lt_or_ge i us.length with q | q
    · rw [List.getElem?_append_left q] at h1
      obtain ⟨G, hG⟩ := hat i x h1
      rcases Nat.lt_or_ge j us.length with p | p
      · rw [List.getElem?_append_left p] at h2
        exact h.sep i j x y (by rw [List.getElem?_append_left q]; exact h1) (by rw [List.getElem?_append_left p]; exact h2) hne
      · rw [List.getElem?_append_right p] at h2
        cases hj : j - us.length with
        | zero =>
          rw [hj] at h2
          simp only [List.getElem?_cons_zero, Option.some.injEq] at h2
          subst h2
          exact (hsep' i G x hG h1).symm
        | succ k => rw [hj] at h2; cases h2
    · rw [List.getElem?_append_right q] at h1
      cases hi : i - us.length with
      | zero =>
        rw [hi] at h1
        simp only [List.getElem?_cons_zero, Option.some.injEq] at h1
        subst h1
        rcases Nat.lt_or_ge j us.length with p | p
        · rw [List.getElem?_append_left p] at h2
          obtain ⟨G, hG⟩ := hat j y h2
          exact hsep' j G y hG h2
        · exfalso
          have hjl : j < us.length + 1 := by
            have := (List.getElem?_eq_some_iff.1 h2).1
            simpa using this
          omega
      | succ k => rw [hi] at h1; cases h1
end Go.Proofs.YtcaenbobfneejaaGreatDoor
namespace Go.Proofs.YtcaenbobfneejaaGreatDoor
open Go.RowKit
set_option linter.unusedVariables false
set_option linter.unusedSimpArgs false
theorem lines_le (L : List UInt8) : (linesL L).length ≤ L.length + 1 ∧ ∀ l ∈ linesL L, l.length ≤ L.length := by
  induction L with
  | nil => exact ⟨Nat.le_refl _, fun l hl => by simp [linesL] at hl; simp [hl]⟩
  | cons c L ih =>
    obtain ⟨h1, h2⟩ := ih
    cases hc : (c == 10) with
    | true =>
      simp only [linesL, hc, if_true, List.length_cons]
      refine ⟨by omega, fun l hl => ?_⟩
      rcases List.mem_cons.1 hl with rfl | q
      · simp
      · have := h2 l q; omega
    | false =>
      simp only [linesL, hc, Bool.false_eq_true, if_false]
      cases hL : linesL L with
      | nil => exact ⟨by simp, fun l hl => by simp at hl; simp [hl]⟩
      | cons h t =>
        rw [hL] at h1 h2
        simp only [List.length_cons] at h1 ⊢
        refine ⟨by omega, fun l hl => ?_⟩
        rcases List.mem_cons.1 hl with rfl | q
        · have := h2 h (by simp); simp only [List.length_cons]; omega
        · have := h2 l (by simp [q]); omega
theorem allF_len (n : Int) (R : List (List UInt8)) : (allF n R).length ≤ R.length := by
  induction R generalizing n with
  | nil => exact Nat.le_refl _
  | cons l R ih =>
    have := ih (n + 1)
    have h1 : (oneF n l).length ≤ 1 := by unfold oneF; split <;> simp
    simp only [allF, List.length_append, List.length_cons]
    omega
def curL (cur : List FldV) : List (List FldV) := if cur.isEmpty then [] else [cur]
theorem curL_nil : curL [] = [] := rfl
theorem curL_some (cur : List FldV) (f : FldV) : curL (cur ++ [f]) = [cur ++ [f]] := by unfold curL; simp
theorem curL_len (cur : List FldV) : (curL cur).length ≤ 1 := by unfold curL; split <;> simp
theorem RowsF.mono {w : World} {B C : Nat} {v : Value} {LL : List (List FldV)} {vs : List Value} (h : RowsF w B v LL vs) (hC : C ≤ B) : RowsF w C v LL vs := ⟨h.out.mono hC, fun i F u a b => (h.inn i F u a b).mono hC, h.sep⟩
theorem RowsF.grow2 {w w1 : World} {B g c n q : Nat} {LL : List (List FldV)} {F : List FldV} {us : List Value} {u u' : Value} {f : FldV} (hn : (LL ++ [F]).length = n) (hq : LL.length = q) (h : RowsF w B (.slice (some ⟨g, 0, none⟩) n c) (LL ++ [F]) (us ++ [u])) (hl : us.length = LL.length)
    (ho : OwnR w1 B 45 3 u' (F.length + 1) (F.flatMap FldV.cells ++ f.cells)) (hg : w.grownBy w1 u.ownBlock) (hm : Moved w u u') :
    RowsF (w1.setCell ⟨g, q, none⟩ u') B (.slice (some ⟨g, 0, none⟩) n c) (LL ++ [F ++ [f]]) (us ++ [u']) := by
  subst hn hq
  exact RowsF.grow h hl ho hg hm
theorem RowsF.shape {w : World} {B : Nat} {v : Value} {LL : List (List FldV)} {vs : List Value} (h : RowsF w B v LL vs) : ∃ a n, v = .slice a LL.length n := by
  obtain ⟨a, c, e, _⟩ := rowR_of_own h.out
  exact ⟨a, c, e⟩
theorem RowsF.open {w : World} {B : Nat} {v : Value} {LL : List (List FldV)} {vs : List Value} (h : RowsF w B v LL vs) (h0 : 0 < LL.length) : ∃ g c, v = .slice (some ⟨g, 0, none⟩) LL.length c ∧ B ≤ g ∧ g < w.heap.size ∧ LL.length ≤ c ∧ c ≤ 9223372036854775807 := by
  rcases own_shape h.out with ⟨_, e⟩ | ⟨g, c, e, h1, h2, h3, h4⟩
  · omega
  · exact ⟨g, c, e, h1, h2, h3, h4⟩
end Go.Proofs.YtcaenbobfneejaaGreatDoor
