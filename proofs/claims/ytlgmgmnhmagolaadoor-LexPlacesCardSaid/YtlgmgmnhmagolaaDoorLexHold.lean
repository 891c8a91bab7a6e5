
/- bilgeref04.Lines: what it holds on to. -/
import Derived.Test.YtlgmgmnhmagolaaDoorLexRefM
import Derived.Test.YtlgmgmnhmagolaaDoorLexCard
import Derived.Laws.BytesArg
namespace Go.Proofs.YtlgmgmnhmagolaaDoor
open Go.RowKit
set_option linter.unusedVariables false
set_option linter.unusedSimpArgs false
theorem Ints.drop {k : IntKind} {w : World} {b off len cap : Nat} {l : List Int} (h : Ints k w (some ⟨b, off, none⟩) len cap l) {n : Nat} (hn : n ≤ len) : Ints k w (some ⟨b, off + n, none⟩) (len - n) (cap - n) (l.drop n) := by
  obtain ⟨⟨h1, h2, h3, h4, h5⟩, hw⟩ := h
  simp at h1
  refine ⟨⟨by simp; omega, by omega, by omega, (fun e => by cases e), ?_⟩, fun m hm => hw m (List.mem_of_mem_drop hm)⟩
  rcases h5 with h5 | ⟨b', off', e, hc⟩
  · simp at h5; subst h5; left; simp
  · right
    cases e
    refine ⟨b, off + n, rfl, fun i hi => ?_⟩
    simp at hi
    rw [Nat.add_assoc, hc (n + i) (by simp; omega)]
    simp [List.getElem?_drop]
theorem Ints.take {k : IntKind} {w : World} {a : Option Addr} {len cap : Nat} {l : List Int} (h : Ints k w a len cap l) {n : Nat} (hn : n ≤ len) (ha : a ≠ none) : Ints k w a n cap (l.take n) := by
  obtain ⟨⟨h1, h2, h3, h4, h5⟩, hw⟩ := h
  simp at h1
  refine ⟨⟨by simp; omega, by omega, h3, fun e => absurd e ha, ?_⟩, fun m hm => hw m (List.mem_of_mem_take hm)⟩
  rcases h5 with h5 | ⟨b, off, e, hc⟩
  · left; simp at h5; subst h5; simp
  · right
    refine ⟨b, off, e, fun i hi => ?_⟩
    simp at hi
    rw [hc i (by simp; omega)]
    simp [hi]
theorem conv_sub {w : World} {b off len cap : Nat} {L : List UInt8} (h : Ints .u8 w (some ⟨b, off, none⟩) len cap (numsL L)) {i j : Nat} (hij : i ≤ j) (hj : j ≤ len) : (convert 22 9 (.slice (some ⟨b, off + i, none⟩) (j - i) (cap - i))).run Tryd.prog w = .ok (.string (bA ((L.drop i).take (j - i)))) w := by
  have hl := h.bounds
  have h2 := (Ints.drop h (n := i) (by omega)).take (n := j - i) (by omega) (by simp)
  rw [show ((numsL L).drop i).take (j - i) = numsL ((L.drop i).take (j - i)) by unfold numsL; simp [List.map_drop, List.map_take]] at h2
  have h3 := conv_str h2
  rwa [str_nums] at h3
theorem RowsF.mem {w : World} {B : Nat} {v : Value} {LL : List (List FldV)} {vs : List Value} (h : RowsF w B v LL vs) {x : Value} (hx : x ∈ vs) : ∃ F : List FldV, OwnR w B 33 3 x F.length (F.flatMap FldV.cells) := by
  obtain ⟨i, hi, rfl⟩ := List.getElem_of_mem hx
  have hl := h.len
  exact ⟨LL[i], h.inn i LL[i] vs[i] (List.getElem?_eq_getElem (by omega)) (List.getElem?_eq_getElem hi)⟩
/-- The rows so far, and the row that grows, apart from all of them. -/
structure Hold (w : World) (B : Nat) (v : Value) (out : List (List FldV)) (vs : List Value) (nv : Value) (now : List FldV) : Prop where
  rows : RowsF w B v out vs
  own : OwnR w B 33 3 nv now.length (now.flatMap FldV.cells)
  sep : ∀ x ∈ vs, Sep nv x
theorem Hold.alloc {w : World} {B : Nat} {v nv : Value} {out : List (List FldV)} {vs : List Value} {now : List FldV} (h : Hold w B v out vs nv now) (o : Obj) : Hold (w.alloc o) B v out vs nv now := ⟨h.rows.alloc o, h.own.alloc o, h.sep⟩
theorem Hold.fresh {w : World} {B : Nat} {v nv : Value} {out : List (List FldV)} {vs : List Value} {now : List FldV} (h : Hold w B v out vs nv now) : Hold w B v out vs (.slice none 0 0) [] := ⟨h.rows, OwnR.nil _ _ _ _, fun x _ => Sep.nilL x⟩
theorem Hold.grow {w w' : World} {B : Nat} {v nv nv' : Value} {out : List (List FldV)} {vs : List Value} {now : List FldV} {f : FldV} (h : Hold w B v out vs nv now)
    (ho : OwnR w' B 33 3 nv' (now.length + 1) (now.flatMap FldV.cells ++ f.cells)) (hg : w.grownBy w' nv.ownBlock) (hm : Moved w nv nv') : Hold w' B v out vs nv' (now ++ [f]) := by
  refine ⟨⟨OwnR.sep h.rows.out hg (own_type_sep h.own h.rows.out (by decide)), fun i F u h1 h2 => OwnR.sep (h.rows.inn i F u h1 h2) hg (h.sep u (List.mem_of_getElem? h2)), h.rows.sep⟩, ?_, fun x hx => ?_⟩
  · rw [List.length_append, List.flatMap_append]
    simpa using ho
  · obtain ⟨F, hF⟩ := h.rows.mem hx
    exact Moved.sep hm hF (h.sep x hx)
theorem Hold.push {w w' : World} {B : Nat} {v v' nv : Value} {out : List (List FldV)} {vs : List Value} {now : List FldV} (h : Hold w B v out vs nv now)
    (ho : OwnR w' B 31 1 v' (out.length + 1) (vs ++ [nv])) (hg : w.grownBy w' v.ownBlock) : Hold w' B v' (out ++ [now]) (vs ++ [nv]) (.slice none 0 0) [] := by
  have hl := h.rows.len
  have hin : ∀ (i : Nat) (F : List FldV) (u : Value), out[i]? = some F → vs[i]? = some u → OwnR w' B 33 3 u F.length (F.flatMap FldV.cells) := fun i F u h1 h2 => by
    have hy := h.rows.inn i F u h1 h2
    exact OwnR.sep hy hg (own_type_sep h.rows.out hy (by decide))
  have hn : OwnR w' B 33 3 nv now.length (now.flatMap FldV.cells) := OwnR.sep h.own hg (own_type_sep h.rows.out h.own (by decide))
  have key : ∀ (i : Nat) (u : Value), (vs ++ [nv])[i]? = some u → (i < vs.length ∧ vs[i]? = some u) ∨ (i = vs.length ∧ u = nv) := fun i u hi => by
    rcases Nat.lt_or_ge i vs.length with q | q
    · rw [List.getElem?_append_left q] at hi; exact .inl ⟨q, hi⟩
    · rw [List.getElem?_append_right q] at hi
      cases hk : i - vs.length with
      | zero => rw [hk] at hi; simp at hi; exact .inr ⟨by omega, hi.symm⟩
      | succ k => rw [hk] at hi; simp at hi
  refine ⟨⟨by rw [List.length_append]; exact ho, fun i F u h1 h2 => ?_, fun i j u x h1 h2 hne => ?_⟩, OwnR.nil _ _ _ _, fun x _ => Sep.nilL x⟩
  · rcases key i u h2 with ⟨q, h3⟩ | ⟨rfl, rfl⟩
    · rw [List.getElem?_append_left (by omega)] at h1
      exact hin i F u h1 h3
    · rw [List.getElem?_append_right (by omega), hl, Nat.sub_self] at h1
      simp at h1
      subst h1
      exact hn
  · rcases key i u h1 with ⟨q, h3⟩ | ⟨q, rfl⟩
    · rcases key j x h2 with ⟨q2, h4⟩ | ⟨q2, rfl⟩
      · exact h.rows.sep i j u x h3 h4 hne
      · exact (h.sep u (List.mem_of_getElem? h3)).symm
    · rcases key j x h2 with ⟨q2, h4⟩ | ⟨q2, rfl⟩
      · exact h.sep x (List.mem_of_getElem? h4)
      · omega
end Go.Proofs.YtlgmgmnhmagolaaDoor
