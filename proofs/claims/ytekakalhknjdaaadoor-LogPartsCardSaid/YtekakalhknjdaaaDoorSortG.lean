
/- Sorted lists, by whatever order whose ties are the same: plain lists. -/
import Derived.Test.YtekakalhknjdaaaDoorRowK
import Derived.Sort.LotA
namespace Go.Proofs.YtekakalhknjdaaaDoor
set_option linter.unusedVariables false
set_option linter.unusedSimpArgs false
section
variable {α : Type} {lt : α → α → Bool}
def sortBy (lt : α → α → Bool) (L : List α) : List α := L.mergeSort (fun x y => !lt y x)
theorem sortBy_perm (lt : α → α → Bool) (L : List α) : (sortBy lt L).Perm L := List.mergeSort_perm _ _
theorem sortBy_len (lt : α → α → Bool) (L : List α) : (sortBy lt L).length = L.length := (sortBy_perm lt L).length_eq
theorem sortBy_pw (h : Go.Sort.SWO lt) (L : List α) : (sortBy lt L).Pairwise (fun x y => (!lt y x) = true) := by
  refine List.pairwise_mergeSort ?_ ?_ _
  · intro a b c h1 h2
    simp only [Bool.not_eq_true'] at h1 h2 ⊢
    exact h.ntrans c b a h2 h1
  · intro a b
    cases h1 : lt b a with
    | false => rfl
    | true => rw [h.asymmA h1]; rfl
/-- Two of the list that don't part are one. -/
def Tied (lt : α → α → Bool) (L : List α) : Prop := ∀ x ∈ L, ∀ y ∈ L, lt x y = false → lt y x = false → x = y
theorem Tied.sub {L M : List α} (h : Tied lt L) (hs : ∀ x ∈ M, x ∈ L) : Tied lt M := fun x hx y hy => h x (hs x hx) y (hs y hy)
theorem sortBy_unique (h : Go.Sort.SWO lt) {L M : List α} (hd : Tied lt L) (hp : M.Perm L) (hs : M.Pairwise (fun x y => lt y x = false)) : M = sortBy lt L := by
  refine List.Perm.eq_of_pairwise (le := fun x y => (!lt y x) = true) ?_ (hs.imp (fun h => by rw [h]; rfl)) (sortBy_pw h L) (hp.trans (sortBy_perm lt L).symm)
  intro a b ha hb h1 h2
  simp only [Bool.not_eq_true'] at h1 h2
  exact hd a (hp.mem_iff.1 ha) b ((sortBy_perm lt L).mem_iff.1 hb) h2 h1
theorem sortBy_congr (h : Go.Sort.SWO lt) {L M : List α} (hd : Tied lt L) (hp : M.Perm L) : sortBy lt M = sortBy lt L :=
  sortBy_unique h hd ((sortBy_perm lt M).trans hp) ((sortBy_pw h M).imp (fun h => by simpa using h))
theorem sortBy_mem {L : List α} {x : α} : x ∈ sortBy lt L ↔ x ∈ L := (sortBy_perm lt L).mem_iff
theorem sortBy_nil : sortBy lt ([] : List α) = [] := by unfold sortBy; simp

/-- One more, ahead of the first that it goes ahead of. -/
def insBy (lt : α → α → Bool) (x : α) : List α → List α
  | [] => [x]
  | y :: l => if lt x y then x :: y :: l else y :: insBy lt x l
theorem insBy_perm (x : α) : ∀ L : List α, (insBy lt x L).Perm (x :: L)
  | [] => List.Perm.refl _
  | y :: l => by
    unfold insBy
    split
    · exact List.Perm.refl _
    · exact ((insBy_perm x l).cons y).trans (List.Perm.swap x y l)
theorem insBy_pw (h : Go.Sort.SWO lt) (x : α) : ∀ L : List α, L.Pairwise (fun a b => lt b a = false) → (insBy lt x L).Pairwise (fun a b => lt b a = false)
  | [], _ => by unfold insBy; exact List.pairwise_singleton _ _
  | y :: l, hp => by
    obtain ⟨h1, h2⟩ := List.pairwise_cons.1 hp
    unfold insBy
    split
    · rename_i hx
      refine List.pairwise_cons.2 ⟨fun z hz => ?_, hp⟩
      rcases List.mem_cons.1 hz with rfl | hz
      · exact h.asymmA hx
      · cases hzx : lt z x with
        | false => rfl
        | true =>
          have := h.trans z x y hzx hx
          rw [h1 z hz] at this; cases this
    · rename_i hx
      refine List.pairwise_cons.2 ⟨fun z hz => ?_, insBy_pw h x l h2⟩
      rcases List.mem_cons.1 ((insBy_perm x l).mem_iff.1 hz) with rfl | hz
      · simpa using hx
      · exact h1 z hz
theorem insBy_sorts (h : Go.Sort.SWO lt) {L : List α} {x : α} (hd : Tied lt (L ++ [x])) : insBy lt x (sortBy lt L) = sortBy lt (L ++ [x]) := by
  refine sortBy_unique h hd ?_ (insBy_pw h x _ ((sortBy_pw h L).imp (fun h => by simpa using h)))
  refine (insBy_perm x _).trans ?_
  refine ((sortBy_perm lt L).cons x).trans ?_
  exact (List.perm_append_comm (l₁ := [x]) (l₂ := L))
/-- Where it goes in: those ahead it doesn't go ahead of, the next one it does. -/
theorem insBy_split (x : α) : ∀ (A B : List α), (∀ y ∈ A, lt x y = false) → (∀ y ∈ B.head?, lt x y = true) → insBy lt x (A ++ B) = A ++ x :: B
  | [], [], _, _ => rfl
  | [], y :: B, _, hB => by show (if lt x y then _ else _) = _; rw [if_pos (hB y (by simp))]; rfl
  | a :: A, B, hA, hB => by
    show (if lt x a then _ else _) = _
    rw [if_neg (by rw [hA a List.mem_cons_self]; simp)]; show a :: insBy lt x (A ++ B) = _; rw [insBy_split x A B (fun y hy => hA y (List.mem_cons_of_mem _ hy)) hB]
    rfl
end
end Go.Proofs.YtekakalhknjdaaaDoor
