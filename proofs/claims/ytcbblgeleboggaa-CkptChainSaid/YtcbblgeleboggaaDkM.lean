
/- Stage 10: files as lists, by definition: plain lists. -/
import Derived.Test.YtcbblgeleboggaaAp
namespace Go.Proofs.Ytcbblgeleboggaa
open Go.RowKit
set_option linter.unusedVariables false
set_option linter.unusedSimpArgs false
structure FileM where
  name : ByteArray
  Z : List Int
structure MOp where
  kind : Int
  name : ByteArray
  dst : ByteArray
  Z : List Int
structure DiskV where
  files : List FileM
  done : List MOp
  cap : Nat
def SortedF (L : List FileM) : Prop := L.Pairwise (fun a b => a.name.toList < b.name.toList)
def getF (L : List FileM) (s : ByteArray) : Option (List Int) := (L.find? fun f => f.name.toList == s.toList).map FileM.Z
def delF (L : List FileM) (s : ByteArray) : List FileM := L.filter fun f => !(f.name.toList == s.toList)
def putF (L : List FileM) (s : ByteArray) (Z : List Int) : List FileM := (L.filter fun f => decide (f.name.toList < s.toList)) ++ ⟨s, Z⟩ :: (L.filter fun f => decide (s.toList < f.name.toList))
def moveF (L : List FileM) (s t : ByteArray) : List FileM := match getF L s with
  | none => L
  | some Z => if (s.toList == t.toList) = true then L else delF (putF L t Z) s
def applyF (L : List FileM) (o : MOp) : List FileM := if o.kind = 1 then putF L o.name o.Z else if o.kind = 2 then moveF L o.name o.dst else if o.kind = 3 then delF L o.name else L
def ownM (o : MOp) : MOp := if o.kind = 1 then ⟨1, o.name, ⟨#[]⟩, o.Z⟩ else if o.kind = 2 then ⟨2, o.name, o.dst, []⟩ else ⟨3, o.name, ⟨#[]⟩, []⟩
def namedM (s : ByteArray) : Bool := decide (1 ≤ s.size) && decide (s.size ≤ 32)
def rightM (o : MOp) : Bool := if o.kind = 1 then namedM o.name else if o.kind = 2 then namedM o.name && namedM o.dst else if o.kind = 3 then namedM o.name else false
def partM (o : MOp) (k : Int) : MOp := if o.kind = 1 ∧ 1 ≤ k ∧ k ≤ o.Z.length then { o with Z := o.Z.take (k - 1).toNat } else o
def crashS (L : List FileM) (p : MOp × Int) : List FileM := if p.2 = 0 then L else applyF L (partM p.1 p.2)
def crashF (L : List FileM) (d : List MOp) (k : List Int) : List FileM := (d.zip k).foldl crashS L
def DiskV.look (d : DiskV) : List FileM := d.done.foldl applyF d.files
def doE (o : MOp) : Int := if rightM o then 0 else 1
def doW (d : DiskV) (o : MOp) : DiskV := if rightM o then { d with done := d.done ++ [ownM o] } else d
def syncW (d : DiskV) : DiskV := ⟨d.look, [], d.cap + d.done.length⟩
def crashW (d : DiskV) (k : List Int) : DiskV := ⟨crashF d.files d.done k, [], d.cap + d.done.length⟩
theorem takeD_next {α : Type} {L : List α} {k : Nat} {x : α} (h : L[k]? = some x) : L.take (k + 1) = L.take k ++ [x] := by rw [List.take_add_one, h]; rfl
theorem fold_next {α β : Type} {f : β → α → β} {b : β} {L : List α} {k : Nat} {x : α} (h : L[k]? = some x) : (L.take (k + 1)).foldl f b = f ((L.take k).foldl f b) x := by rw [takeD_next h, List.foldl_append]; rfl
theorem ba_ext {s t : ByteArray} (h : s.toList = t.toList) : s = t := by
  rw [ByteArray.toList_eq, ByteArray.toList_eq] at h
  cases s; cases t; simp only [ByteArray.mk.injEq]; exact Array.toList_inj.1 h
theorem lt_neB {s t : ByteArray} (h : s.toList < t.toList) : (s.toList == t.toList) = false := by
  rw [beq_eq_false_iff_ne]; intro e; rw [e] at h; exact List.lt_irrefl _ h
theorem find_filterD {α : Type} (p q : α → Bool) (L : List α) : (L.filter p).find? q = L.find? (fun a => p a && q a) := by
  induction L with
  | nil => rfl
  | cons x l ih =>
    cases hp : p x with
    | true => rw [List.filter_cons_of_pos hp, List.find?_cons, List.find?_cons, ih, hp, Bool.true_and]
    | false => rw [List.filter_cons_of_neg (by rw [hp]; simp), List.find?_cons, ih, hp, Bool.false_and]
theorem lt_or_gt_of (s t : ByteArray) (e : s.toList ≠ t.toList) : s.toList < t.toList ∨ t.toList < s.toList := by
  rcases Decidable.em (s.toList < t.toList) with h | h
  · exact .inl h
  · refine .inr ?_
    rcases List.le_iff_lt_or_eq.1 (List.not_lt.1 h) with q | q
    · exact q
    · exact absurd q.symm e
theorem find_putF (L : List FileM) (s t : ByteArray) (Z : List Int) : getF (putF L s Z) t = if (s.toList == t.toList) = true then some Z else getF L t := by
  unfold getF putF
  rw [List.find?_append, find_filterD, List.find?_cons, find_filterD]
  by_cases e : s.toList = t.toList
  · have h1 : L.find? (fun a => decide (a.name.toList < s.toList) && (a.name.toList == t.toList)) = none := by
      rw [List.find?_eq_none]
      intro x _ hx
      simp only [Bool.and_eq_true, decide_eq_true_eq, beq_iff_eq] at hx
      rw [hx.2, ← e] at hx; exact List.lt_irrefl _ hx.1
    rw [h1, if_pos (by simpa using e)]
    simp [e]
  · have e2 : (s.toList == t.toList) = false := by rw [beq_eq_false_iff_ne]; exact e
    rw [if_neg (by rw [e2]; simp)]
    simp only [e2, Bool.false_eq_true, if_false]
    rcases lt_or_gt_of s t e with h | h
    · -- s < t
      have h1 : L.find? (fun a => decide (a.name.toList < s.toList) && (a.name.toList == t.toList)) = none := by
        rw [List.find?_eq_none]
        intro x _ hx
        simp only [Bool.and_eq_true, decide_eq_true_eq, beq_iff_eq] at hx
        rw [hx.2] at hx; exact List.lt_irrefl _ (List.lt_trans hx.1 h)
      have h2 : (fun a : FileM => decide (s.toList < a.name.toList) && (a.name.toList == t.toList)) = fun a => a.name.toList == t.toList := by
        funext a
        cases hq : a.name.toList == t.toList with
        | false => simp
        | true => rw [eq_of_beq hq]; simp [h]
      rw [h1, h2]; rfl
    · have h1 : (fun a : FileM => decide (a.name.toList < s.toList) && (a.name.toList == t.toList)) = fun a => a.name.toList == t.toList := by
        funext a
        cases hq : a.name.toList == t.toList with
        | false => simp
        | true => rw [eq_of_beq hq]; simp [h]
      have h2 : L.find? (fun a => decide (s.toList < a.name.toList) && (a.name.toList == t.toList)) = none := by
        rw [List.find?_eq_none]
        intro x _ hx
        simp only [Bool.and_eq_true, decide_eq_true_eq, beq_iff_eq] at hx
        rw [hx.2] at hx; exact List.lt_irrefl _ (List.lt_trans hx.1 h)
      rw [h1, h2, Option.or_none]
theorem find_delF (L : List FileM) (s t : ByteArray) : getF (delF L s) t = if (s.toList == t.toList) = true then none else getF L t := by
  unfold getF delF
  rw [find_filterD]
  by_cases e : s.toList = t.toList
  · rw [if_pos (by simpa using e)]
    have h1 : L.find? (fun a => (!(a.name.toList == s.toList)) && (a.name.toList == t.toList)) = none := by
      rw [List.find?_eq_none]
      intro x _ hx
      simp only [Bool.and_eq_true, Bool.not_eq_true', beq_iff_eq, beq_eq_false_iff_ne] at hx
      exact hx.1 (hx.2.trans e.symm)
    rw [h1]; rfl
  · have e2 : (s.toList == t.toList) = false := by rw [beq_eq_false_iff_ne]; exact e
    rw [if_neg (by rw [e2]; simp)]
    have h2 : (fun a : FileM => (!(a.name.toList == s.toList)) && (a.name.toList == t.toList)) = fun a => a.name.toList == t.toList := by
      funext a
      cases hq : a.name.toList == t.toList with
      | false => simp
      | true => rw [eq_of_beq hq]; have : (t.toList == s.toList) = false := by rw [beq_eq_false_iff_ne]; exact fun q => e q.symm
                rw [this]; rfl
    rw [h2]
theorem sorted_delF {L : List FileM} (h : SortedF L) (s : ByteArray) : SortedF (delF L s) := h.filter _
theorem sorted_putF {L : List FileM} (h : SortedF L) (s : ByteArray) (Z : List Int) : SortedF (putF L s Z) := by
  unfold SortedF putF
  rw [List.pairwise_append]
  refine ⟨h.filter _, List.pairwise_cons.2 ⟨fun x hx => of_decide_eq_true (List.mem_filter.1 hx).2, h.filter _⟩, fun a ha b hb => ?_⟩
  have h1 : a.name.toList < s.toList := of_decide_eq_true (List.mem_filter.1 ha).2
  rcases List.mem_cons.1 hb with rfl | hb
  · exact h1
  · exact List.lt_trans h1 (of_decide_eq_true (List.mem_filter.1 hb).2)
theorem len_two {α : Type} (p q : α → Bool) (hpq : ∀ x, p x = true → q x = false) (L : List α) : (L.filter p).length + (L.filter q).length ≤ L.length := by
  induction L with
  | nil => simp
  | cons x l ih =>
    cases hp : p x with
    | true => rw [List.filter_cons_of_pos hp, List.filter_cons_of_neg (by rw [hpq x hp]; simp)]; simp only [List.length_cons]; omega
    | false =>
      rw [List.filter_cons_of_neg (by rw [hp]; simp)]
      cases hq : q x with
      | true => rw [List.filter_cons_of_pos hq]; simp only [List.length_cons]; omega
      | false => rw [List.filter_cons_of_neg (by rw [hq]; simp)]; simp only [List.length_cons]; omega
theorem len_putF (L : List FileM) (s : ByteArray) (Z : List Int) : (putF L s Z).length ≤ L.length + 1 := by
  unfold putF
  rw [List.length_append, List.length_cons]
  have := len_two (fun f : FileM => decide (f.name.toList < s.toList)) (fun f => decide (s.toList < f.name.toList)) (fun x hx => decide_eq_false (fun q => List.lt_irrefl _ (List.lt_trans (of_decide_eq_true hx) q))) L
  omega
theorem len_delF (L : List FileM) (s : ByteArray) : (delF L s).length ≤ L.length := List.length_filter_le _ _
theorem sorted_applyF {L : List FileM} (h : SortedF L) (o : MOp) : SortedF (applyF L o) := by
  unfold applyF moveF
  split
  · exact sorted_putF h _ _
  · split
    · split
      · exact h
      · split
        · exact h
        · exact sorted_delF (sorted_putF h _ _) _
    · split
      · exact sorted_delF h _
      · exact h
theorem sorted_fold {α : Type} {f : List FileM → α → List FileM} (hf : ∀ L a, SortedF L → SortedF (f L a)) : ∀ (l : List α) {L : List FileM}, SortedF L → SortedF (l.foldl f L)
  | [], L, h => h
  | a :: l, L, h => sorted_fold hf l (hf L a h)
theorem sorted_look {d : DiskV} (h : SortedF d.files) : SortedF d.look := sorted_fold (fun L o h => sorted_applyF h o) _ h
theorem sorted_crash {L : List FileM} (h : SortedF L) (d : List MOp) (k : List Int) : SortedF (crashF L d k) := sorted_fold (fun L p h => by unfold crashS; split; exact h; exact sorted_applyF h _) _ h
/-- A name that is there, and what it has, are a file of the list. -/
theorem getF_mem {L : List FileM} (h : SortedF L) {f : FileM} : f ∈ L ↔ getF L f.name = some f.Z := by
  induction L with
  | nil => simp [getF]
  | cons x l ih =>
    obtain ⟨h1, h2⟩ := List.pairwise_cons.1 h
    unfold getF
    rw [List.find?_cons]
    cases hx : x.name.toList == f.name.toList with
    | true =>
      have hn := ba_ext (eq_of_beq hx)
      simp only [Option.map_some, Option.some.injEq, List.mem_cons]
      constructor
      · rintro (rfl | hm)
        · rfl
        · have := h1 f hm; rw [eq_of_beq hx] at this; exact absurd this (List.lt_irrefl _)
      · intro e; left; cases f; cases x; simp only at hn e; subst hn e; rfl
    | false =>
      have hne : f ≠ x := fun e => by subst e; simp at hx
      rw [List.mem_cons]
      constructor
      · rintro (rfl | hm)
        · exact absurd rfl hne
        · exact (ih h2).1 hm
      · intro e; exact .inr ((ih h2).2 e)
/-- Sorted files that tell alike are the same. -/
theorem files_ext : ∀ {L K : List FileM}, SortedF L → SortedF K → (∀ s, getF L s = getF K s) → L = K := by
  intro L K hL hK he
  have hm : ∀ f, f ∈ L ↔ f ∈ K := fun f => by rw [getF_mem hL, getF_mem hK, he]
  clear he
  induction L generalizing K with
  | nil => cases K with
    | nil => rfl
    | cons y k => exact absurd ((hm y).2 List.mem_cons_self) (by simp)
  | cons x l ih =>
    cases K with
    | nil => exact absurd ((hm x).1 List.mem_cons_self) (by simp)
    | cons y k =>
      obtain ⟨a1, a2⟩ := List.pairwise_cons.1 hL
      obtain ⟨b1, b2⟩ := List.pairwise_cons.1 hK
      have hxy : x = y := by
        rcases List.mem_cons.1 ((hm x).1 List.mem_cons_self) with e | e
        · exact e
        · rcases List.mem_cons.1 ((hm y).2 List.mem_cons_self) with q | q
          · exact q.symm
          · exact absurd (List.lt_trans (b1 x e) (a1 y q)) (List.lt_irrefl _)
      subst hxy
      rw [ih a2 b2 (fun f => ⟨fun hf => by
        rcases List.mem_cons.1 ((hm f).1 (List.mem_cons_of_mem _ hf)) with e | e
        · subst e; exact absurd (a1 f hf) (List.lt_irrefl _)
        · exact e, fun hf => by
        rcases List.mem_cons.1 ((hm f).2 (List.mem_cons_of_mem _ hf)) with e | e
        · subst e; exact absurd (b1 f hf) (List.lt_irrefl _)
        · exact e⟩)]
theorem move_get {L : List FileM} {s t : ByteArray} {Z : List Int} (h : getF L s = some Z) (hne : (s.toList == t.toList) = false) : moveF L s t = delF (putF L t Z) s := by unfold moveF; rw [h, hne]; rfl
theorem move_none {L : List FileM} {s t : ByteArray} (h : getF L s = none) : moveF L s t = L := by unfold moveF; rw [h]
theorem move_same {L : List FileM} {s t : ByteArray} (h : (s.toList == t.toList) = true) : moveF L s t = L := by unfold moveF; rw [h]; cases getF L s <;> rfl
end Go.Proofs.Ytcbblgeleboggaa
