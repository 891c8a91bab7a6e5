
/- Lists of images: plain lists. -/
import Derived.Test.YtcnjcldfbidkmaaImRd
import Derived.Test.YtcnjcldfbidkmaaGwM
import Derived.Test.YtcnjcldfbidkmaaSat
namespace Go.Proofs.Ytcnjcldfbidkmaa
open Go.RowKit
set_option linter.unusedVariables false
set_option linter.unusedSimpArgs false
instance : Inhabited ImgV := ⟨⟨⟨#[]⟩, 0, 0⟩⟩
theorem img_one (x : ImgV) : ∀ v ∈ x.cells, v.oneCell' = true := by
  intro v hv; simp only [ImgV.cells, List.mem_cons, List.not_mem_nil, or_false] at hv; rcases hv with rfl | rfl | rfl <;> rfl
theorem imgs_one (L : List ImgV) : ∀ v ∈ L.flatMap ImgV.cells, v.oneCell' = true := by
  intro v hv; obtain ⟨u, _, hu⟩ := List.mem_flatMap.1 hv; exact img_one u v hu
/-- Rising names. -/
def Rises (L : List ImgV) : Prop := L.Pairwise (fun a b => a.name.toList < b.name.toList)
def placeF (L : List ImgV) (s : ByteArray) : Nat := (L.filter fun x => decide (x.name.toList < s.toList)).length
def thereB (L : List ImgV) (s : ByteArray) : Bool := L.any fun x => x.name.toList == s.toList
def findF (L : List ImgV) (s : ByteArray) : Option ImgV := L.find? fun x => x.name.toList == s.toList
def putI (L : List ImgV) (s : ByteArray) (size round : Int) : List ImgV :=
  if thereB L s then L.map (fun x => if x.name.toList == s.toList then { x with last := round } else x)
  else L.take (placeF L s) ++ ⟨s, size, round⟩ :: L.drop (placeF L s)
def hasU (U : List ByteArray) (s : ByteArray) : Bool := U.any fun t => t.toList == s.toList
def touchI (L : List ImgV) (U : List ByteArray) (round : Int) : List ImgV := L.map fun x => if hasU U x.name then { x with last := round } else x
def dropI (L : List ImgV) (s : ByteArray) : List ImgV := L.filter fun x => !(x.name.toList == s.toList)
theorem Rises.lt {L : List ImgV} (h : Rises L) {i j : Nat} {x y : ImgV} (hi : L[i]? = some x) (hj : L[j]? = some y) (hij : i < j) : x.name.toList < y.name.toList := by
  obtain ⟨h1, rfl⟩ := List.getElem?_eq_some_iff.1 hi
  obtain ⟨h2, rfl⟩ := List.getElem?_eq_some_iff.1 hj
  exact List.pairwise_iff_getElem.1 h i j h1 h2 hij
/-- Where a name stands: those ahead are less, those from there on aren't. -/
structure Parts (L : List ImgV) (s : ByteArray) (k : Nat) : Prop where
  le : k ≤ L.length
  lo : ∀ i x, i < k → L[i]? = some x → x.name.toList < s.toList
  hi : ∀ i x, k ≤ i → L[i]? = some x → ¬ x.name.toList < s.toList
theorem Parts.place {L : List ImgV} {s : ByteArray} {k : Nat} (h : Parts L s k) : placeF L s = k := by
  unfold placeF
  have e : L.filter (fun x => decide (x.name.toList < s.toList)) = L.take k := by
    conv => lhs; rw [← List.take_append_drop k L]
    rw [List.filter_append, List.filter_eq_self.2, List.filter_eq_nil_iff.2, List.append_nil]
    · intro x hx
      obtain ⟨i, hi⟩ := List.getElem?_of_mem hx
      rw [List.getElem?_drop] at hi
      simpa using h.hi _ x (by omega) hi
    · intro x hx
      obtain ⟨i, hi⟩ := List.getElem?_of_mem hx
      have hik : i < k := by
        rcases Nat.lt_or_ge i k with q | q
        · exact q
        · rw [List.getElem?_eq_none (by rw [List.length_take]; omega)] at hi; cases hi
      rw [List.getElem?_take_of_lt hik] at hi
      simpa using h.lo _ x hik hi
  rw [e, List.length_take]
  exact Nat.min_eq_left h.le
theorem Parts.there {L : List ImgV} {s : ByteArray} {k : Nat} (h : Parts L s k) (hr : Rises L) : thereB L s = true ↔ ∃ x, L[k]? = some x ∧ x.name.toList = s.toList := by
  unfold thereB
  rw [List.any_eq_true]
  constructor
  · rintro ⟨x, hx, he⟩
    have he := eq_of_beq he
    obtain ⟨i, hi⟩ := List.getElem?_of_mem hx
    have hki : k ≤ i := by
      rcases Nat.lt_or_ge i k with q | q
      · have := h.lo i x q hi; rw [he] at this; exact absurd this (List.lt_irrefl _)
      · exact q
    rcases Nat.lt_or_ge k i with q | q
    · have hkl : k < L.length := by have := (List.getElem?_eq_some_iff.1 hi).1; omega
      have h2 := hr.lt (List.getElem?_eq_getElem hkl) hi q
      rw [he] at h2
      exact absurd h2 (h.hi k _ (Nat.le_refl _) (List.getElem?_eq_getElem hkl))
    · obtain rfl : i = k := by omega
      exact ⟨x, hi, he⟩
  · rintro ⟨x, hx, he⟩
    exact ⟨x, List.mem_of_getElem? hx, by rw [he]; exact beq_self_eq_true _⟩
theorem place_le (L : List ImgV) (s : ByteArray) : placeF L s ≤ L.length := List.length_filter_le _ _
theorem parts_of {L : List ImgV} (h : Rises L) (s : ByteArray) : Parts L s (placeF L s) := by
  have key : ∀ k, k ≤ L.length → (∀ i x, i < k → L[i]? = some x → x.name.toList < s.toList) → ∃ k, Parts L s k := by
    intro k hk hlo
    generalize hn : L.length - k = n
    induction n generalizing k with
    | zero => exact ⟨k, hk, hlo, fun i x hi hx => by have := (List.getElem?_eq_some_iff.1 hx).1; omega⟩
    | succ n ih =>
      have hkl : k < L.length := by omega
      by_cases hlt : L[k].name.toList < s.toList
      · refine ih (k + 1) (by omega) (fun i x hi hx => ?_) (by omega)
        rcases Nat.lt_or_ge i k with q | q
        · exact hlo i x q hx
        · obtain rfl : i = k := by omega
          rw [List.getElem?_eq_getElem hkl] at hx; cases hx; exact hlt
      · refine ⟨k, hk, hlo, fun i x hi hx hc => ?_⟩
        rcases Nat.lt_or_ge k i with q | q
        · exact hlt (List.lt_trans (h.lt (List.getElem?_eq_getElem hkl) hx q) hc)
        · obtain rfl : i = k := by omega
          rw [List.getElem?_eq_getElem hkl] at hx; cases hx; exact hlt hc
  obtain ⟨k, hk⟩ := key 0 (Nat.zero_le _) (fun i x hi => by omega)
  rw [hk.place]; exact hk
theorem there_at {L : List ImgV} (h : Rises L) {s : ByteArray} (ht : thereB L s = true) : ∃ x, L[placeF L s]? = some x ∧ x.name.toList = s.toList := ((parts_of h s).there h).1 ht
theorem find_there {L : List ImgV} (h : Rises L) {s : ByteArray} {x : ImgV} (hx : L[placeF L s]? = some x) (he : x.name.toList = s.toList) : findF L s = some x := by
  unfold findF
  have hp := parts_of h s
  have e : L = L.take (placeF L s) ++ x :: L.drop (placeF L s + 1) := by
    have hk := (List.getElem?_eq_some_iff.1 hx).1
    rw [← (List.getElem?_eq_some_iff.1 hx).2, ← List.drop_eq_getElem_cons hk, List.take_append_drop]
  rw [e, List.find?_append, List.find?_eq_none.2]
  · simp [he]
  · intro y hy hc
    obtain ⟨i, hi⟩ := List.getElem?_of_mem hy
    have hik : i < placeF L s := by
      rcases Nat.lt_or_ge i (placeF L s) with q | q
      · exact q
      · rw [List.getElem?_eq_none (by rw [List.length_take]; omega)] at hi; cases hi
    rw [List.getElem?_take_of_lt hik] at hi
    have := hp.lo i y hik hi
    rw [eq_of_beq hc] at this
    exact absurd this (List.lt_irrefl _)
theorem find_no {L : List ImgV} {s : ByteArray} (h : thereB L s = false) : findF L s = none := by
  unfold findF; unfold thereB at h
  rw [List.find?_eq_none]
  intro x hx
  have := List.any_eq_false.1 h x hx
  simpa using this
def sumI (L : List ImgV) : Int := L.foldl (fun n x => satAdd n x.size) 0
theorem sumI_next {L : List ImgV} {k : Nat} {x : ImgV} (h : L[k]? = some x) : sumI (L.take (k + 1)) = satAdd (sumI (L.take k)) x.size := by
  unfold sumI; rw [takeG_next h, List.foldl_append]; rfl
end Go.Proofs.Ytcnjcldfbidkmaa
