
/- What the laws of stage 15 lean on: what is put is found; dropped, all else is as it was. -/
import Derived.Test.YtmmfkgpckohacaaAwake15
namespace Go.Proofs.Ytmmfkgpckohacaa
open Go.RowKit Go.Sort
set_option linter.unusedVariables false
set_option linter.unusedSimpArgs false
theorem lt_of_not {x y : ByteArray} (h1 : ¬ y.toList < x.toList) (h2 : (y.toList == x.toList) = false) : x.toList < y.toList := by
  by_cases h : x.toList < y.toList
  · exact h
  · exact absurd (List.le_antisymm (List.not_lt.1 h) (List.not_lt.1 h1)) (by simpa using h2)
theorem put_name (L : List ImgV) (s : ByteArray) (r : Int) (x : ImgV) : (if (x.name.toList == s.toList) = true then { x with last := r } else x).name = x.name := by split <;> rfl
theorem put_rises {L : List ImgV} (h : Rises L) (s : ByteArray) (size round : Int) : Rises (putI L s size round) := by
  cases ht : thereB L s with
  | true =>
    unfold putI
    rw [if_pos ht]
    unfold Rises at *
    rw [List.pairwise_map]
    exact h.imp (fun {a b} q => by rw [put_name L, put_name L]; exact q)
  | false =>
    rw [put_no ht]
    have hp := parts_of h s
    have hin : ∀ y ∈ L.drop (placeF L s), s.toList < y.name.toList := by
      intro y hy
      obtain ⟨i, hi⟩ := List.getElem?_of_mem hy
      rw [List.getElem?_drop] at hi
      exact lt_of_not (hp.hi _ y (by omega) hi) (there_not ht hi)
    have hlo : ∀ y ∈ L.take (placeF L s), y.name.toList < s.toList := by
      intro y hy
      obtain ⟨i, hi⟩ := List.getElem?_of_mem hy
      have hik : i < placeF L s := by
        rcases Nat.lt_or_ge i (placeF L s) with q | q
        · exact q
        · rw [List.getElem?_eq_none (by rw [List.length_take]; omega)] at hi; cases hi
      rw [List.getElem?_take_of_lt hik] at hi
      exact hp.lo i y hik hi
    refine List.pairwise_append.2 ⟨List.Pairwise.sublist (List.take_sublist _ _) h, List.pairwise_cons.2 ⟨hin, List.Pairwise.sublist (List.drop_sublist _ _) h⟩, ?_⟩
    intro x hx y hy
    rcases List.mem_cons.1 hy with rfl | hy
    · exact hlo x hx
    · exact List.lt_trans (hlo x hx) (hin y hy)
theorem find_mem {M : List ImgV} (hr : Rises M) {x : ImgV} {s : ByteArray} (hx : x ∈ M) (he : x.name.toList = s.toList) : thereB M s = true ∧ findF M s = some x := by
  have ht : thereB M s = true := List.any_eq_true.2 ⟨x, hx, by rw [he]; exact beq_self_eq_true _⟩
  refine ⟨ht, ?_⟩
  obtain ⟨y, hy, hye⟩ := there_at hr ht
  obtain ⟨i, hi⟩ := List.getElem?_of_mem hx
  rcases Nat.lt_trichotomy i (placeF M s) with q | q | q
  · have := hr.lt hi hy q; rw [he, hye] at this; exact absurd this (List.lt_irrefl _)
  · subst q
    rw [hi] at hy
    cases hy
    exact find_there hr hi he
  · have := hr.lt hy hi q; rw [he, hye] at this; exact absurd this (List.lt_irrefl _)
def sizeP (L : List ImgV) (s : ByteArray) (size : Int) : Int := if thereB L s then (fndV L s).size else size
theorem put_find {L : List ImgV} (h : Rises L) (s : ByteArray) (size round : Int) : thereB (putI L s size round) s = true ∧ fndV (putI L s size round) s = ⟨s, sizeP L s size, round⟩ := by
  have hr := put_rises h s size round
  have key : (⟨s, sizeP L s size, round⟩ : ImgV) ∈ putI L s size round := by
    cases ht : thereB L s with
    | true =>
      obtain ⟨x, hx, he⟩ := there_at h ht
      have hf : fndV L s = x := by unfold fndV; rw [find_there h hx he]; rfl
      unfold sizeP putI
      rw [if_pos ht, if_pos ht, hf]
      refine List.mem_map.2 ⟨x, List.mem_of_getElem? hx, ?_⟩
      have hb : (x.name.toList == s.toList) = true := by rw [he]; exact beq_self_eq_true _
      rw [if_pos hb, str_extG he]
    | false =>
      unfold sizeP
      rw [if_neg (by rw [ht]; simp), put_no ht]
      exact List.mem_append_right _ List.mem_cons_self
  obtain ⟨h1, h2⟩ := find_mem hr key rfl
  exact ⟨h1, by unfold fndV; rw [h2]; rfl⟩
theorem put_drop (L : List ImgV) (s : ByteArray) (size round : Int) : dropI (putI L s size round) s = dropI L s := by
  cases ht : thereB L s with
  | true =>
    unfold putI dropI
    rw [if_pos ht, List.filter_map]
    have e1 : ((fun x : ImgV => !(x.name.toList == s.toList)) ∘ fun x => if (x.name.toList == s.toList) = true then { x with last := round } else x) = fun x : ImgV => !(x.name.toList == s.toList) := by
      funext x; simp only [Function.comp, put_name L]
    rw [e1]
    conv => rhs; rw [← List.map_id (L.filter _)]
    refine List.map_congr_left (fun x hx => ?_)
    have h2 := (List.mem_filter.1 hx).2
    have h3 : (x.name.toList == s.toList) = false := by simpa using h2
    rw [if_neg (by rw [h3]; simp)]; rfl
  | false =>
    rw [put_no ht]
    unfold dropI
    rw [List.filter_append, List.filter_cons_of_neg (by simp), ← List.filter_append, List.take_append_drop]
theorem drop_gone (L : List ImgV) (s : ByteArray) : thereB (dropI L s) s = false := by
  unfold thereB dropI
  rw [List.any_eq_false]
  intro x hx
  have := (List.mem_filter.1 hx).2
  simpa using this
theorem put_len {L : List ImgV} {s : ByteArray} {size round : Int} (h : thereB L s = true) : (putI L s size round).length = L.length := by
  unfold putI; rw [if_pos h, List.length_map]
theorem put_len_le (L : List ImgV) (s : ByteArray) (size round : Int) : (putI L s size round).length ≤ L.length + 1 := by
  unfold putI
  split
  · rw [List.length_map]; omega
  · simp; omega
theorem drop_len_le (L : List ImgV) (s : ByteArray) : (dropI L s).length ≤ L.length := List.length_filter_le _ _
end Go.Proofs.Ytmmfkgpckohacaa
