
/- Texts, rising, one more, is the sorted list. -/
import Derived.Test.YtbifmmdiekodjaaVicMM
namespace Go.Proofs.Ytbifmmdiekodjaa
open Go.RowKit
set_option linter.unusedVariables false
set_option linter.unusedSimpArgs false
def gtB (t s : ByteArray) : Bool := !Op.bytesLess t.toList s.toList && !(t.toList == s.toList)
theorem gtB_eq (t s : ByteArray) : gtB t s = decide (s.toList < t.toList) := by
  unfold gtB
  rw [bytesLess_eq, Bool.eq_iff_iff]
  simp only [Bool.and_eq_true, Bool.not_eq_true', decide_eq_false_iff_not, beq_eq_false_iff_ne, ne_eq, decide_eq_true_eq]
  constructor
  · rintro ⟨h1, h2⟩
    rcases List.le_iff_lt_or_eq.1 (List.not_lt.1 h1) with q | q
    · exact q
    · exact absurd q.symm h2
  · intro h
    exact ⟨List.not_lt.2 (List.le_iff_lt_or_eq.2 (.inl h)), fun e => by rw [e] at h; exact List.lt_irrefl _ h⟩
theorem fold_done (s : ByteArray) : ∀ (G O : List ByteArray), G.foldl (stepQ s) (O, true) = (O ++ G, true)
  | [], O => by simp
  | t :: G, O => by
    rw [List.foldl_cons, show stepQ s (O, true) t = (O ++ [t], true) from rfl, fold_done s G (O ++ [t])]
    simp
theorem put_shape (s : ByteArray) : ∀ (G O : List ByteArray), ∃ A B, G = A ++ B ∧ (if (G.foldl (stepQ s) (O, false)).2 then (G.foldl (stepQ s) (O, false)).1 else (G.foldl (stepQ s) (O, false)).1 ++ [s]) = O ++ (A ++ s :: B) ∧ (∀ t ∈ A, gtB t s = false) ∧ (∀ t ∈ B.head?, gtB t s = true)
  | [], O => ⟨[], [], rfl, rfl, by simp, by simp⟩
  | t :: G, O => by
    rw [List.foldl_cons]
    cases h : gtB t s with
    | true =>
      rw [show stepQ s (O, false) t = (O ++ [s] ++ [t], true) by unfold stepQ; unfold gtB at h; simp only [Bool.not_false, Bool.true_and]; rw [h]; rfl, fold_done]
      exact ⟨[], t :: G, rfl, by simp, by simp, by simp [h]⟩
    | false =>
      rw [show stepQ s (O, false) t = (O ++ [t], false) by unfold stepQ; unfold gtB at h; simp only [Bool.not_false, Bool.true_and]; rw [h]; rfl]
      obtain ⟨A, B, e1, e2, e3, e4⟩ := put_shape s G (O ++ [t])
      refine ⟨t :: A, B, by rw [e1]; rfl, by rw [e2]; simp, ?_, e4⟩
      intro y hy
      rcases List.mem_cons.1 hy with rfl | hy
      · exact h
      · exact e3 y hy
theorem back_map (G : List ByteArray) : G.map ((fun l : List UInt8 => (⟨l.toArray⟩ : ByteArray)) ∘ fun x : ByteArray => x.toList) = G := by
  induction G with
  | nil => rfl
  | cons s G ih =>
    rw [List.map_cons, ih]
    exact congrArg (· :: G) (bA_l s)
theorem sortS_of {G M : List ByteArray} (hp : M.Perm G) (hs : M.Pairwise (fun a b => a.toList ≤ b.toList)) : M = sortS G := by
  have h1 : (M.map (·.toList)) = (G.map (·.toList)).mergeSort (fun x y => decide (x ≤ y)) := by
    have hp2 : (M.map (·.toList)).Perm ((G.map (·.toList)).mergeSort (fun x y => decide (x ≤ y))) := (hp.map _).trans (List.mergeSort_perm _ _).symm
    have hs2 : ((G.map (·.toList)).mergeSort (fun x y => decide (x ≤ y))).Pairwise (fun x y => x ≤ y) := by
      have := List.pairwise_mergeSort (le := fun (x y : List UInt8) => decide (x ≤ y)) (fun a b c h1 h2 => by simp only [decide_eq_true_eq] at *; exact List.le_trans h1 h2) (fun a b => by
        rcases List.le_total a b with h | h
        · simp [h]
        · simp [h]) (G.map (·.toList))
      exact this.imp (fun h => by simpa using h)
    have hs1 : (M.map (·.toList)).Pairwise (fun x y => x ≤ y) := by rw [List.pairwise_map]; exact hs
    exact hp2.eq_of_pairwise (fun a b _ _ h1 h2 => List.le_antisymm h1 h2) hs1 hs2
  unfold sortS
  rw [← h1, List.map_map]
  exact (back_map M).symm
theorem put_sorts (G : List ByteArray) (s : ByteArray) : putF (sortS G) s = sortS (G ++ [s]) := by
  obtain ⟨A, B, e1, e2, e3, e4⟩ := put_shape s (sortS G) []
  have hp : (sortS G).Perm G := by
    unfold sortS
    have := (List.mergeSort_perm (G.map (·.toList)) (fun x y => decide (x ≤ y))).map (fun l : List UInt8 => (⟨l.toArray⟩ : ByteArray))
    rw [List.map_map, back_map] at this
    exact this
  have hs : (sortS G).Pairwise (fun a b => a.toList ≤ b.toList) := by
    unfold sortS
    rw [List.pairwise_map]
    have := List.pairwise_mergeSort (le := fun (x y : List UInt8) => decide (x ≤ y)) (fun a b c h1 h2 => by simp only [decide_eq_true_eq] at *; exact List.le_trans h1 h2) (fun a b => by
      rcases List.le_total a b with h | h
      · simp [h]
      · simp [h]) (G.map (·.toList))
    exact this.imp (fun h => by rw [toList_mk, toList_mk]; simpa using h)
  have e : putF (sortS G) s = A ++ s :: B := by
    have : putF (sortS G) s = [] ++ (A ++ s :: B) := e2
    exact this
  rw [e]
  refine sortS_of ?_ ?_
  · refine List.perm_middle.trans ?_
    rw [← e1]
    exact (hp.cons s).trans (List.perm_append_comm (l₁ := [s]))
  · rw [e1, List.pairwise_append] at hs
    rw [List.pairwise_append, List.pairwise_cons]
    have hB : ∀ t ∈ B, s.toList ≤ t.toList := by
      cases B with
      | nil => intro t ht; cases ht
      | cons b B =>
        have hb := e4 b (by simp)
        rw [gtB_eq, decide_eq_true_eq] at hb
        have hb' : s.toList ≤ b.toList := List.le_iff_lt_or_eq.2 (.inl hb)
        intro t ht
        rcases List.mem_cons.1 ht with rfl | ht
        · exact hb'
        · exact List.le_trans hb' ((List.pairwise_cons.1 hs.2.1).1 t ht)
    have hA : ∀ t ∈ A, t.toList ≤ s.toList := by
      intro t ht
      have := e3 t ht
      rw [gtB_eq, decide_eq_false_iff_not] at this
      exact List.not_lt.1 this
    refine ⟨hs.1, ⟨hB, hs.2.1⟩, fun a ha b hb => ?_⟩
    rcases List.mem_cons.1 hb with rfl | hb
    · exact hA a ha
    · exact hs.2.2 a ha b hb
end Go.Proofs.Ytbifmmdiekodjaa
