
/- A list into which one more is laid, step by step. -/
import Derived.Test.YtcgpmihjodolmaaSmp9
namespace Go.Proofs.Ytcgpmihjodolmaa
open Go.RowKit
set_option linter.unusedVariables false
set_option linter.unusedSimpArgs false
section
variable {α : Type} {lt : α → α → Bool}
theorem insBy_in (x : α) : ∀ (M N : List α), M.any (lt x) = true → insBy lt x (M ++ N) = insBy lt x M ++ N
  | [], _, h => by cases h
  | y :: M, N, h => by
    show (if lt x y then x :: y :: (M ++ N) else y :: insBy lt x (M ++ N)) = (if lt x y then x :: y :: M else y :: insBy lt x M) ++ N
    by_cases hy : lt x y = true
    · rw [if_pos hy, if_pos hy]; rfl
    · rw [if_neg hy, if_neg hy, insBy_in x M N (by rw [List.any_cons] at h; simpa [hy] using h)]; rfl
theorem insBy_out (x : α) : ∀ (M N : List α), M.any (lt x) = false → insBy lt x (M ++ N) = M ++ insBy lt x N
  | [], _, _ => rfl
  | y :: M, N, h => by
    rw [List.any_cons, Bool.or_eq_false_iff] at h
    show (if lt x y then x :: y :: (M ++ N) else y :: insBy lt x (M ++ N)) = y :: (M ++ insBy lt x N)
    rw [if_neg (by rw [h.1]; simp), insBy_out x M N h.2]
/-- What is laid by now, and whether the new one is among it. -/
def insSt (lt : α → α → Bool) (x : α) (M : List α) : List α × Bool := if M.any (lt x) then (insBy lt x M, true) else (M, false)
theorem insSt_nil (x : α) : insSt lt x [] = ([], false) := rfl
theorem insSt_done {x y : α} {M O : List α} (h : insSt lt x M = (O, true)) : insSt lt x (M ++ [y]) = (O ++ [y], true) := by
  unfold insSt at h ⊢
  by_cases a : M.any (lt x) = true
  · rw [if_pos a] at h
    rw [if_pos (by rw [List.any_append, a]; rfl), insBy_in x M [y] a, (Prod.mk.inj h).1]
  · rw [if_neg a] at h; exact absurd (Prod.mk.inj h).2 (by simp)
theorem insSt_in {x y : α} {M O : List α} (h : insSt lt x M = (O, false)) (hy : lt x y = true) : insSt lt x (M ++ [y]) = (O ++ [x] ++ [y], true) := by
  unfold insSt at h ⊢
  by_cases a : M.any (lt x) = true
  · rw [if_pos a] at h; exact absurd (Prod.mk.inj h).2 (by simp)
  · rw [if_neg a] at h
    obtain rfl := (Prod.mk.inj h).1
    rw [if_pos (by rw [List.any_append]; simp [hy]), insBy_out x _ [y] (by simpa using a)]
    show (_ ++ (if lt x y then [x, y] else _), true) = _
    rw [if_pos hy]; simp
theorem insSt_no {x y : α} {M O : List α} (h : insSt lt x M = (O, false)) (hy : lt x y = false) : insSt lt x (M ++ [y]) = (O ++ [y], false) := by
  unfold insSt at h ⊢
  by_cases a : M.any (lt x) = true
  · rw [if_pos a] at h; exact absurd (Prod.mk.inj h).2 (by simp)
  · rw [if_neg a] at h
    obtain rfl := (Prod.mk.inj h).1
    rw [if_neg (by rw [List.any_append]; simp [hy]; simpa using a)]
theorem insSt_end {x : α} {M O : List α} (h : insSt lt x M = (O, true)) : insBy lt x M = O := by
  unfold insSt at h
  by_cases a : M.any (lt x) = true
  · rw [if_pos a] at h; exact (Prod.mk.inj h).1
  · rw [if_neg a] at h; exact absurd (Prod.mk.inj h).2 (by simp)
theorem insSt_endn {x : α} {M O : List α} (h : insSt lt x M = (O, false)) : insBy lt x M = O ++ [x] := by
  unfold insSt at h
  by_cases a : M.any (lt x) = true
  · rw [if_pos a] at h; exact absurd (Prod.mk.inj h).2 (by simp)
  · rw [if_neg a] at h
    obtain rfl := (Prod.mk.inj h).1
    have := insBy_out x _ [] (by simpa using a : List.any _ (lt x) = false)
    simpa [insBy] using this
theorem insSt_len {x : α} {M O : List α} {d : Bool} (h : insSt lt x M = (O, d)) : O.length ≤ M.length + 1 := by
  unfold insSt at h
  by_cases a : M.any (lt x) = true
  · rw [if_pos a] at h; rw [← (Prod.mk.inj h).1, (insBy_perm x M).length_eq]; simp
  · rw [if_neg a] at h; rw [← (Prod.mk.inj h).1]; omega
end
theorem gt_cases (x y : UseV) : (ltU x y = true ∧ Op.bytesLess y.id.toList x.id.toList = false ∧ (y.id.toList == x.id.toList) = false) ∨ (ltU x y = false ∧ (Op.bytesLess y.id.toList x.id.toList = true ∨ (Op.bytesLess y.id.toList x.id.toList = false ∧ (y.id.toList == x.id.toList) = true))) := by
  rw [bytesLess_iff]
  unfold ltU
  by_cases h : x.id.toList < y.id.toList
  · refine .inl ⟨by simp [h], decide_eq_false (fun q => absurd (List.lt_trans h q) (List.lt_irrefl _)), beq_eq_false_iff_ne.2 (fun q => ?_)⟩
    rw [q] at h; exact absurd h (List.lt_irrefl _)
  · refine .inr ⟨by simp [h], ?_⟩
    by_cases e : y.id.toList < x.id.toList
    · exact .inl (by simp [e])
    · exact .inr ⟨by simp [e], beq_iff_eq.2 (List.le_antisymm (List.not_lt.1 h) (List.not_lt.1 e))⟩
end Go.Proofs.Ytcgpmihjodolmaa
