
/- What bytes a state's are. -/
import Derived.Test.YtpmkhimmlpnbpaaSt6
namespace Go.Proofs.Ytpmkhimmlpnbpaa
open Go.RowKit
set_option linter.unusedVariables false
set_option linter.unusedSimpArgs false
/-- So many entries, cut off the front. -/
def entsF (l : List Int) : Nat → Option (List EntV × List Int)
  | 0 => some ([], l)
  | k + 1 => match entsF l k with
    | none => none
    | some (L, q) => match entF q with
      | none => none
      | some (x, r) => some (L ++ [x], r)
theorem entsF_none {l : List Int} {k m : Nat} (h : entsF l k = none) (hm : k ≤ m) : entsF l m = none := by
  induction m with
  | zero => obtain rfl : k = 0 := by omega
            exact h
  | succ m ih =>
    by_cases e : k = m + 1
    · subst e; exact h
    · simp [entsF, ih (by omega)]
/-- The right state whose bytes these are. -/
def GetOK (l : List Int) (r : Int) (o : On) (L : List EntV) : Prop :=
  10 ≤ l.length ∧ r = IntKind.i64.wrap (N8 (l.take 8) : Int) ∧ onI o = el l 8 ∧ entsF (l.drop 10) (el l 9).toNat = some (L, []) ∧ stB r L = true
theorem el_drop9 (l : List Int) (k i : Nat) : el (l.drop k) i = el l (k + i) := by
  simp [el, List.getD, List.getElem?_drop]
/-- What the reader stands at behind the number, the flags and the count. -/
theorem get_pre (l : List Int) (hb : Bytes l) {l1 l2 : List Int} {f1 f2 : Bool} {n1 : Nat} (h1 : popN l false 8 = (n1, l1, f1)) (h2 : l2 = oneL l1 f1) (h3 : f2 = (oneF l1 f1 || decide (7 < oneV l1 f1))) :
    (oneF l2 f2 = true ∧ ((∀ r o L, ¬ GetOK l r o L))) ∨ (oneF l2 f2 = false ∧ 10 ≤ l.length ∧ n1 = N8 (l.take 8) ∧ oneV l1 f1 = el l 8 ∧ el l 8 ≤ 7 ∧ oneV l2 f2 = el l 9 ∧ oneL l2 f2 = l.drop 10) := by
  by_cases h8 : l.length < 8
  · left
    have hf := popN_bad l false 8 (.inr h8)
    rw [h1] at hf
    simp only at hf
    subst hf
    refine ⟨?_, fun r o L h => by have := h.1; omega⟩
    rw [h3]
    simp [oneF]
  · rw [popN_ok l 8 (by omega)] at h1
    simp only [Prod.mk.injEq] at h1
    obtain ⟨rfl, rfl, rfl⟩ := h1
    by_cases h9 : l.length < 10
    · left
      refine ⟨?_, fun r o L h => by have := h.1; omega⟩
      by_cases h10 : l.length = 8
      · rw [h3, ← h10, List.drop_length]
        simp [oneF]
      · have hl2 : l2 = [] := by
          rw [h2]
          show (l.drop 8).tail = []
          rw [List.tail_drop]
          exact List.drop_eq_nil_of_le (by omega)
        rw [hl2]
        simp [oneF]
    · have hd8 : l.drop 8 = el l 8 :: l.drop 9 := by
        rw [List.drop_eq_getElem_cons (by omega)]
        congr 1
        simp [el, List.getD, List.getElem?_eq_getElem (show 8 < l.length by omega)]
      have hd9 : l.drop 9 = el l 9 :: l.drop 10 := by
        rw [List.drop_eq_getElem_cons (by omega)]
        congr 1
        simp [el, List.getD, List.getElem?_eq_getElem (show 9 < l.length by omega)]
      have hv : oneV (l.drop 8) false = el l 8 := by rw [hd8]; rfl
      have hl2 : l2 = l.drop 9 := by rw [h2, hd8]; rfl
      have hF : oneF (l.drop 8) false = false := by rw [hd8]; rfl
      rw [hF, hv, Bool.false_or] at h3
      by_cases h7 : 7 < el l 8
      · left
        rw [h3, decide_eq_true h7]
        refine ⟨rfl, fun r o L h => ?_⟩
        have h4 := h.2.2.1
        have : onI o ≤ 7 := by unfold onI; cases o.a <;> cases o.b <;> cases o.c <;> simp
        omega
      · right
        rw [h3, decide_eq_false h7, hl2, hd9]
        exact ⟨rfl, by omega, rfl, hv, by omega, rfl, rfl⟩
end Go.Proofs.Ytpmkhimmlpnbpaa
