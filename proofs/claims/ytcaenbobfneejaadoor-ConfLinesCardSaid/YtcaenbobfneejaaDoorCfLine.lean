
/- Stage 7: where the lines of a config's text stand: plain laws; and lines that are none. -/
import Derived.Test.YtcaenbobfneejaaDoorCfBack
namespace Go.Proofs.YtcaenbobfneejaaDoor
open Go.RowKit
set_option linter.unusedVariables false
set_option linter.unusedSimpArgs false
/-- Where line m begins. -/
def posL (LL : List (List FldV)) (m : Nat) : Nat := (joinF (LL.take m)).length
def lineB (F : List FldV) : List UInt8 := wordsF true F ++ [10]
theorem posL_zero (LL : List (List FldV)) : posL LL 0 = 0 := by unfold posL; simp [joinF]
theorem join_take (LL : List (List FldV)) {m : Nat} {F : List FldV} (h : LL[m]? = some F) : joinF (LL.take (m + 1)) = joinF (LL.take m) ++ lineB F := by
  rw [List.take_add_one, h, joinF_appC]
  simp [joinF, lineB]
theorem posL_succ (LL : List (List FldV)) {m : Nat} {F : List FldV} (h : LL[m]? = some F) : posL LL (m + 1) = posL LL m + (wordsF true F).length + 1 := by
  unfold posL
  rw [join_take LL h]
  simp [lineB]; omega
theorem posL_all (LL : List (List FldV)) : posL LL LL.length = (joinF LL).length := by unfold posL; rw [List.take_length]
theorem join_split (LL : List (List FldV)) (m : Nat) : joinF LL = joinF (LL.take m) ++ joinF (LL.drop m) := by rw [← joinF_appC, List.take_append_drop]
theorem posL_le (LL : List (List FldV)) (m : Nat) : posL LL m ≤ (joinF LL).length := by
  have := congrArg List.length (join_split LL m)
  rw [List.length_append] at this
  unfold posL; omega
structure LineAt (LL : List (List FldV)) (i m : Nat) : Prop where
  hm : m ≤ LL.length
  lo : posL LL m ≤ i
  hi : m < LL.length → i < posL LL (m + 1)
  le : i ≤ (joinF LL).length
theorem LineAt.zero {LL : List (List FldV)} (h : 0 < LL.length) : LineAt LL 0 0 := by
  refine ⟨Nat.zero_le _, by rw [posL_zero]; exact Nat.le_refl _, fun _ => ?_, Nat.zero_le _⟩
  rw [posL_succ LL (List.getElem?_eq_getElem h)]; omega
theorem LineAt.lt {LL : List (List FldV)} {i m : Nat} (h : LineAt LL i m) (hi : i < (joinF LL).length) : m < LL.length := by
  rcases Nat.lt_or_ge m LL.length with q | q
  · exact q
  · have h1 := h.hm
    obtain rfl : m = LL.length := by omega
    have h2 := h.lo
    rw [posL_all] at h2; omega
theorem LineAt.last {LL : List (List FldV)} {m : Nat} (h : LineAt LL (joinF LL).length m) : m = LL.length := by
  rcases Nat.lt_or_ge m LL.length with q | q
  · have h1 := h.hi q
    have h2 := posL_le LL (m + 1)
    omega
  · have := h.hm; omega
theorem LineAt.ten {LL : List (List FldV)} (hok : FieldsOk LL) {i m : Nat} (h : LineAt LL i m) (hi : i < (joinF LL).length) : (joinF LL)[i] = 10 ↔ i + 1 = posL LL (m + 1) := by
  have hm := h.lt hi
  have hF := List.getElem?_eq_getElem hm
  have hs := posL_succ LL hF
  have h1 := h.lo
  have h2 := h.hi hm
  obtain ⟨j, rfl⟩ : ∃ j, i = posL LL m + j := ⟨i - posL LL m, by omega⟩
  have e : joinF LL = joinF (LL.take m) ++ (wordsF true LL[m] ++ ([10] ++ joinF (LL.drop (m + 1)))) := by
    rw [join_split LL (m + 1), join_take LL hF]
    simp [lineB]
  have hl : posL LL m = (joinF (LL.take m)).length := rfl
  have hj : (joinF LL)[posL LL m + j]? = (wordsF true LL[m] ++ ([10] ++ joinF (LL.drop (m + 1))))[j]? := by
    rw [congrArg (fun z => z[posL LL m + j]?) e, List.getElem?_append_right (by omega)]
    congr 1; omega
  rw [List.getElem?_eq_getElem hi] at hj
  rcases Nat.lt_or_ge j (wordsF true LL[m]).length with q | q
  · rw [List.getElem?_append_left q, List.getElem?_eq_getElem q] at hj
    have h3 := Option.some.inj hj
    rw [h3]
    have h4 := (words_ok true LL[m] (hok _ (List.getElem_mem hm)).2 _ (List.getElem_mem q)).2
    exact ⟨fun h5 => absurd h5 h4, fun h5 => by omega⟩
  · obtain rfl : j = (wordsF true LL[m]).length := by omega
    rw [List.getElem?_append_right (Nat.le_refl _)] at hj
    simp at hj
    exact ⟨fun _ => by omega, fun _ => hj⟩
theorem LineAt.hit {LL : List (List FldV)} (hok : FieldsOk LL) {i m : Nat} (h : LineAt LL i m) (hi : i < (joinF LL).length) (h10 : (joinF LL)[i] = 10) : LineAt LL (i + 1) (m + 1) ∧ posL LL (m + 1) = i + 1 ∧ m < LL.length := by
  have hm := h.lt hi
  have hp := (h.ten hok hi).1 h10
  refine ⟨⟨hm, by omega, fun q => ?_, hi⟩, hp.symm, hm⟩
  rw [posL_succ LL (List.getElem?_eq_getElem q)]; omega
theorem LineAt.miss {LL : List (List FldV)} (hok : FieldsOk LL) {i m : Nat} (h : LineAt LL i m) (hi : i < (joinF LL).length) (h10 : ¬ (joinF LL)[i] = 10) : LineAt LL (i + 1) m := by
  have hm := h.lt hi
  have hp : ¬ i + 1 = posL LL (m + 1) := fun e => h10 ((h.ten hok hi).2 e)
  have h2 := h.hi hm
  exact ⟨h.hm, by have := h.lo; omega, fun _ => by omega, hi⟩
theorem bA_at (L : List UInt8) {i : Nat} (h : i < (bA L).size) : (bA L)[i] = L[i]'(by rw [bA_size] at h; exact h) := by simp [bA, ByteArray.getElem_eq_getElem_data]
theorem bA_extL {x y : ByteArray} (h : x.data.toList = y.data.toList) : x = y := by
  cases x; cases y
  simp only at h
  rw [Array.toList_inj.1 h]
theorem cut_head (X Y : List UInt8) : (bA (X ++ Y)).extract 0 X.length = bA X := by
  apply bA_extL
  rw [Lib.extract_data, bA_data, bA_data]; simp
theorem cut_tail (X Y : List UInt8) : (bA (X ++ Y)).extract X.length (bA (X ++ Y)).size = bA Y := by
  apply bA_extL
  rw [Lib.extract_data, bA_data, bA_data, bA_size]; simp
theorem cut_mid (X Y Z : List UInt8) : (bA (X ++ (Y ++ Z))).extract X.length (X.length + Y.length) = bA Y := by
  apply bA_extL
  rw [Lib.extract_data, bA_data, bA_data]; simp
theorem bA_appL (X Y : List UInt8) : bA X ++ bA Y = bA (X ++ Y) := by
  apply bA_extL
  rw [ByteArray.data_append, Array.toList_append, bA_data, bA_data, bA_data]
theorem pos_cut (LL : List (List FldV)) (m : Nat) : (bA (joinF LL)).extract 0 (posL LL m) = bA (joinF (LL.take m)) ∧ (bA (joinF LL)).extract (posL LL m) (bA (joinF LL)).size = bA (joinF (LL.drop m)) := by
  have h1 := cut_head (joinF (LL.take m)) (joinF (LL.drop m))
  have h2 := cut_tail (joinF (LL.take m)) (joinF (LL.drop m))
  rw [← join_split] at h1 h2
  exact ⟨h1, h2⟩
theorem pos_mid (LL : List (List FldV)) {m : Nat} {F : List FldV} (h : LL[m]? = some F) : (bA (joinF LL)).extract (posL LL m) (posL LL (m + 1)) = bA (lineB F) := by
  have h1 := cut_mid (joinF (LL.take m)) (lineB F) (joinF (LL.drop (m + 1)))
  rw [← List.append_assoc, ← join_take LL h, ← join_split] at h1
  have e : posL LL (m + 1) = (joinF (LL.take m)).length + (lineB F).length := by rw [posL_succ LL h]; unfold posL lineB; simp; omega
  rw [e]
  exact h1
/-- Lines that are none. -/
def wrF : Nat → List FldV
  | 0 => [wordV [111, 116, 104, 101, 114], wordV [49]]
  | 1 => [wordV [112, 101, 114, 105, 111, 100]]
  | 2 => [wordV [112, 101, 114, 105, 111, 100], wordV [49], wordV [50]]
  | 3 => [wordV [114, 101, 116, 114, 105, 101, 115], wordV [120]]
  | 4 => [wordV [116, 104, 114, 101, 115, 104, 111, 108, 100]]
  | 5 => [wordV [116, 104, 114, 101, 115, 104, 111, 108, 100], wordV [112, 105, 100, 60, 48]]
  | 6 => [wordV [99, 97, 112, 97, 99, 105, 116, 121], wordV [49], wordV [50]]
  | _ => [wordV [100, 101, 97, 100], wordV [45, 49]]
theorem wrF_bad : ∀ b, b < 8 → ∀ s, lineR s (wrF b) = .error 2 := by
  intro b hb s
  rcases (show b = 0 ∨ b = 1 ∨ b = 2 ∨ b = 3 ∨ b = 4 ∨ b = 5 ∨ b = 6 ∨ b = 7 by omega) with rfl | rfl | rfl | rfl | rfl | rfl | rfl | rfl <;> kernel_rfl
theorem wrF_ok : ∀ b, b < 8 → wrF b ≠ [] ∧ (∀ f ∈ wrF b, wordOk f.text) ∧ (joinF [wrF b]).length ≤ 1000 := by
  have hw : ∀ t : List UInt8, t ≠ [] → (t.all plainB) = true → wordOk t := fun t h1 h2 => word_plain h1 (List.all_eq_true.1 h2)
  intro b hb
  rcases (show b = 0 ∨ b = 1 ∨ b = 2 ∨ b = 3 ∨ b = 4 ∨ b = 5 ∨ b = 6 ∨ b = 7 by omega) with rfl | rfl | rfl | rfl | rfl | rfl | rfl | rfl <;>
    refine ⟨by decide, ?_, by decide +kernel⟩ <;> intro f hf <;> simp only [wrF, List.mem_cons, List.not_mem_nil, or_false] at hf <;>
    first | (rcases hf with rfl | rfl | rfl <;> exact hw _ (by decide) (by decide +kernel)) | (rcases hf with rfl | rfl <;> exact hw _ (by decide) (by decide +kernel)) | (subst hf; exact hw _ (by decide) (by decide +kernel))
end Go.Proofs.YtcaenbobfneejaaDoor
