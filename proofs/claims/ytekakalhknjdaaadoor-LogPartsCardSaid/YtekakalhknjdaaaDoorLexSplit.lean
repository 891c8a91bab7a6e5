
/- strings.Split at a line's end: the lines. -/
import Derived.Test.YtekakalhknjdaaaDoorLexMath
import Derived.Lib.IndexBytes
import Derived.Lib.CountLaws
namespace Go.Proofs.YtekakalhknjdaaaDoor
open Go.RowKit Go.Lib
set_option linter.unusedVariables false
set_option linter.unusedSimpArgs false
theorem indexByte_spec (l : List UInt8) (c : UInt8) : (indexByte l c = -1 ∧ ∀ x ∈ l, x ≠ c) ∨ ∃ i : Nat, indexByte l c = i ∧ l[i]? = some c ∧ ∀ j, j < i → l[j]? ≠ some c := by
  induction l with
  | nil => exact .inl ⟨rfl, fun x hx => by cases hx⟩
  | cons b l ih =>
    cases h : (b == c) with
    | true =>
      refine .inr ⟨0, by simp [indexByte, h], ?_, fun j hj => absurd hj (by omega)⟩
      simp only [List.getElem?_cons_zero, Option.some.injEq]
      simpa using h
    | false =>
      rcases ih with ⟨h1, h2⟩ | ⟨i, h1, h2, h3⟩
      · refine .inl ⟨by simp [indexByte, h, h1], fun x hx => ?_⟩
        rcases List.mem_cons.1 hx with rfl | q
        · simpa using h
        · exact h2 x q
      · refine .inr ⟨i + 1, ?_, by simpa using h2, fun j hj => ?_⟩
        · have hn : (indexByte l c == -1) = false := by rw [h1]; simp
          show (if (b == c) = true then (0 : Int) else if (indexByte l c == -1) = true then -1 else indexByte l c + 1) = ((i + 1 : Nat) : Int)
          rw [h, if_neg (by simp), if_neg (by rw [hn]; simp), h1]
          omega
        · cases j with
          | zero => simp only [List.getElem?_cons_zero, ne_eq, Option.some.injEq]; simpa using h
          | succ j => simp only [List.getElem?_cons_succ]; exact h3 j (by omega)
theorem bA_self (s : ByteArray) : bA s.data.toList = s := by unfold bA; simp
theorem bA_data (l : List UInt8) : (bA l).data.toList = l := by unfold bA; simp
theorem bA_size (l : List UInt8) : (bA l).size = l.length := by unfold bA; simp [ByteArray.size]
theorem ext_data {s t : ByteArray} (h : s.data.toList = t.data.toList) : s = t := by rw [← bA_self s, ← bA_self t, h]
theorem indexB_nl (s : ByteArray) : indexB s ⟨#[10]⟩ = indexByte s.data.toList 10 := index_one s.data.toList 10
theorem split_nl (k : Nat) : ∀ s : ByteArray, countB s ⟨#[10]⟩ = k → splitB ⟨#[10]⟩ 0 k s = (linesL s.data.toList).map bA := by
  induction k with
  | zero =>
    intro s hc
    rcases indexByte_spec s.data.toList 10 with ⟨h1, h2⟩ | ⟨i, h1, h2, h3⟩
    · rw [splitB_zero, linesL_one h2, List.map_cons, List.map_nil, bA_self]
    · have := countB_hit s ⟨#[10]⟩ i (by decide) (by rw [indexB_nl]; exact h1)
      omega
  | succ k ih =>
    intro s hc
    rcases indexByte_spec s.data.toList 10 with ⟨h1, h2⟩ | ⟨i, h1, h2, h3⟩
    · have := countB_miss s ⟨#[10]⟩ (by rw [indexB_nl]; exact h1)
      omega
    · have hi : indexB s ⟨#[10]⟩ = i := by rw [indexB_nl]; exact h1
      have h4 := countB_hit s ⟨#[10]⟩ i (by decide) hi
      have hz : (⟨#[10]⟩ : ByteArray).size = 1 := rfl
      rw [splitB_hit _ _ _ _ _ hi, linesL_cut h2 h3, List.map_cons]
      rw [hz] at h4 ⊢
      rw [ih (s.extract (i + 1) s.size) (by omega), extract_to_end]
      congr 1
      refine ext_data ?_
      rw [extract_data, bA_data]
      simp
theorem split_lines (s : ByteArray) : splitB ⟨#[10]⟩ 0 (countB s ⟨#[10]⟩) s = (linesL s.data.toList).map bA := split_nl _ s rfl
theorem lines_len (s : ByteArray) : (linesL s.data.toList).length = countB s ⟨#[10]⟩ + 1 := by
  have h : ∀ k : Nat, ∀ s : ByteArray, countB s ⟨#[10]⟩ = k → (linesL s.data.toList).length = k + 1 := by
    intro k
    induction k with
    | zero =>
      intro s hc
      rcases indexByte_spec s.data.toList 10 with ⟨h1, h2⟩ | ⟨i, h1, h2, h3⟩
      · rw [linesL_one h2]; rfl
      · have := countB_hit s ⟨#[10]⟩ i (by decide) (by rw [indexB_nl]; exact h1)
        omega
    | succ k ih =>
      intro s hc
      rcases indexByte_spec s.data.toList 10 with ⟨h1, h2⟩ | ⟨i, h1, h2, h3⟩
      · have := countB_miss s ⟨#[10]⟩ (by rw [indexB_nl]; exact h1)
        omega
      · have hi : indexB s ⟨#[10]⟩ = i := by rw [indexB_nl]; exact h1
        have h4 := countB_hit s ⟨#[10]⟩ i (by decide) hi
        have hz : (⟨#[10]⟩ : ByteArray).size = 1 := rfl
        rw [hz] at h4
        rw [linesL_cut h2 h3, List.length_cons]
        have := ih (s.extract (i + 1) s.size) (by omega)
        rw [extract_to_end] at this
        omega
  exact h _ s rfl
end Go.Proofs.YtekakalhknjdaaaDoor
