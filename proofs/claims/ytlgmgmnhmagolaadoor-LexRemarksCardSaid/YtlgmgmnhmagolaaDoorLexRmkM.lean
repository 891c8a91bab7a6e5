
/- Texts with a remark put behind each line: their fields are the same. -/
import Derived.Test.YtlgmgmnhmagolaaDoorLexTwoM
import Derived.Test.YtlgmgmnhmagolaaDoorLexJoinM
namespace Go.Proofs.YtlgmgmnhmagolaaDoor
open Go.RowKit
set_option linter.unusedVariables false
set_option linter.unusedSimpArgs false
/-- A text without its lines' ends. -/
def noteB (C : List UInt8) : List UInt8 := C.filter (fun c => !(c == 10))
theorem note_le (C : List UInt8) : (noteB C).length ≤ C.length := List.length_filter_le _ _
theorem note_mem {C : List UInt8} {c : UInt8} (h : c ∈ noteB C) : c ∈ C ∧ c ≠ 10 := by
  unfold noteB at h
  rw [List.mem_filter] at h
  exact ⟨h.1, by simpa using h.2⟩
theorem note_next {C : List UInt8} {i : Nat} {c : UInt8} (h : C[i]? = some c) : noteB (C.take (i + 1)) = noteB (C.take i) ++ (if c == 10 then [] else [c]) := by
  obtain ⟨hi, rfl⟩ := List.getElem?_eq_some_iff.1 h
  unfold noteB
  rw [List.take_succ_eq_append_getElem hi, List.filter_append]
  congr 1
  cases hc : (C[i] == 10) <;> simp [hc]
/-- What stands for one byte. -/
def rmk1 (N : List UInt8) (c : UInt8) : List UInt8 := if c == 10 then 32 :: 35 :: (N ++ [10]) else [c]
def rmkP (N B : List UInt8) : List UInt8 := B.flatMap (rmk1 N)
def rmkF (N B : List UInt8) : List UInt8 := rmkP N B ++ 32 :: 35 :: N
theorem rmkP_next {N B : List UInt8} {i : Nat} {c : UInt8} (h : B[i]? = some c) : rmkP N (B.take (i + 1)) = rmkP N (B.take i) ++ rmk1 N c := by
  obtain ⟨hi, rfl⟩ := List.getElem?_eq_some_iff.1 h
  unfold rmkP
  rw [List.take_succ_eq_append_getElem hi, List.flatMap_append]
  simp
theorem rmk1_le (N : List UInt8) (c : UInt8) : (rmk1 N c).length ≤ N.length + 3 := by
  unfold rmk1
  split <;> simp
theorem rmkP_le (N B : List UInt8) : (rmkP N B).length ≤ B.length * (N.length + 3) := by
  unfold rmkP
  induction B with
  | nil => simp
  | cons c B ih =>
    rw [List.flatMap_cons, List.length_append, List.length_cons, Nat.add_mul]
    have := rmk1_le N c
    omega
theorem rmk_ok {N B : List UInt8} (hN : ∀ c ∈ N, okB c = true) (hB : ∀ c ∈ B, okB c = true) : ∀ c ∈ rmkF N B, okB c = true := by
  intro c hc
  unfold rmkF rmkP at hc
  rw [List.mem_append, List.mem_flatMap] at hc
  rcases hc with ⟨d, hd, hc⟩ | hc
  · unfold rmk1 at hc
    split at hc
    · simp only [List.mem_cons, List.mem_append, List.not_mem_nil, or_false] at hc
      rcases hc with rfl | rfl | h | rfl
      · decide
      · decide
      · exact hN c h
      · decide
    · simp only [List.mem_cons, List.not_mem_nil, or_false] at hc
      rw [hc]; exact hB d hd
  · simp only [List.mem_cons] at hc
    rcases hc with rfl | rfl | h
    · decide
    · decide
    · exact hN c h
theorem rmk_lines {N : List UInt8} (hN : ∀ c ∈ N, c ≠ 10) (B : List UInt8) : linesL (rmkF N B) = (linesL B).map (· ++ 32 :: 35 :: N) := by
  have h0 : ∀ c ∈ (32 : UInt8) :: 35 :: N, c ≠ 10 := by
    intro c hc
    simp only [List.mem_cons] at hc
    rcases hc with rfl | rfl | h
    · decide
    · decide
    · exact hN c h
  induction B with
  | nil => show linesL (32 :: 35 :: N) = _; rw [linesL_one h0]; rfl
  | cons c B ih =>
    cases hc : (c == 10) with
    | true =>
      have e : rmkF N (c :: B) = (32 :: 35 :: N) ++ 10 :: rmkF N B := by
        unfold rmkF rmkP rmk1
        rw [List.flatMap_cons]
        simp only [hc, if_true, List.cons_append, List.append_assoc, List.nil_append]
      rw [e, lines_two, linesL_one h0, ih]
      simp only [linesL, hc, if_true, List.map_cons, List.nil_append, List.cons_append]
    | false =>
      have e : rmkF N (c :: B) = c :: rmkF N B := by
        unfold rmkF rmkP
        rw [List.flatMap_cons]
        simp only [rmk1, hc, Bool.false_eq_true, if_false, List.cons_append, List.nil_append]
      rw [e]
      simp only [linesL, hc, Bool.false_eq_true, if_false, ih]
      cases hL : linesL B with
      | nil => exact absurd hL (lines_ne B)
      | cons h t => rfl
theorem scan_rmk (N : List UInt8) (n : Int) (p : Nat) (o : Option (List UInt8 × Nat)) (L : List UInt8) : scan n p o (L ++ 32 :: 35 :: N) = scan n p o L := by
  have h32 : blankB 32 = true := by decide
  have h35 : blankB 35 = false := by decide
  induction L generalizing p o with
  | nil =>
    rcases o with _ | ⟨t, q⟩
    · simp [scan, h32, h35]
    · simp [scan, h32, h35]
  | cons c l ih =>
    rcases o with _ | ⟨t, q⟩
    · simp only [List.cons_append, scan, ih]
    · simp only [List.cons_append, scan, ih]
theorem allF_rmk (N : List UInt8) (n : Int) (R : List (List UInt8)) : allF n (R.map (· ++ 32 :: 35 :: N)) = allF n R := by
  induction R generalizing n with
  | nil => rfl
  | cons l R ih =>
    simp only [List.map_cons, allF, ih]
    congr 1
    unfold oneF lineF
    rw [scan_rmk]
theorem rmk_fields (C B : List UInt8) : fieldsF (rmkF (noteB C) B) = fieldsF B := by
  unfold fieldsF
  rw [rmk_lines (fun c hc => (note_mem hc).2), allF_rmk]
theorem rmk_read {C B : List UInt8} (hC : readB C = true) (hB : readB B = true) (hl : (rmkF (noteB C) B).length ≤ 65536) : readB (rmkF (noteB C) B) = true := by
  have h := rmk_ok (fun c hc => read_all hC c (note_mem hc).1) (read_all hB)
  unfold readB
  rw [Bool.and_eq_true]
  refine ⟨List.all_eq_true.2 (fun c hc => h c hc), decide_eq_true hl⟩
end Go.Proofs.YtlgmgmnhmagolaaDoor
