
/- Two texts, one line's end between: their lines; joined texts and where lines stand; how long a joined text is. -/
import Derived.Test.YtlgmgmnhmagolaaDoorLexJoin
namespace Go.Proofs.YtlgmgmnhmagolaaDoor
open Go.RowKit
set_option linter.unusedVariables false
set_option linter.unusedSimpArgs false
theorem lines_ne (L : List UInt8) : linesL L ≠ [] := by
  cases L with
  | nil => simp [linesL]
  | cons c l =>
    unfold linesL
    split
    · simp
    · split <;> simp
theorem lines_two (a b : List UInt8) : linesL (a ++ 10 :: b) = linesL a ++ linesL b := by
  induction a with
  | nil => simp [linesL]
  | cons c a ih =>
    rw [List.cons_append]
    cases hc : (c == 10) with
    | true => simp only [linesL, hc, if_true, ih, List.cons_append]
    | false =>
      simp only [linesL, hc, Bool.false_eq_true, if_false, ih]
      cases hL : linesL a with
      | nil => exact absurd hL (lines_ne a)
      | cons h t => rfl
theorem allF_app (n : Int) (X Y : List (List UInt8)) : allF n (X ++ Y) = allF n X ++ allF (n + X.length) Y := by
  induction X generalizing n with
  | nil => simp [allF]
  | cons l X ih =>
    simp only [List.cons_append, allF, ih, List.append_assoc, List.length_cons]
    rw [show n + 1 + (X.length : Int) = n + ((X.length + 1 : Nat) : Int) by push_cast; omega]
/-- The texts alone. -/
theorem scan_text (n m : Int) (p : Nat) (o : Option (List UInt8 × Nat)) (L : List UInt8) : (scan n p o L).map FldV.text = (scan m p o L).map FldV.text := by
  induction L generalizing p o with
  | nil =>
    rcases o with _ | ⟨t, q⟩
    · rfl
    · rfl
  | cons c l ih =>
    rcases o with _ | ⟨t, q⟩
    · unfold scan
      cases hb : blankB c with
      | true => simp only [if_true]; exact ih _ _
      | false =>
        simp only [Bool.false_eq_true, if_false]
        cases hc : (c == 35) with
        | true => rfl
        | false => simp only [Bool.false_eq_true, if_false]; exact ih _ _
    · unfold scan
      cases hb : blankB c with
      | true => simp only [if_true, List.map_cons]; rw [ih]
      | false => simp only [Bool.false_eq_true, if_false]; exact ih _ _
theorem words_text (b : Bool) {X Y : List FldV} (h : X.map FldV.text = Y.map FldV.text) : wordsF b X = wordsF b Y := by
  induction X generalizing b Y with
  | nil =>
    cases Y with
    | nil => rfl
    | cons y Y => cases h
  | cons x X ih =>
    cases Y with
    | nil => cases h
    | cons y Y =>
      simp only [List.map_cons, List.cons.injEq] at h
      simp only [wordsF, h.1, ih false h.2]
theorem lineF_empty (n m : Int) (l : List UInt8) : (lineF n l).isEmpty = (lineF m l).isEmpty := by
  have h := congrArg List.length (scan_text n m 0 none l)
  rw [List.length_map, List.length_map] at h
  unfold lineF
  cases h1 : scan n 0 none l <;> cases h2 : scan m 0 none l <;> simp_all
theorem joinF_one (n m : Int) (l : List UInt8) : joinF (oneF n l) = joinF (oneF m l) ∧ (oneF n l).length = (oneF m l).length := by
  unfold oneF
  rw [lineF_empty n m l]
  split
  · exact ⟨rfl, rfl⟩
  · refine ⟨?_, rfl⟩
    unfold joinF
    simp only [List.flatMap_cons, List.flatMap_nil, List.append_nil]
    have e : wordsF true (lineF n l) = wordsF true (lineF m l) := words_text true (scan_text n m 0 none l)
    rw [e]
theorem joinF_any (n m : Int) (R : List (List UInt8)) : joinF (allF n R) = joinF (allF m R) ∧ (allF n R).length = (allF m R).length := by
  induction R generalizing n m with
  | nil => exact ⟨rfl, rfl⟩
  | cons l R ih =>
    obtain ⟨h1, h2⟩ := joinF_one n m l
    obtain ⟨h3, h4⟩ := ih (n + 1) (m + 1)
    simp only [allF, joinF_app, List.length_append, h1, h2, h3, h4, and_self]
theorem two_fields (a b : List UInt8) : (fieldsF (a ++ 10 :: b)).length = (fieldsF a).length + (fieldsF b).length ∧ joinF (fieldsF (a ++ 10 :: b)) = joinF (fieldsF a) ++ joinF (fieldsF b) := by
  unfold fieldsF
  rw [lines_two, allF_app]
  obtain ⟨h1, h2⟩ := joinF_any (1 + ((linesL a).length : Int)) 1 (linesL b)
  rw [joinF_app, List.length_append, h1, h2]
  exact ⟨rfl, rfl⟩
theorem two_read (a b : List UInt8) (ha : a.length ≤ 2000) (hb : b.length ≤ 2000) : readB (a ++ 10 :: b) = (readB a && readB b) := by
  rw [readB_eq, readB_eq, readB_eq, List.all_append, List.all_cons]
  rw [show okB 10 = true from rfl, Bool.true_and]
  rw [decide_eq_true (by rw [List.length_append, List.length_cons]; omega : (a ++ 10 :: b).length ≤ 65536), decide_eq_true (by omega : a.length ≤ 65536), decide_eq_true (by omega : b.length ≤ 65536)]
  simp
theorem words_weak (X : List FldV) : (wordsF true X).length ≤ (wordsF false X).length := by
  cases X with
  | nil => exact Nat.le_refl _
  | cons f r => simp only [wordsF, List.length_append, if_true]; simp
theorem scan_long (n : Int) (p : Nat) (o : Option (List UInt8 × Nat)) (L : List UInt8) : (wordsF false (scan n p o L)).length ≤ 2 * L.length + (match o with | none => 0 | some (t, _) => t.length + 1) := by
  induction L generalizing p o with
  | nil =>
    rcases o with _ | ⟨t, q⟩
    · exact Nat.zero_le _
    · simp only [scan, wordsF, List.length_append]; simp; omega
  | cons c l ih =>
    rcases o with _ | ⟨t, q⟩
    · unfold scan
      cases hb : blankB c with
      | true =>
        simp only [if_true]
        have := ih (p + 1) none
        simp only [List.length_cons] at this ⊢
        omega
      | false =>
        simp only [Bool.false_eq_true, if_false]
        cases hc : (c == 35) with
        | true => exact Nat.zero_le _
        | false =>
          simp only [Bool.false_eq_true, if_false]
          have := ih (p + 1) (some ([c], p))
          simp only [List.length_cons, List.length_nil] at this ⊢
          omega
    · unfold scan
      cases hb : blankB c with
      | true =>
        simp only [if_true, wordsF, List.length_append, List.length_cons, List.length_nil]
        have := ih (p + 1) none
        simp only [Bool.false_eq_true, if_false, List.length_cons, List.length_nil] at this ⊢
        omega
      | false =>
        simp only [Bool.false_eq_true, if_false]
        have := ih (p + 1) (some (t ++ [c], q))
        simp only [List.length_append, List.length_cons, List.length_nil] at this ⊢
        omega
theorem joinF_long (n : Int) (R : List (List UInt8)) (h : ∀ l ∈ R, l.length ≤ 65536) : (joinF (allF n R)).length ≤ R.length * 131073 := by
  induction R generalizing n with
  | nil => exact Nat.le_refl _
  | cons l R ih =>
    have h1 := ih (n + 1) (fun x hx => h x (List.mem_cons_of_mem _ hx))
    have h2 := scan_long n 0 none l
    have h3 := words_weak (scan n 0 none l)
    have h4 := h l List.mem_cons_self
    have h5 : (joinF (oneF n l)).length ≤ 131073 := by
      unfold oneF
      split
      · exact Nat.zero_le _
      · unfold joinF
        simp only [List.flatMap_cons, List.flatMap_nil, List.append_nil, List.length_append, List.length_cons, List.length_nil]
        unfold lineF
        simp only [Nat.add_zero] at h2
        omega
    simp only [allF, joinF_app, List.length_append, List.length_cons]
    omega
theorem fields_long (L : List UInt8) (h : L.length ≤ 65536) : (joinF (fieldsF L)).length ≤ 140737488355328 := by
  obtain ⟨h1, h2⟩ := lines_le L
  have h3 := joinF_long 1 (linesL L) (fun l hl => Nat.le_trans (h2 l hl) h)
  unfold fieldsF
  have h4 : (linesL L).length * 131073 ≤ 65537 * 131073 := Nat.mul_le_mul_right _ (by omega)
  omega
theorem nums_of_bytes {w : World} {a : Option Addr} {len cap : Nat} {z : List Int} (h : Ints .u8 w a len cap z) : ∃ L, z = numsL L ∧ L.length = len := by
  have hb := fun n hn => in8_of_wf (h.2 n hn)
  refine ⟨z.map (fun n => UInt8.ofNat n.toNat), ?_, by rw [List.length_map]; exact h.bounds.1⟩
  unfold numsL
  rw [List.map_map]
  refine ((List.map_congr_left (fun n hn => ?_)).trans (List.map_id z)).symm
  have := hb n hn
  show ((UInt8.ofNat n.toNat).toNat : Int) = n
  rw [UInt8.toNat_ofNat']
  omega
end Go.Proofs.YtlgmgmnhmagolaaDoor
