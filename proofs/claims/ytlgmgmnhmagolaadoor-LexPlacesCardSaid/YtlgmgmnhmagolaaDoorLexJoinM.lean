
/- What Join writes, read again: the maths. -/
import Derived.Test.YtlgmgmnhmagolaaDoorLexTwoM
namespace Go.Proofs.YtlgmgmnhmagolaaDoor
open Go.RowKit
set_option linter.unusedVariables false
set_option linter.unusedSimpArgs false
def wordOk (t : List UInt8) : Prop := t ≠ [] ∧ (∀ c ∈ t, blankB c = false ∧ okB c = true ∧ c ≠ 10) ∧ t.head? ≠ some 35
theorem scan_ok (n : Int) (p : Nat) (o : Option (List UInt8 × Nat)) (L : List UInt8) (hL : ∀ c ∈ L, okB c = true ∧ c ≠ 10) (ho : ∀ t q, o = some (t, q) → wordOk t) : ∀ f ∈ scan n p o L, wordOk f.text := by
  induction L generalizing p o with
  | nil =>
    rcases o with _ | ⟨t, q⟩
    · intro f hf; cases hf
    · intro f hf
      simp only [scan, List.mem_singleton] at hf
      subst hf
      exact ho t q rfl
  | cons c l ih =>
    have hl : ∀ c ∈ l, okB c = true ∧ c ≠ 10 := fun x hx => hL x (List.mem_cons_of_mem _ hx)
    have hc := hL c List.mem_cons_self
    rcases o with _ | ⟨t, q⟩
    · unfold scan
      cases hb : blankB c with
      | true => simp only [if_true]; exact ih _ _ hl (fun t q h => by cases h)
      | false =>
        simp only [Bool.false_eq_true, if_false]
        cases h35 : (c == 35) with
        | true => intro f hf; simp at hf
        | false =>
          simp only [Bool.false_eq_true, if_false]
          refine ih _ _ hl (fun t q h => ?_)
          obtain ⟨rfl, rfl⟩ := Prod.mk.inj (Option.some.inj h)
          refine ⟨by simp, fun x hx => ?_, ?_⟩
          · rw [List.mem_singleton] at hx
            subst hx
            exact ⟨hb, hc⟩
          · intro h
            have h2 : c = 35 := by simpa using h
            rw [h2] at h35; cases h35
    · have ht := ho t q rfl
      unfold scan
      cases hb : blankB c with
      | true =>
        simp only [if_true]
        intro f hf
        rcases List.mem_cons.1 hf with rfl | h
        · exact ht
        · exact ih _ _ hl (fun t q h => by cases h) f h
      | false =>
        simp only [Bool.false_eq_true, if_false]
        refine ih _ _ hl (fun t' q' h => ?_)
        obtain ⟨rfl, rfl⟩ := Prod.mk.inj (Option.some.inj h)
        refine ⟨by simp, fun x hx => ?_, ?_⟩
        · rcases List.mem_append.1 hx with h | h
          · exact ht.2.1 x h
          · rw [List.mem_singleton] at h
            subst h
            exact ⟨hb, hc⟩
        · cases t with
          | nil => exact absurd rfl ht.1
          | cons y t => exact ht.2.2
theorem take_word {t rest : List UInt8} (h : ∀ c ∈ t, blankB c = false) (hr : rest = [] ∨ ∃ r, rest = 32 :: r) : (t ++ rest).takeWhile (fun c => !blankB c) = t := by
  induction t with
  | nil =>
    rcases hr with rfl | ⟨r, rfl⟩
    · rfl
    · rfl
  | cons c t ih =>
    rw [List.cons_append, List.takeWhile_cons_of_pos (by simp [h c List.mem_cons_self]), ih (fun x hx => h x (List.mem_cons_of_mem _ hx))]
theorem scan_word {t rest : List UInt8} (h : wordOk t) (n : Int) (p : Nat) (hr : rest = [] ∨ ∃ r, rest = 32 :: r) :
    scan n p none (t ++ rest) = ⟨t, n, (p : Int) + 1⟩ :: scan n (p + t.length + 1) none (rest.drop 1) := by
  obtain ⟨h1, h2, h3⟩ := h
  cases t with
  | nil => exact absurd rfl h1
  | cons c t =>
    have hb := (h2 c List.mem_cons_self).1
    have hc : (c == 35) = false := by
      cases h : (c == 35) with
      | false => rfl
      | true => exact absurd (by rw [show c = 35 by simpa using h]; rfl) h3
    rw [List.cons_append]
    simp only [scan, hb, hc, Bool.false_eq_true, if_false]
    rw [scan_run, take_word (fun x hx => (h2 x (List.mem_cons_of_mem _ hx)).1) hr]
    rw [List.cons_append, List.nil_append, List.length_cons]
    rw [show p + 1 + t.length + 1 = p + (t.length + 1) + 1 by omega]
    congr 2
    rw [← List.drop_drop, List.drop_left]
theorem words_false (F : List FldV) : (wordsF false F = [] ∨ ∃ r, wordsF false F = 32 :: r) ∧ (wordsF false F).drop 1 = wordsF true F := by
  cases F with
  | nil => exact ⟨.inl rfl, rfl⟩
  | cons f r => exact ⟨.inr ⟨f.text ++ wordsF false r, by simp [wordsF]⟩, by simp [wordsF]⟩
theorem scan_words (n : Int) (F : List FldV) (h : ∀ f ∈ F, wordOk f.text) (p : Nat) : (scan n p none (wordsF true F)).map FldV.text = F.map FldV.text ∧ ∀ g ∈ scan n p none (wordsF true F), g.line = n := by
  induction F generalizing p with
  | nil => exact ⟨rfl, fun g hg => by cases hg⟩
  | cons f r ih =>
    obtain ⟨w1, w2⟩ := words_false r
    have e : wordsF true (f :: r) = f.text ++ wordsF false r := by simp [wordsF]
    rw [e, scan_word (h f List.mem_cons_self) n p w1, w2]
    obtain ⟨i1, i2⟩ := ih (fun x hx => h x (List.mem_cons_of_mem _ hx)) (p + f.text.length + 1)
    refine ⟨by rw [List.map_cons, List.map_cons, i1], fun g hg => ?_⟩
    rcases List.mem_cons.1 hg with rfl | q
    · rfl
    · exact i2 g q
theorem words_ok (b : Bool) (F : List FldV) (h : ∀ f ∈ F, wordOk f.text) : ∀ c ∈ wordsF b F, okB c = true ∧ c ≠ 10 := by
  induction F generalizing b with
  | nil => intro c hc; cases hc
  | cons f r ih =>
    intro c hc
    simp only [wordsF] at hc
    rcases List.mem_append.1 hc with q | q
    · cases b with
      | true => cases q
      | false =>
        simp only [Bool.false_eq_true, if_false, List.mem_singleton] at q
        subst q
        exact ⟨by decide, by decide⟩
    · rcases List.mem_append.1 q with k | k
      · exact ((h f List.mem_cons_self).2.1 c k).2
      · exact ih false (fun x hx => h x (List.mem_cons_of_mem _ hx)) c k
theorem lines_one (x : List UInt8) (h : ∀ c ∈ x, c ≠ 10) : linesL x = [x] := by
  induction x with
  | nil => rfl
  | cons c x ih =>
    have hc : (c == 10) = false := by
      have := h c List.mem_cons_self
      simpa using this
    simp only [linesL, hc, Bool.false_eq_true, if_false, ih (fun y hy => h y (List.mem_cons_of_mem _ hy))]
def FieldsOk (LL : List (List FldV)) : Prop := ∀ F ∈ LL, F ≠ [] ∧ ∀ f ∈ F, wordOk f.text
theorem lines_join (LL : List (List FldV)) (h : FieldsOk LL) : linesL (joinF LL) = LL.map (wordsF true) ++ [[]] := by
  induction LL with
  | nil => rfl
  | cons F LL ih =>
    have e : joinF (F :: LL) = wordsF true F ++ 10 :: joinF LL := by unfold joinF; simp
    rw [e, lines_two, lines_one _ (fun c hc => (words_ok true F (h F List.mem_cons_self).2 c hc).2), ih (fun G hG => h G (List.mem_cons_of_mem _ hG))]
    rfl
/-- The same texts, line by line, the lines numbered from n on. -/
def Again (n : Int) (LL MM : List (List FldV)) : Prop := MM.length = LL.length ∧ joinF MM = joinF LL ∧ ∀ (i : Nat) (F : List FldV), LL[i]? = some F → ∃ G : List FldV, MM[i]? = some G ∧ G.map FldV.text = F.map FldV.text ∧ ∀ g ∈ G, g.line = n + (i : Int)
theorem again_all (n : Int) (LL : List (List FldV)) (h : FieldsOk LL) : Again n LL (allF n (LL.map (wordsF true) ++ [[]])) := by
  induction LL generalizing n with
  | nil => exact ⟨rfl, rfl, fun i F hi => by cases hi⟩
  | cons F LL ih =>
    obtain ⟨i1, i2, i3⟩ := ih (n + 1) (fun G hG => h G (List.mem_cons_of_mem _ hG))
    obtain ⟨hF1, hF2⟩ := h F List.mem_cons_self
    obtain ⟨s1, s2⟩ := scan_words n F hF2 0
    have e1 : oneF n (wordsF true F) = [lineF n (wordsF true F)] := by
      unfold oneF
      rw [if_neg]
      unfold lineF
      cases hs : scan n 0 none (wordsF true F) with
      | nil =>
        rw [hs] at s1
        cases F with
        | nil => exact absurd rfl hF1
        | cons f r => cases s1
      | cons g r => simp
    have e : allF n ((F :: LL).map (wordsF true) ++ [[]]) = lineF n (wordsF true F) :: allF (n + 1) (LL.map (wordsF true) ++ [[]]) := by
      rw [List.map_cons, List.cons_append, allF, e1]; rfl
    rw [e]
    refine ⟨by rw [List.length_cons, List.length_cons, i1], ?_, fun i X hi => ?_⟩
    · have e2 : ∀ (G : List FldV) (R : List (List FldV)), joinF (G :: R) = wordsF true G ++ 10 :: joinF R := fun G R => by unfold joinF; simp
      have e3 : wordsF true (lineF n (wordsF true F)) = wordsF true F := words_text true s1
      rw [e2, e2, e3, i2]
    · cases i with
      | zero =>
        simp only [List.getElem?_cons_zero, Option.some.injEq] at hi
        subst hi
        exact ⟨_, rfl, s1, fun g hg => by rw [s2 g hg]; simp⟩
      | succ i =>
        rw [List.getElem?_cons_succ] at hi
        obtain ⟨G, g1, g2, g3⟩ := i3 i X hi
        exact ⟨G, by rw [List.getElem?_cons_succ]; exact g1, g2, fun g hg => by rw [g3 g hg]; push_cast; omega⟩
theorem again_fields (LL : List (List FldV)) (h : FieldsOk LL) : Again 1 LL (fieldsF (joinF LL)) := by
  unfold fieldsF
  rw [lines_join LL h]
  exact again_all 1 LL h
theorem lines_mem (L : List UInt8) : ∀ l ∈ linesL L, ∀ c ∈ l, c ∈ L ∧ c ≠ 10 := by
  induction L with
  | nil => intro l hl c hc; simp [linesL] at hl; subst hl; cases hc
  | cons d L ih =>
    intro l hl c hc
    cases hd : (d == 10) with
    | true =>
      simp only [linesL, hd, if_true] at hl
      rcases List.mem_cons.1 hl with rfl | q
      · cases hc
      · exact ⟨List.mem_cons_of_mem _ (ih l q c hc).1, (ih l q c hc).2⟩
    | false =>
      simp only [linesL, hd, Bool.false_eq_true, if_false] at hl
      cases hL : linesL L with
      | nil => exact absurd hL (lines_ne L)
      | cons h t =>
        rw [hL] at hl ih
        rcases List.mem_cons.1 hl with rfl | q
        · rcases List.mem_cons.1 hc with rfl | k
          · exact ⟨List.mem_cons_self, by simpa using hd⟩
          · have := ih h List.mem_cons_self c k
            exact ⟨List.mem_cons_of_mem _ this.1, this.2⟩
        · have := ih l (List.mem_cons_of_mem _ q) c hc
          exact ⟨List.mem_cons_of_mem _ this.1, this.2⟩
theorem allF_ok (n : Int) (R : List (List UInt8)) (h : ∀ l ∈ R, ∀ c ∈ l, okB c = true ∧ c ≠ 10) : FieldsOk (allF n R) := by
  induction R generalizing n with
  | nil => intro F hF; cases hF
  | cons l R ih =>
    intro F hF
    simp only [allF] at hF
    rcases List.mem_append.1 hF with q | q
    · unfold oneF at q
      cases he : (lineF n l).isEmpty with
      | true => rw [he] at q; simp at q
      | false =>
        rw [he] at q
        simp only [Bool.false_eq_true, if_false, List.mem_singleton] at q
        subst q
        refine ⟨fun e => ?_, ?_⟩
        · rw [e] at he
          exact absurd he (by decide)
        · exact scan_ok n 0 none l (h l List.mem_cons_self) (fun t q h => by cases h)
    · exact ih (n + 1) (fun x hx => h x (List.mem_cons_of_mem _ hx)) F q
theorem read_all {L : List UInt8} (h : readB L = true) : ∀ c ∈ L, okB c = true := by
  rw [readB_eq, Bool.and_eq_true] at h
  exact List.all_eq_true.1 h.1
theorem fields_ok {L : List UInt8} (h : readB L = true) : FieldsOk (fieldsF L) :=
  allF_ok 1 _ (fun l hl c hc => ⟨read_all h c (lines_mem L l hl c hc).1, (lines_mem L l hl c hc).2⟩)
theorem lines_sum (L : List UInt8) : ((linesL L).map (fun l => l.length + 1)).sum = L.length + 1 := by
  induction L with
  | nil => rfl
  | cons c L ih =>
    cases hc : (c == 10) with
    | true => simp only [linesL, hc, if_true, List.map_cons, List.sum_cons, ih, List.length_cons, List.length_nil]; omega
    | false =>
      simp only [linesL, hc, Bool.false_eq_true, if_false]
      cases hL : linesL L with
      | nil => exact absurd hL (lines_ne L)
      | cons h t =>
        rw [hL] at ih
        simp only [List.map_cons, List.sum_cons, List.length_cons] at ih ⊢
        omega
theorem joinF_sum (n : Int) (R : List (List UInt8)) : (joinF (allF n R)).length ≤ 2 * (R.map (fun l => l.length + 1)).sum := by
  induction R generalizing n with
  | nil => exact Nat.le_refl _
  | cons l R ih =>
    have h1 := ih (n + 1)
    have h2 := scan_long n 0 none l
    have h3 := words_weak (scan n 0 none l)
    have h5 : (joinF (oneF n l)).length ≤ 2 * l.length + 1 := by
      unfold oneF
      split
      · exact Nat.zero_le _
      · unfold joinF
        simp only [List.flatMap_cons, List.flatMap_nil, List.append_nil, List.length_append, List.length_cons, List.length_nil]
        unfold lineF
        simp only [Nat.add_zero] at h2
        omega
    simp only [allF, joinF_app, List.length_append, List.map_cons, List.sum_cons]
    omega
theorem join_read {L : List UInt8} (h : readB L = true) (hl : L.length ≤ 5000) : readB (joinF (fieldsF L)) = true ∧ (joinF (fieldsF L)).length ≤ 10002 := by
  have h1 : (joinF (fieldsF L)).length ≤ 10002 := by
    have := joinF_sum 1 (linesL L)
    rw [lines_sum] at this
    unfold fieldsF
    omega
  refine ⟨?_, h1⟩
  rw [readB_eq, Bool.and_eq_true]
  refine ⟨List.all_eq_true.2 fun c hc => ?_, decide_eq_true (by omega)⟩
  unfold joinF at hc
  obtain ⟨F, hF, hm⟩ := List.mem_flatMap.1 hc
  rcases List.mem_append.1 hm with q | q
  · exact (words_ok true F (fields_ok h F hF).2 c q).1
  · rw [List.mem_singleton] at q
    subst q; rfl
end Go.Proofs.YtlgmgmnhmagolaaDoor
