
/- Two texts, one line's end between: their lines; joined texts and where lines stand; how long a joined text is. What Join writes, read again: the maths. Texts with a remark put behind each line: their fields are the same. -/
import Derived.Test.YtcaenbobfneejaaGreatDoorLexJoin
namespace Go.Proofs.YtcaenbobfneejaaGreatDoor
open Go.RowKit
set_option linter.unusedVariables false
set_option linter.unusedSimpArgs false
theorem lines_ne (L : List UInt8) : linesL L ≠ [] := by
  cases L with
  | nil => simp [linesL]
  | cons c l =>
    unfold linesL
    split
    · simp
    · split <;> simp
theorem lines_two (a b : List UInt8) : linesL (a ++ 10 :: b) = linesL a ++ linesL b := by
  induction a with
  | nil => simp [linesL]
  | cons c a ih =>
    rw [List.cons_append]
    cases hc : (c == 10) with
    | true => simp only [linesL, hc, if_true, ih, List.cons_append]
    | false =>
      simp only [linesL, hc, Bool.false_eq_true, if_false, ih]
      cases hL : linesL a with
      | nil => exact absurd hL (lines_ne a)
      | cons h t => rfl
theorem allF_app (n : Int) (X Y : List (List UInt8)) : allF n (X ++ Y) = allF n X ++ allF (n + X.length) Y := by
  induction X generalizing n with
  | nil => simp [allF]
  | cons l X ih =>
    simp only [List.cons_append, allF, ih, List.append_assoc, List.length_cons]
    rw [show n + 1 + (X.length : Int) = n + ((X.length + 1 : Nat) : Int) by push_cast; omega]
/-- The texts alone. -/
theorem scan_text (n m : Int) (p : Nat) (o : Option (List UInt8 × Nat)) (L : List UInt8) : (scan n p o L).map FldV.text = (scan m p o L).map FldV.text := by
  induction L generalizing p o with
  | nil =>
    rcases o with _ | ⟨t, q⟩
    · rfl
    · rfl
  | cons c l ih =>
    rcases o with _ | ⟨t, q⟩
    · unfold scan
      cases hb : blankB c with
      | true => simp only [if_true]; exact ih _ _
      | false =>
        simp only [Bool.false_eq_true, if_false]
        cases hc : (c == 35) with
        | true => rfl
        | false => simp only [Bool.false_eq_true, if_false]; exact ih _ _
    · unfold scan
      cases hb : blankB c with
      | true => simp only [if_true, List.map_cons]; rw [ih]
      | false => simp only [Bool.false_eq_true, if_false]; exact ih _ _
theorem words_text (b : Bool) {X Y : List FldV} (h : X.map FldV.text = Y.map FldV.text) : wordsF b X = wordsF b Y := by
  induction X generalizing b Y with
  | nil =>
    cases Y with
    | nil => rfl
    | cons y Y => cases h
  | cons x X ih =>
    cases Y with
    | nil => cases h
    | cons y Y =>
      simp only [List.map_cons, List.cons.injEq] at h
      simp only [wordsF, h.1, ih false h.2]
theorem lineF_empty (n m : Int) (l : List UInt8) : (lineF n l).isEmpty = (lineF m l).isEmpty := by
  have h := congrArg List.length (scan_text n m 0 none l)
  rw [List.length_map, List.length_map] at h
  unfold lineF
  cases h1 : scan n 0 none l <;> cases h2 : scan m 0 none l <;> simp_all
theorem joinF_one (n m : Int) (l : List UInt8) : joinF (oneF n l) = joinF (oneF m l) ∧ (oneF n l).length = (oneF m l).length := by
  unfold oneF
  rw [lineF_empty n m l]
  split
  · exact ⟨rfl, rfl⟩
  · refine ⟨?_, rfl⟩
    unfold joinF
    simp only [List.flatMap_cons, List.flatMap_nil, List.append_nil]
    have e : wordsF true (lineF n l) = wordsF true (lineF m l) := words_text true (scan_text n m 0 none l)
    rw [e]
theorem joinF_any (n m : Int) (R : List (List UInt8)) : joinF (allF n R) = joinF (allF m R) ∧ (allF n R).length = (allF m R).length := by
  induction R generalizing n m with
  | nil => exact ⟨rfl, rfl⟩
  | cons l R ih =>
    obtain ⟨h1, h2⟩ := joinF_one n m l
    obtain ⟨h3, h4⟩ := ih (n + 1) (m + 1)
    simp only [allF, joinF_app, List.length_append, h1, h2, h3, h4, and_self]
theorem two_fields (a b : List UInt8) : (fieldsF (a ++ 10 :: b)).length = (fieldsF a).length + (fieldsF b).length ∧ joinF (fieldsF (a ++ 10 :: b)) = joinF (fieldsF a) ++ joinF (fieldsF b) := by
  unfold fieldsF
  rw [lines_two, allF_app]
  obtain ⟨h1, h2⟩ := joinF_any (1 + ((linesL a).length : Int)) 1 (linesL b)
  rw [joinF_app, List.length_append, h1, h2]
  exact ⟨rfl, rfl⟩
theorem two_read (a b : List UInt8) (ha : a.length ≤ 2000) (hb : b.length ≤ 2000) : readB (a ++ 10 :: b) = (readB a && readB b) := by
  rw [readB_eq, readB_eq, readB_eq, List.all_append, List.all_cons]
  rw [show okB 10 = true from rfl, Bool.true_and]
  rw [decide_eq_true (by rw [List.length_append, List.length_cons]; omega : (a ++ 10 :: b).length ≤ 65536), decide_eq_true (by omega : a.length ≤ 65536), decide_eq_true (by omega : b.length ≤ 65536)]
  simp
theorem words_weak (X : List FldV) : (wordsF true X).length ≤ (wordsF false X).length := by
  cases X with
  | nil => exact Nat.le_refl _
  | cons f r => simp only [wordsF, List.length_append, if_true]; simp
theorem scan_long (n : Int) (p : Nat) (o : Option (List UInt8 × Nat)) (L : List UInt8) : (wordsF false (scan n p o L)).length ≤ 2 * L.length + (match o with | none => 0 | some (t, _) => t.length + 1) := by
  induction L generalizing p o with
  | nil =>
    rcases o with _ | ⟨t, q⟩
    · exact Nat.zero_le _
    · simp only [scan, wordsF, List.length_append]; simp; omega
  | cons c l ih =>
    rcases o with _ | ⟨t, q⟩
    · unfold scan
      cases hb : blankB c with
      | true =>
        simp only [if_true]
        have := ih (p + 1) none
        simp only [List.length_cons] at this ⊢
        omega
      | false =>
        simp only [Bool.false_eq_true, if_false]
        cases hc : (c == 35) with
        | true => exact Nat.zero_le _
        | false =>
          simp only [Bool.false_eq_true, if_false]
          have := ih (p + 1) (some ([c], p))
          simp only [List.length_cons, List.length_nil] at this ⊢
          omega
    · unfold scan
      cases hb : blankB c with
      | true =>
        simp only [if_true, wordsF, List.length_append, List.length_cons, List.length_nil]
        have := ih (p + 1) none
        simp only [Bool.false_eq_true, if_false, List.length_cons, List.length_nil] at this ⊢
        omega
      | false =>
        simp only [Bool.false_eq_true, if_false]
        have := ih (p + 1) (some (t ++ [c], q))
        simp only [List.length_append, List.length_cons, List.length_nil] at this ⊢
        omega
theorem joinF_long (n : Int) (R : List (List UInt8)) (h : ∀ l ∈ R, l.length ≤ 65536) : (joinF (allF n R)).length ≤ R.length * 131073 := by
  induction R generalizing n with
  | nil => exact Nat.le_refl _
  | cons l R ih =>
    have h1 := ih (n + 1) (fun x hx => h x (List.mem_cons_of_mem _ hx))
    have h2 := scan_long n 0 none l
    have h3 := words_weak (scan n 0 none l)
    have h4 := h l List.mem_cons_self
    have h5 : (joinF (oneF n l)).length ≤ 131073 := by
      unfold oneF
      split
      · exact Nat.zero_le _
      · unfold joinF
        simp only [List.flatMap_cons, List.flatMap_nil, List.append_nil, List.length_append, List.length_cons, List.length_nil]
        unfold lineF
        simp only [Nat.add_zero] at h2
        omega
    simp only [allF, joinF_app, List.length_append, List.length_cons]
    omega
theorem fields_long (L : List UInt8) (h : L.length ≤ 65536) : (joinF (fieldsF L)).length ≤ 140737488355328 := by
  obtain ⟨h1, h2⟩ := lines_le L
  have h3 := joinF_long 1 (linesL L) (fun l hl => Nat.le_trans (h2 l hl) h)
  unfold fieldsF
  have h4 : (linesL L).length * 131073 ≤ 65537 * 131073 := Nat.mul_le_mul_right _ (by omega)
  omega
theorem nums_of_bytes {w : World} {a : Option Addr} {len cap : Nat} {z : List Int} (h : Ints .u8 w a len cap z) : ∃ L, z = numsL L ∧ L.length = len := by
  have hb := fun n hn => in8_of_wf (h.2 n hn)
  refine ⟨z.map (fun n => UInt8.ofNat n.toNat), ?_, by rw [List.length_map]; exact h.bounds.1⟩
  unfold numsL
  rw [List.map_map]
  refine ((List.map_congr_left (fun n hn => ?_)).trans (List.map_id z)).symm
  have := hb n hn
  show ((UInt8.ofNat n.toNat).toNat : Int) = n
  rw [UInt8.toNat_ofNat']
  omega
end Go.Proofs.YtcaenbobfneejaaGreatDoor
namespace Go.Proofs.YtcaenbobfneejaaGreatDoor
open Go.RowKit
set_option linter.unusedVariables false
set_option linter.unusedSimpArgs false
def wordOk (t : List UInt8) : Prop := t ≠ [] ∧ (∀ c ∈ t, blankB c = false ∧ okB c = true ∧ c ≠ 10) ∧ t.head? ≠ some 35
theorem scan_ok (n : Int) (p : Nat) (o : Option (List UInt8 × Nat)) (L : List UInt8) (hL : ∀ c ∈ L, okB c = true ∧ c ≠ 10) (ho : ∀ t q, o = some (t, q) → wordOk t) : ∀ f ∈ scan n p o L, wordOk f.text := by
  induction L generalizing p o with
  | nil =>
    rcases o with _ | ⟨t, q⟩
    · intro f hf; cases hf
    · intro f hf
      simp only [scan, List.mem_singleton] at hf
      subst hf
      exact ho t q rfl
  | cons c l ih =>
    have hl : ∀ c ∈ l, okB c = true ∧ c ≠ 10 := fun x hx => hL x (List.mem_cons_of_mem _ hx)
    have hc := hL c List.mem_cons_self
    rcases o with _ | ⟨t, q⟩
    · unfold scan
      cases hb : blankB c with
      | true => simp only [if_true]; exact ih _ _ hl (fun t q h => by cases h)
      | false =>
        simp only [Bool.false_eq_true, if_false]
        cases h35 : (c == 35) with
        | true => intro f hf; simp at hf
        | false =>
          simp only [Bool.false_eq_true, if_false]
          refine ih _ _ hl (fun t q h => ?_)
          obtain ⟨rfl, rfl⟩ := Prod.mk.inj (Option.some.inj h)
          refine ⟨by simp, fun x hx => ?_, ?_⟩
          · rw [List.mem_singleton] at hx
            subst hx
            exact ⟨hb, hc⟩
          · intro h
            have h2 : c = 35 := by simpa using h
            rw [h2] at h35; cases h35
    · have ht := ho t q rfl
      unfold scan
      cases hb : blankB c with
      | true =>
        simp only [if_true]
        intro f hf
        rcases List.mem_cons.1 hf with rfl | h
        · exact ht
        · exact ih _ _ hl (fun t q h => by cases h) f h
      | false =>
        simp only [Bool.false_eq_true, if_false]
        refine ih _ _ hl (fun t' q' h => ?_)
        obtain ⟨rfl, rfl⟩ := Prod.mk.inj (Option.some.inj h)
        refine ⟨by simp, fun x hx => ?_, ?_⟩
        · rcases List.mem_append.1 hx with h | h
          · exact ht.2.1 x h
          · rw [List.mem_singleton] at h
            subst h
            exact ⟨hb, hc⟩
        · cases t with
          | nil => exact absurd rfl ht.1
          | cons y t => exact ht.2.2
theorem take_word {t rest : List UInt8} (h : ∀ c ∈ t, blankB c = false) (hr : rest = [] ∨ ∃ r, rest = 32 :: r) : (t ++ rest).takeWhile (fun c => !blankB c) = t := by
  induction t with
  | nil =>
    rcases hr with rfl | ⟨r, rfl⟩
    · rfl
    · rfl
  | cons c t ih =>
    rw [List.cons_append, List.takeWhile_cons_of_pos (by simp [h c List.mem_cons_self]), ih (fun x hx => h x (List.mem_cons_of_mem _ hx))]
theorem scan_word {t rest : List UInt8} (h : wordOk t) (n : Int) (p : Nat) (hr : rest = [] ∨ ∃ r, rest = 32 :: r) :
    scan n p none (t ++ rest) = ⟨t, n, (p : Int) + 1⟩ :: scan n (p + t.length + 1) none (rest.drop 1) := by
  obtain ⟨h1, h2, h3⟩ := h
  cases t with
  | nil => exact absurd rfl h1
  | cons c t =>
    have hb := (h2 c List.mem_cons_self).1
    have hc : (c == 35) = false := by
      cases h : (c == 35) with
      | false => rfl
      | true => exact absurd (by rw [show c = 35 by simpa using h]; rfl) h3
    rw [List.cons_append]
    simp only [scan, hb, hc, Bool.false_eq_true, if_false]
    rw [scan_run, take_word (fun x hx => (h2 x (List.mem_cons_of_mem _ hx)).1) hr]
    rw [List.cons_append, List.nil_append, List.length_cons]
    rw [show p + 1 + t.length + 1 = p + (t.length + 1) + 1 by omega]
    congr 2
    rw [← List.drop_drop, List.drop_left]
theorem words_false (F : List FldV) : (wordsF false F = [] ∨ ∃ r, wordsF false F = 32 :: r) ∧ (wordsF false F).drop 1 = wordsF true F := by
  cases F with
  | nil => exact ⟨.inl rfl, rfl⟩
  | cons f r => exact ⟨.inr ⟨f.text ++ wordsF false r, by simp [wordsF]⟩, by simp [wordsF]⟩
theorem scan_words (n : Int) (F : List FldV) (h : ∀ f ∈ F, wordOk f.text) (p : Nat) : (scan n p none (wordsF true F)).map FldV.text = F.map FldV.text ∧ ∀ g ∈ scan n p none (wordsF true F), g.line = n := by
  induction F generalizing p with
  | nil => exact ⟨rfl, fun g hg => by cases hg⟩
  | cons f r ih =>
    obtain ⟨w1, w2⟩ := words_false r
    have e : wordsF true (f :: r) = f.text ++ wordsF false r := by simp [wordsF]
    rw [e, scan_word (h f List.mem_cons_self) n p w1, w2]
    obtain ⟨i1, i2⟩ := ih (fun x hx => h x (List.mem_cons_of_mem _ hx)) (p + f.text.length + 1)
    refine ⟨by rw [List.map_cons, List.map_cons, i1], fun g hg => ?_⟩
    rcases List.mem_cons.1 hg with rfl | q
    · rfl
    · exact i2 g q
theorem words_ok (b : Bool) (F : List FldV) (h : ∀ f ∈ F, wordOk f.text) : ∀ c ∈ wordsF b F, okB c = true ∧ c ≠ 10 := by
  induction F generalizing b with
  | nil => intro c hc; cases hc
  | cons f r ih =>
    intro c hc
    simp only [wordsF] at hc
    rcases List.mem_append.1 hc with q | q
    · cases b with
      | true => cases q
      | false =>
        simp only [Bool.false_eq_true, if_false, List.mem_singleton] at q
        subst q
        exact ⟨by decide, by decide⟩
    · rcases List.mem_append.1 q with k | k
      · exact ((h f List.mem_cons_self).2.1 c k).2
      · exact ih false (fun x hx => h x (List.mem_cons_of_mem _ hx)) c k
theorem lines_one (x : List UInt8) (h : ∀ c ∈ x, c ≠ 10) : linesL x = [x] := by
  induction x with
  | nil => rfl
  | cons c x ih =>
    have hc : (c == 10) = false := by
      have := h c List.mem_cons_self
      simpa using this
    simp only [linesL, hc, Bool.false_eq_true, if_false, ih (fun y hy => h y (List.mem_cons_of_mem _ hy))]
def FieldsOk (LL : List (List FldV)) : Prop := ∀ F ∈ LL, F ≠ [] ∧ ∀ f ∈ F, wordOk f.text
theorem lines_join (LL : List (List FldV)) (h : FieldsOk LL) : linesL (joinF LL) = LL.map (wordsF true) ++ [[]] := by
  induction LL with
  | nil => rfl
  | cons F LL ih =>
    have e : joinF (F :: LL) = wordsF true F ++ 10 :: joinF LL := by unfold joinF; simp
    rw [e, lines_two, lines_one _ (fun c hc => (words_ok true F (h F List.mem_cons_self).2 c hc).2), ih (fun G hG => h G (List.mem_cons_of_mem _ hG))]
    rfl
/-- The same texts, line by line, the lines numbered from n on. -/
def Again (n : Int) (LL MM : List (List FldV)) : Prop := MM.length = LL.length ∧ joinF MM = joinF LL ∧ ∀ (i : Nat) (F : List FldV), LL[i]? = some F → ∃ G : List FldV, MM[i]? = some G ∧ G.map FldV.text = F.map FldV.text ∧ ∀ g ∈ G, g.line = n + (i : Int)
theorem again_all (n : Int) (LL : List (List FldV)) (h : FieldsOk LL) : Again n LL (allF n (LL.map (wordsF true) ++ [[]])) := by
  induction LL generalizing n with
  | nil => exact ⟨rfl, rfl, fun i F hi => by cases hi⟩
  | cons F LL ih =>
    obtain ⟨i1, i2, i3⟩ := ih (n + 1) (fun G hG => h G (List.mem_cons_of_mem _ hG))
    obtain ⟨hF1, hF2⟩ := h F List.mem_cons_self
    obtain ⟨s1, s2⟩ := scan_words n F hF2 0
    have e1 : oneF n (wordsF true F) = [lineF n (wordsF true F)] := by
      unfold oneF
      rw [if_neg]
      unfold lineF
      cases hs : scan n 0 none (wordsF true F) with
      | nil =>
        rw [hs] at s1
        cases F with
        | nil => exact absurd rfl hF1
        | cons f r => cases s1
      | cons g r => simp
    have e : allF n ((F :: LL).map (wordsF true) ++ [[]]) = lineF n (wordsF true F) :: allF (n + 1) (LL.map (wordsF true) ++ [[]]) := by
      rw [List.map_cons, List.cons_append, allF, e1]; rfl
    rw [e]
    refine ⟨by rw [List.length_cons, List.length_cons, i1], ?_, fun i X hi => ?_⟩
    · have e2 : ∀ (G : List FldV) (R : List (List FldV)), joinF (G :: R) = wordsF true G ++ 10 :: joinF R := fun G R => by unfold joinF; simp
      have e3 : wordsF true (lineF n (wordsF true F)) = wordsF true F := words_text true s1
      rw [e2, e2, e3, i2]
    · cases i with
      | zero =>
        simp only [List.getElem?_cons_zero, Option.some.injEq] at hi
        subst hi
        exact ⟨_, rfl, s1, fun g hg => by rw [s2 g hg]; simp⟩
      | succ i =>
        rw [List.getElem?_cons_succ] at hi
        obtain ⟨G, g1, g2, g3⟩ := i3 i X hi
        exact ⟨G, by rw [List.getElem?_cons_succ]; exact g1, g2, fun g hg => by rw [g3 g hg]; push_cast; omega⟩
theorem again_fields (LL : List (List FldV)) (h : FieldsOk LL) : Again 1 LL (fieldsF (joinF LL)) := by
  unfold fieldsF
  rw [lines_join LL h]
  exact again_all 1 LL h
theorem lines_mem (L : List UInt8) : ∀ l ∈ linesL L, ∀ c ∈ l, c ∈ L ∧ c ≠ 10 := by
  induction L with
  | nil => intro l hl c hc; simp [linesL] at hl; subst hl; cases hc
  | cons d L ih =>
    intro l hl c hc
    cases hd : (d == 10) with
    | true =>
      simp only [linesL, hd, if_true] at hl
      rcases List.mem_cons.1 hl with rfl | q
      · cases hc
      · exact ⟨List.mem_cons_of_mem _ (ih l q c hc).1, (ih l q c hc).2⟩
    | false =>
      simp only [linesL, hd, Bool.false_eq_true, if_false] at hl
      cases hL : linesL L with
      | nil => exact absurd hL (lines_ne L)
      | cons h t =>
        rw [hL] at hl ih
        rcases List.mem_cons.1 hl with rfl | q
        · rcases List.mem_cons.1 hc with rfl | k
          · exact ⟨List.mem_cons_self, by simpa using hd⟩
          · have := ih h List.mem_cons_self c k
            exact ⟨List.mem_cons_of_mem _ this.1, this.2⟩
        · have := ih l (List.mem_cons_of_mem _ q) c hc
          exact ⟨List.mem_cons_of_mem _ this.1, this.2⟩
theorem allF_ok (n : Int) (R : List (List UInt8)) (h : ∀ l ∈ R, ∀ c ∈ l, okB c = true ∧ c ≠ 10) : FieldsOk (allF n R) := by
  induction R generalizing n with
  | nil => intro F hF; cases hF
  | cons l R ih =>
    intro F hF
    simp only [allF] at hF
    rcases List.mem_append.1 hF with q | q
    · unfold oneF at q
      cases he : (lineF n l).isEmpty with
      | true => rw [he] at q; simp at q
      | false =>
        rw [he] at q
        simp only [Bool.false_eq_true, if_false, List.mem_singleton] at q
        subst q
        refine ⟨fun e => ?_, ?_⟩
        · rw [e] at he
          exact absurd he (by decide)
        · exact scan_ok n 0 none l (h l List.mem_cons_self) (fun t q h => by cases h)
    · exact ih (n + 1) (fun x hx => h x (List.mem_cons_of_mem _ hx)) F q
theorem read_all {L : List UInt8} (h : readB L = true) : ∀ c ∈ L, okB c = true := by
  rw [readB_eq, Bool.and_eq_true] at h
  exact List.all_eq_true.1 h.1
theorem fields_ok {L : List UInt8} (h : readB L = true) : FieldsOk (fieldsF L) :=
  allF_ok 1 _ (fun l hl c hc => ⟨read_all h c (lines_mem L l hl c hc).1, (lines_mem L l hl c hc).2⟩)
theorem lines_sum (L : List UInt8) : ((linesL L).map (fun l => l.length + 1)).sum = L.length + 1 := by
  induction L with
  | nil => rfl
  | cons c L ih =>
    cases hc : (c == 10) with
    | true => simp only [linesL, hc, if_true, List.map_cons, List.sum_cons, ih, List.length_cons, List.length_nil]; omega
    | false =>
      simp only [linesL, hc, Bool.false_eq_true, if_false]
      cases hL : linesL L with
      | nil => exact absurd hL (lines_ne L)
      | cons h t =>
        rw [hL] at ih
        simp only [List.map_cons, List.sum_cons, List.length_cons] at ih ⊢
        omega
theorem joinF_sum (n : Int) (R : List (List UInt8)) : (joinF (allF n R)).length ≤ 2 * (R.map (fun l => l.length + 1)).sum := by
  induction R generalizing n with
  | nil => exact Nat.le_refl _
  | cons l R ih =>
    have h1 := ih (n + 1)
    have h2 := scan_long n 0 none l
    have h3 := words_weak (scan n 0 none l)
    have h5 : (joinF (oneF n l)).length ≤ 2 * l.length + 1 := by
      unfold oneF
      split
      · exact Nat.zero_le _
      · unfold joinF
        simp only [List.flatMap_cons, List.flatMap_nil, List.append_nil, List.length_append, List.length_cons, List.length_nil]
        unfold lineF
        simp only [Nat.add_zero] at h2
        omega
    simp only [allF, joinF_app, List.length_append, List.map_cons, List.sum_cons]
    omega
theorem join_read {L : List UInt8} (h : readB L = true) (hl : L.length ≤ 5000) : readB (joinF (fieldsF L)) = true ∧ (joinF (fieldsF L)).length ≤ 10002 := by
  have h1 : (joinF (fieldsF L)).length ≤ 10002 := by
    have := joinF_sum 1 (linesL L)
    rw [lines_sum] at this
    unfold fieldsF
    omega
  refine ⟨?_, h1⟩
  rw [readB_eq, Bool.and_eq_true]
  refine ⟨List.all_eq_true.2 fun c hc => ?_, decide_eq_true (by omega)⟩
  unfold joinF at hc
  obtain ⟨F, hF, hm⟩ := List.mem_flatMap.1 hc
  rcases List.mem_append.1 hm with q | q
  · exact (words_ok true F (fields_ok h F hF).2 c q).1
  · rw [List.mem_singleton] at q
    subst q; rfl
end Go.Proofs.YtcaenbobfneejaaGreatDoor
namespace Go.Proofs.YtcaenbobfneejaaGreatDoor
open Go.RowKit
set_option linter.unusedVariables false
set_option linter.unusedSimpArgs false
/-- A text without its lines' ends. -/
def noteB (C : List UInt8) : List UInt8 := C.filter (fun c => !(c == 10))
theorem note_le (C : List UInt8) : (noteB C).length ≤ C.length := List.length_filter_le _ _
theorem note_mem {C : List UInt8} {c : UInt8} (h : c ∈ noteB C) : c ∈ C ∧ c ≠ 10 := by
  unfold noteB at h
  rw [List.mem_filter] at h
  exact ⟨h.1, by simpa using h.2⟩
theorem note_next {C : List UInt8} {i : Nat} {c : UInt8} (h : C[i]? = some c) : noteB (C.take (i + 1)) = noteB (C.take i) ++ (if c == 10 then [] else [c]) := by
  obtain ⟨hi, rfl⟩ := List.getElem?_eq_some_iff.1 h
  unfold noteB
  rw [List.take_succ_eq_append_getElem hi, List.filter_append]
  congr 1
  cases hc : (C[i] == 10) <;> simp [hc]
/-- What stands for one byte. -/
def rmk1 (N : List UInt8) (c : UInt8) : List UInt8 := if c == 10 then 32 :: 35 :: (N ++ [10]) else [c]
def rmkP (N B : List UInt8) : List UInt8 := B.flatMap (rmk1 N)
def rmkF (N B : List UInt8) : List UInt8 := rmkP N B ++ 32 :: 35 :: N
theorem rmkP_next {N B : List UInt8} {i : Nat} {c : UInt8} (h : B[i]? = some c) : rmkP N (B.take (i + 1)) = rmkP N (B.take i) ++ rmk1 N c := by
  obtain ⟨hi, rfl⟩ := List.getElem?_eq_some_iff.1 h
  unfold rmkP
  rw [List.take_succ_eq_append_getElem hi, List.flatMap_append]
  simp
theorem rmk1_le (N : List UInt8) (c : UInt8) : (rmk1 N c).length ≤ N.length + 3 := by
  unfold rmk1
  split <;> simp
theorem rmkP_le (N B : List UInt8) : (rmkP N B).length ≤ B.length * (N.length + 3) := by
  unfold rmkP
  induction B with
  | nil => simp
  | cons c B ih =>
    rw [List.flatMap_cons, List.length_append, List.length_cons, Nat.add_mul]
    have := rmk1_le N c
    omega
theorem rmk_ok {N B : List UInt8} (hN : ∀ c ∈ N, okB c = true) (hB : ∀ c ∈ B, okB c = true) : ∀ c ∈ rmkF N B, okB c = true := by
  intro c hc
  unfold rmkF rmkP at hc
  rw [List.mem_append, List.mem_flatMap] at hc
  rcases hc with ⟨d, hd, hc⟩ | hc
  · unfold rmk1 at hc
    split at hc
    · simp only [List.mem_cons, List.mem_append, List.not_mem_nil, or_false] at hc
      rcases hc with rfl | rfl | h | rfl
      · decide
      · decide
      · exact hN c h
      · decide
    · simp only [List.mem_cons, List.not_mem_nil, or_false] at hc
      rw [hc]; exact hB d hd
  · simp only [List.mem_cons] at hc
    rcases hc with rfl | rfl | h
    · decide
    · decide
    · exact hN c h
theorem rmk_lines {N : List UInt8} (hN : ∀ c ∈ N, c ≠ 10) (B : List UInt8) : linesL (rmkF N B) = (linesL B).map (· ++ 32 :: 35 :: N) := by
  have h0 : ∀ c ∈ (32 : UInt8) :: 35 :: N, c ≠ 10 := by
    intro c hc
    simp only [List.mem_cons] at hc
    rcases hc with rfl | rfl | h
    · decide
    · decide
    · exact hN c h
  induction B with
  | nil => show linesL (32 :: 35 :: N) = _; rw [linesL_one h0]; rfl
  | cons c B ih =>
    cases hc : (c == 10) with
    | true =>
      have e : rmkF N (c :: B) = (32 :: 35 :: N) ++ 10 :: rmkF N B := by
        unfold rmkF rmkP rmk1
        rw [List.flatMap_cons]
        simp only [hc, if_true, List.cons_append, List.append_assoc, List.nil_append]
      rw [e, lines_two, linesL_one h0, ih]
      simp only [linesL, hc, if_true, List.map_cons, List.nil_append, List.cons_append]
    | false =>
      have e : rmkF N (c :: B) = c :: rmkF N B := by
        unfold rmkF rmkP
        rw [List.flatMap_cons]
        simp only [rmk1, hc, Bool.false_eq_true, if_false, List.cons_append, List.nil_append]
      rw [e]
      simp only [linesL, hc, Bool.false_eq_true, if_false, ih]
      cases hL : linesL B with
      | nil => exact absurd hL (lines_ne B)
      | cons h t => rfl
theorem scan_rmk (N : List UInt8) (n : Int) (p : Nat) (o : Option (List UInt8 × Nat)) (L : List UInt8) : scan n p o (L ++ 32 :: 35 :: N) = scan n p o L := by
  have h32 : blankB 32 = true := by decide
  have h35 : blankB 35 = false := by decide
  induction L generalizing p o with
  | nil =>
    rcases o with _ | ⟨t, q⟩
    · simp [scan, h32, h35]
    · simp [scan, h32, h35]
  | cons c l ih =>
    rcases o with _ | ⟨t, q⟩
    · simp only [List.cons_append, scan, ih]
    · simp only [List.cons_append, scan, ih]
theorem allF_rmk (N : List UInt8) (n : Int) (R : List (List UInt8)) : allF n (R.map (· ++ 32 :: 35 :: N)) = allF n R := by
  induction R generalizing n with
  | nil => rfl
  | cons l R ih =>
    simp only [List.map_cons, allF, ih]
    congr 1
    unfold oneF lineF
    rw [scan_rmk]
theorem rmk_fields (C B : List UInt8) : fieldsF (rmkF (noteB C) B) = fieldsF B := by
  unfold fieldsF
  rw [rmk_lines (fun c hc => (note_mem hc).2), allF_rmk]
theorem rmk_read {C B : List UInt8} (hC : readB C = true) (hB : readB B = true) (hl : (rmkF (noteB C) B).length ≤ 65536) : readB (rmkF (noteB C) B) = true := by
  have h := rmk_ok (fun c hc => read_all hC c (note_mem hc).1) (read_all hB)
  unfold readB
  rw [Bool.and_eq_true]
  refine ⟨List.all_eq_true.2 (fun c hc => h c hc), decide_eq_true hl⟩
end Go.Proofs.YtcaenbobfneejaaGreatDoor
