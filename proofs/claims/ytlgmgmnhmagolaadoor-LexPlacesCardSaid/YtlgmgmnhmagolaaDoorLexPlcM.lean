
/- Where fields stand: each behind the one ahead, in lines that rise; the walk over a text's lines' ends. -/
import Derived.Test.YtlgmgmnhmagolaaDoorLexTwoM
import Derived.Test.YtlgmgmnhmagolaaDoorLexJoinM
import Derived.Test.YtlgmgmnhmagolaaDoorLexRefM
namespace Go.Proofs.YtlgmgmnhmagolaaDoor
open Go.RowKit
set_option linter.unusedVariables false
set_option linter.unusedSimpArgs false
/-- Fields of a line, one behind the other; e is the first place that they may begin at. -/
def FldsAt (L : List UInt8) (n : Int) : Nat → List FldV → Prop
  | _, [] => True
  | e, f :: F => ∃ q : Nat, f.line = n ∧ f.col = (q : Int) + 1 ∧ e ≤ q ∧ q + f.text.length ≤ L.length ∧ (L.drop q).take f.text.length = f.text ∧ wordOk f.text ∧ FldsAt L n (q + f.text.length + 1) F
theorem FldsAt.mono {L : List UInt8} {n : Int} {e d : Nat} {F : List FldV} (h : FldsAt L n e F) (hd : d ≤ e) : FldsAt L n d F := by
  cases F with
  | nil => exact trivial
  | cons f F =>
    obtain ⟨q, h1, h2, h3, h4⟩ := h
    exact ⟨q, h1, h2, by omega, h4⟩
theorem flds_scan (L : List UInt8) (n : Int) (hL : ∀ c ∈ L, okB c = true ∧ c ≠ 10) : ∀ (k p : Nat), L.length - p ≤ k → p ≤ L.length + 1 → FldsAt L n p (scan n p none (L.drop p)) := by
  intro k
  induction k with
  | zero =>
    intro p hk hp
    rw [scan_end (by omega)]
    exact trivial
  | succ k ih =>
    intro p hk hp
    by_cases hpl : L.length ≤ p
    · rw [scan_end hpl]; exact trivial
    obtain ⟨c, hc⟩ : ∃ c, L[p]? = some c := ⟨L[p]'(by omega), List.getElem?_eq_getElem (by omega)⟩
    cases hb : blankB c with
    | true =>
      rw [scan_blank hc hb]
      exact (ih (p + 1) (by omega) (by omega)).mono (by omega)
    | false =>
      cases h35 : (c == 35) with
      | true => rw [scan_remark hc hb h35]; exact trivial
      | false =>
        have hw := scan_ok n p none (L.drop p) (fun c hc => hL c (List.mem_of_mem_drop hc)) (fun t q h => by cases h)
        rw [scan_field hc hb h35] at hw ⊢
        have hbd := endP_bd L (p := p) (by omega)
        have hcut := word_cut L (p := p) (by omega)
        have hst := endP_step hc hb
        have hbd2 := endP_bd L (p := p + 1) (by omega)
        have hlen : ((L.drop p).takeWhile (fun c => !blankB c)).length = endP L p - p := by unfold endP; omega
        refine ⟨p, rfl, rfl, Nat.le_refl _, ?_, ?_, hw _ List.mem_cons_self, ?_⟩
        · show p + ((L.drop p).takeWhile (fun c => !blankB c)).length ≤ L.length
          omega
        · show (L.drop p).take ((L.drop p).takeWhile (fun c => !blankB c)).length = (L.drop p).takeWhile (fun c => !blankB c)
          rw [hlen]; exact hcut.symm
        · refine (ih (endP L p + 1) (by omega) (by omega)).mono ?_
          show p + ((L.drop p).takeWhile (fun c => !blankB c)).length + 1 ≤ _
          omega
/-- Rows of fields of rising lines; R has the lines, m is the least that comes. -/
def RowsAt (R : List (List UInt8)) : Nat → List (List FldV) → Prop
  | _, [] => True
  | m, F :: T => ∃ (k : Nat) (L : List UInt8), m ≤ k ∧ R[k]? = some L ∧ F ≠ [] ∧ FldsAt L ((k : Int) + 1) 0 F ∧ RowsAt R k T
theorem RowsAt.mono {R : List (List UInt8)} {m d : Nat} {T : List (List FldV)} (h : RowsAt R m T) (hd : d ≤ m) : RowsAt R d T := by
  cases T with
  | nil => exact trivial
  | cons F T =>
    obtain ⟨k, L, h1, h2⟩ := h
    exact ⟨k, L, by omega, h2⟩
theorem rows_all (R : List (List UInt8)) (hR : ∀ l ∈ R, ∀ c ∈ l, okB c = true ∧ c ≠ 10) : ∀ (T : List (List UInt8)) (m : Nat), R.drop m = T → RowsAt R m (allF ((m : Int) + 1) T) := by
  intro T
  induction T with
  | nil => intro m hm; exact trivial
  | cons l T ih =>
    intro m hm
    have hml : m < R.length := by
      have := congrArg List.length hm
      rw [List.length_drop, List.length_cons] at this
      omega
    have hl : R[m]? = some l := by
      have h := List.getElem?_drop (xs := R) (i := m) (j := 0)
      rw [hm] at h
      simpa using h.symm
    have hT : R.drop (m + 1) = T := by rw [← List.tail_drop, hm]; rfl
    have hr := ih (m + 1) hT
    rw [show ((m + 1 : Nat) : Int) + 1 = (m : Int) + 1 + 1 by push_cast; rfl] at hr
    simp only [allF]
    unfold oneF
    cases he : (lineF ((m : Int) + 1) l).isEmpty with
    | true => simp only [if_true, List.nil_append]; exact hr.mono (by omega)
    | false =>
      simp only [Bool.false_eq_true, if_false, List.cons_append, List.nil_append]
      refine ⟨m, l, Nat.le_refl _, hl, fun e => ?_, ?_, hr.mono (by omega)⟩
      · rw [e] at he; exact absurd he (by decide)
      · exact flds_scan l _ (hR l (List.mem_of_getElem? hl)) l.length 0 (by omega) (by omega)
theorem rows_fields {B : List UInt8} (h : readB B = true) : RowsAt (linesL B) 0 (fieldsF B) :=
  rows_all (linesL B) (fun l hl c hc => ⟨read_all h c (lines_mem B l hl c hc).1, (lines_mem B l hl c hc).2⟩) (linesL B) 0 rfl
/-- p is where line number k begins (from 0), and from p to a there is no line's end. -/
def BegAt (B : List UInt8) (k p a : Nat) : Prop := linesL (B.drop p) = (linesL B).drop k ∧ p ≤ a ∧ a ≤ B.length ∧ ∀ j, p ≤ j → j < a → B[j]? ≠ some 10
theorem beg_zero (B : List UInt8) : BegAt B 0 0 0 := ⟨by simp, Nat.le_refl _, by omega, fun j h1 h2 => by omega⟩
theorem beg_skip {B : List UInt8} {k p a : Nat} (h : BegAt B k p a) (ha : a < B.length) (hn : B[a]? ≠ some 10) : BegAt B k p (a + 1) :=
  ⟨h.1, by have := h.2.1; omega, by omega, fun j h1 h2 => by
    by_cases e : j = a
    · rw [e]; exact hn
    · exact h.2.2.2 j h1 (by omega)⟩
theorem beg_next {B : List UInt8} {k p a : Nat} (h : BegAt B k p a) (ha : B[a]? = some 10) : BegAt B (k + 1) (a + 1) (a + 1) := by
  have hal : a < B.length := by obtain ⟨h, _⟩ := List.getElem?_eq_some_iff.1 ha; exact h
  refine ⟨?_, Nat.le_refl _, by omega, fun j h1 h2 => by omega⟩
  have h1 := h.2.1
  have hc := linesL_cut (L := B.drop p) (i := a - p) (by rw [List.getElem?_drop, show p + (a - p) = a by omega]; exact ha) (fun j hj => by rw [List.getElem?_drop]; exact h.2.2.2 _ (by omega) (by omega))
  rw [h.1, List.drop_drop, show p + (a - p + 1) = a + 1 by omega] at hc
  have := congrArg List.tail hc
  rw [List.tail_drop, List.tail_cons] at this
  exact this.symm
theorem beg_end {B : List UInt8} {k p a j : Nat} {L : List UInt8} (h : BegAt B k p a) (ha : ¬ a < B.length) (hj : (linesL B)[j]? = some L) (hk : k ≤ j) : k = j := by
  have hn : ∀ c ∈ B.drop p, c ≠ 10 := by
    intro c hc e
    obtain ⟨i, hi, hx⟩ := List.mem_iff_getElem.1 hc
    rw [List.getElem_drop] at hx
    rw [List.length_drop] at hi
    exact h.2.2.2 (p + i) (by omega) (by omega) (by rw [List.getElem?_eq_getElem (by omega), hx, e])
  have h1 := h.1
  rw [linesL_one hn] at h1
  have h2 := congrArg List.length h1
  rw [List.length_drop] at h2
  simp only [List.length_cons, List.length_nil] at h2
  obtain ⟨h3, _⟩ := List.getElem?_eq_some_iff.1 hj
  omega
theorem lines_head (X : List UInt8) : ∀ L, (linesL X)[0]? = some L → X.take L.length = L := by
  induction X with
  | nil => intro L h; simp only [linesL, List.getElem?_cons_zero, Option.some.injEq] at h; subst h; rfl
  | cons c X ih =>
    intro L h
    cases hc : (c == 10) with
    | true =>
      simp only [linesL, hc, if_true, List.getElem?_cons_zero, Option.some.injEq] at h
      subst h; rfl
    | false =>
      simp only [linesL, hc, Bool.false_eq_true, if_false] at h
      cases hL : linesL X with
      | nil => exact absurd hL (lines_ne X)
      | cons x t =>
        rw [hL] at h ih
        simp only [List.getElem?_cons_zero, Option.some.injEq] at h
        subst h
        rw [List.length_cons, List.take_succ_cons, ih x rfl]
/-- What is told of a text's bytes. -/
theorem word_bytes {t : List UInt8} (h : wordOk t) : ∀ (j : Nat) (c : UInt8), t[j]? = some c → 32 < c.toNat := fun j c hc => by
  obtain ⟨h1, h2, h3⟩ := h.2.1 c (List.mem_of_getElem? hc)
  exact Classical.byContradiction fun hn => ((over32 h2).2 (decide_eq_false hn)).elim (fun k => by rw [k] at h1; cases h1) (fun k => absurd k h3)
theorem word_first {t : List UInt8} (h : wordOk t) : ∃ c r, t = c :: r ∧ (c.toNat : Int) ≠ 35 := by
  obtain ⟨h1, h2, h3⟩ := h
  cases t with
  | nil => exact absurd rfl h1
  | cons c r =>
    refine ⟨c, r, rfl, fun hc => h3 ?_⟩
    have : c = 35 := UInt8.toNat_inj.1 (by show c.toNat = 35; omega)
    rw [this]; rfl
/-- A field of line k stands in the text behind the line's beginning. -/
theorem fld_there {B : List UInt8} {k p a q : Nat} {L : List UInt8} {t : List UInt8} (h : BegAt B k p a) (hL : (linesL B)[k]? = some L) (hq : q + t.length ≤ L.length) (ht : (L.drop q).take t.length = t) :
    p + q + t.length ≤ B.length ∧ (B.drop (p + q)).take t.length = t := by
  have h0 : (linesL (B.drop p))[0]? = some L := by rw [h.1, List.getElem?_drop]; simpa using hL
  have hp := lines_head (B.drop p) L h0
  have hlen : L.length ≤ (B.drop p).length := by
    have := congrArg List.length hp
    rw [List.length_take] at this
    omega
  rw [List.length_drop] at hlen
  have hpl : p ≤ B.length := Nat.le_trans h.2.1 h.2.2.1
  refine ⟨by omega, ?_⟩
  rw [← List.drop_drop]
  have e : (L.drop q).take t.length = (((B.drop p).take L.length).drop q).take t.length := by rw [hp]
  rw [ht, List.drop_take, List.take_take, Nat.min_eq_left (by omega)] at e
  exact e.symm
end Go.Proofs.YtlgmgmnhmagolaaDoor
