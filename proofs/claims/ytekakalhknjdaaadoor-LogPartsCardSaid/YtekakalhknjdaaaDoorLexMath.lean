
/- Texts cut into the fields of their lines: plain lists. -/
import Derived.Lib.Split
import Derived.Test.YtekakalhknjdaaaDoorBase
namespace Go.Proofs.YtekakalhknjdaaaDoor
open Go.RowKit
set_option linter.unusedVariables false
set_option linter.unusedSimpArgs false
/-- A field: its bytes, its line and its place there. -/
structure FldV where
  text : List UInt8
  line : Int
  col : Int
instance : Inhabited FldV := ⟨⟨[], 0, 0⟩⟩
def bA (l : List UInt8) : ByteArray := ⟨l.toArray⟩
def FldV.cells (f : FldV) : List Value := [.string (bA f.text), .int .i64 f.line, .int .i64 f.col]
theorem FldV.cells_len (f : FldV) : f.cells.length = 3 := rfl
theorem fld_one (f : FldV) : ∀ v ∈ f.cells, v.oneCell' = true := by
  intro v hv; simp only [FldV.cells, List.mem_cons, List.not_mem_nil, or_false] at hv; rcases hv with rfl | rfl | rfl <;> rfl
def blankB (c : UInt8) : Bool := c == 32 || (c == 9 || c == 13)
/-- The place behind the field that begins at p. -/
def endP (L : List UInt8) (p : Nat) : Nat := p + ((L.drop p).takeWhile (fun c => !blankB c)).length
/-- The fields of what is left of a line: p is the place, cur the field that has begun, and where. -/
def scan (n : Int) : Nat → Option (List UInt8 × Nat) → List UInt8 → List FldV
  | _, none, [] => []
  | _, some (t, q), [] => [⟨t, n, (q : Int) + 1⟩]
  | p, none, c :: l => if blankB c then scan n (p + 1) none l else if c == 35 then [] else scan n (p + 1) (some ([c], p)) l
  | p, some (t, q), c :: l => if blankB c then ⟨t, n, (q : Int) + 1⟩ :: scan n (p + 1) none l else scan n (p + 1) (some (t ++ [c], q)) l
def lineF (n : Int) (L : List UInt8) : List FldV := scan n 0 none L
theorem scan_run (n : Int) (p q : Nat) (t : List UInt8) (L : List UInt8) :
    scan n p (some (t, q)) L = ⟨t ++ L.takeWhile (fun c => !blankB c), n, (q : Int) + 1⟩ :: scan n (p + (L.takeWhile (fun c => !blankB c)).length + 1) none (L.drop ((L.takeWhile (fun c => !blankB c)).length + 1)) := by
  induction L generalizing p t with
  | nil => simp [scan]
  | cons c l ih =>
    cases h : blankB c with
    | true =>
      have e : (c :: l).takeWhile (fun c => !blankB c) = [] := by rw [List.takeWhile_cons_of_neg (by simp [h])]
      rw [e]
      simp [scan, h]
    | false =>
      have e : (c :: l).takeWhile (fun c => !blankB c) = c :: l.takeWhile (fun c => !blankB c) := by rw [List.takeWhile_cons_of_pos (by simp [h])]
      rw [e]
      simp only [scan, h, Bool.false_eq_true, if_false]
      rw [ih]
      simp only [List.append_assoc, List.cons_append, List.nil_append, List.length_cons, List.drop_succ_cons]
      congr 2
      omega
theorem scan_blank {n : Int} {L : List UInt8} {p : Nat} {c : UInt8} (h : L[p]? = some c) (hb : blankB c = true) : scan n p none (L.drop p) = scan n (p + 1) none (L.drop (p + 1)) := by
  obtain ⟨hp, rfl⟩ := List.getElem?_eq_some_iff.1 h
  rw [List.drop_eq_getElem_cons hp]
  simp only [scan, hb, if_true]
theorem scan_remark {n : Int} {L : List UInt8} {p : Nat} {c : UInt8} (h : L[p]? = some c) (hb : blankB c = false) (hc : (c == 35) = true) : scan n p none (L.drop p) = [] := by
  obtain ⟨hp, rfl⟩ := List.getElem?_eq_some_iff.1 h
  rw [List.drop_eq_getElem_cons hp]
  simp only [scan, hb, hc, Bool.false_eq_true, if_false, if_true]
theorem scan_field {n : Int} {L : List UInt8} {p : Nat} {c : UInt8} (h : L[p]? = some c) (hb : blankB c = false) (hc : (c == 35) = false) :
    scan n p none (L.drop p) = ⟨(L.drop p).takeWhile (fun c => !blankB c), n, (p : Int) + 1⟩ :: scan n (endP L p + 1) none (L.drop (endP L p + 1)) := by
  obtain ⟨hp, rfl⟩ := List.getElem?_eq_some_iff.1 h
  unfold endP
  rw [List.drop_eq_getElem_cons hp, List.takeWhile_cons_of_pos (by simp [hb])]
  simp only [scan, hb, hc, Bool.false_eq_true, if_false]
  rw [scan_run]
  simp only [List.cons_append, List.nil_append, List.length_cons, List.drop_drop]
  rw [show p + 1 + (List.takeWhile (fun c => !blankB c) (List.drop (p + 1) L)).length + 1 = p + ((List.takeWhile (fun c => !blankB c) (List.drop (p + 1) L)).length + 1) + 1 by omega]
  congr 3
  omega
theorem scan_end {n : Int} {L : List UInt8} {p : Nat} (h : L.length ≤ p) : scan n p none (L.drop p) = [] := by
  rw [List.drop_eq_nil_of_le h]; rfl
theorem endP_step {L : List UInt8} {p : Nat} {c : UInt8} (h : L[p]? = some c) (hb : blankB c = false) : endP L p = endP L (p + 1) := by
  obtain ⟨hp, rfl⟩ := List.getElem?_eq_some_iff.1 h
  unfold endP
  rw [List.drop_eq_getElem_cons hp, List.takeWhile_cons_of_pos (by simp [hb]), List.length_cons]
  omega
theorem endP_stop {L : List UInt8} {p : Nat} {c : UInt8} (h : L[p]? = some c) (hb : blankB c = true) : endP L p = p := by
  obtain ⟨hp, rfl⟩ := List.getElem?_eq_some_iff.1 h
  unfold endP
  rw [List.drop_eq_getElem_cons hp, List.takeWhile_cons_of_neg (by simp [hb])]
  rfl
theorem endP_over {L : List UInt8} {p : Nat} (h : L.length ≤ p) : endP L p = p := by
  unfold endP
  rw [List.drop_eq_nil_of_le h]; rfl
theorem endP_bd (L : List UInt8) {p : Nat} (h : p ≤ L.length) : p ≤ endP L p ∧ endP L p ≤ L.length := by
  unfold endP
  have := (List.takeWhile_prefix (fun c => !blankB c) (l := L.drop p)).length_le
  rw [List.length_drop] at this
  omega
theorem word_cut (L : List UInt8) {p : Nat} (h : p ≤ L.length) : (L.drop p).takeWhile (fun c => !blankB c) = (L.drop p).take (endP L p - p) := by
  unfold endP
  rw [Nat.add_sub_cancel_left]
  exact (List.prefix_iff_eq_take.1 (List.takeWhile_prefix _))
/-- The lines of a text. -/
def linesL : List UInt8 → List (List UInt8)
  | [] => [[]]
  | c :: l => if c == 10 then [] :: linesL l else match linesL l with
    | [] => [[c]]
    | h :: t => (c :: h) :: t
/-- One line's fields, if it has some. -/
def oneF (n : Int) (L : List UInt8) : List (List FldV) := if (lineF n L).isEmpty then [] else [lineF n L]
def allF : Int → List (List UInt8) → List (List FldV)
  | _, [] => []
  | n, l :: r => oneF n l ++ allF (n + 1) r
theorem allF_next {n : Int} {R : List (List UInt8)} {k : Nat} {L : List UInt8} (h : R[k]? = some L) : allF n (R.take (k + 1)) = allF n (R.take k) ++ oneF (n + k) L := by
  induction R generalizing n k with
  | nil => cases h
  | cons x R ih =>
    cases k with
    | zero =>
      simp only [List.getElem?_cons_zero, Option.some.injEq] at h
      subst h
      simp [allF]
    | succ k =>
      simp only [List.getElem?_cons_succ] at h
      simp only [List.take_succ_cons, allF]
      rw [ih h, List.append_assoc, show n + 1 + (k : Int) = n + ((k + 1 : Nat) : Int) by omega]
def fieldsF (b : List UInt8) : List (List FldV) := allF 1 (linesL b)
def readB (b : List UInt8) : Bool := b.all (fun c => c == 10 || blankB c || (decide (32 ≤ c.toNat) && decide (c.toNat ≤ 126))) && decide (b.length ≤ 65536)
theorem linesL_cut {L : List UInt8} {i : Nat} (h : L[i]? = some 10) (hn : ∀ j, j < i → L[j]? ≠ some 10) : linesL L = L.take i :: linesL (L.drop (i + 1)) := by
  induction L generalizing i with
  | nil => cases h
  | cons c l ih =>
    cases i with
    | zero =>
      simp only [List.getElem?_cons_zero, Option.some.injEq] at h
      subst h
      simp [linesL]
    | succ i =>
      simp only [List.getElem?_cons_succ] at h
      have hc : (c == 10) = false := by
        have := hn 0 (by omega)
        simp only [List.getElem?_cons_zero, ne_eq, Option.some.injEq] at this
        simpa using this
      have := ih h (fun j hj => by have := hn (j + 1) (by omega); simpa using this)
      simp only [linesL, hc, Bool.false_eq_true, if_false, this, List.take_succ_cons, List.drop_succ_cons]
theorem linesL_one {L : List UInt8} (h : ∀ c ∈ L, c ≠ 10) : linesL L = [L] := by
  induction L with
  | nil => rfl
  | cons c l ih =>
    have hc : (c == 10) = false := by simpa using h c (by simp)
    simp only [linesL, hc, Bool.false_eq_true, if_false, ih (fun x hx => h x (by simp [hx]))]
end Go.Proofs.YtekakalhknjdaaaDoor
