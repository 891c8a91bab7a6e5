
/- bilgeref04.Lines, step by step: the maths: what is still to come (restF). -/
import Derived.Test.YtlgmgmnhmagolaaDoorLexJoinM
namespace Go.Proofs.YtlgmgmnhmagolaaDoor
open Go.RowKit
set_option linter.unusedVariables false
set_option linter.unusedSimpArgs false
/-- What the reference answers beyond what it has: in line n, p bytes into it, behind a remark or not, 'now' the fields of this line so far, L what is left. -/
def restF (n : Int) (p : Nat) (rem : Bool) (now : List FldV) (L : List UInt8) : List (List FldV) := match linesL L with
  | [] => []
  | h :: t => curL (now ++ (if rem then [] else scan n p none h)) ++ allF (n + 1) t
theorem rest_all (L : List UInt8) (n : Int) : restF n 0 false [] L = allF n (linesL L) := by
  unfold restF
  cases linesL L with
  | nil => rfl
  | cons h t => rfl
theorem rest_start (L : List UInt8) : restF 1 0 false [] L = fieldsF L := rest_all L 1
theorem rest_end (n : Int) (p : Nat) (rem : Bool) (now : List FldV) : restF n p rem now [] = curL now := by
  unfold restF
  cases rem <;> simp [linesL, scan, allF]
theorem rest_line (n : Int) (p : Nat) (rem : Bool) (now : List FldV) (L : List UInt8) : restF n p rem now (10 :: L) = curL now ++ restF (n + 1) 0 false [] L := by
  rw [rest_all]
  unfold restF
  cases rem <;> simp [linesL, scan]
theorem lines_cons {c : UInt8} (L : List UInt8) (hc : (c == 10) = false) : ∃ h t, linesL L = h :: t ∧ linesL (c :: L) = (c :: h) :: t := by
  cases hL : linesL L with
  | nil => exact absurd hL (lines_ne L)
  | cons h t => exact ⟨h, t, rfl, by simp only [linesL, hc, Bool.false_eq_true, if_false, hL]⟩
theorem rest_skip {c : UInt8} (n : Int) (p : Nat) (now : List FldV) (L : List UInt8) (hc : (c == 10) = false) : restF n p true now (c :: L) = restF n (p + 1) true now L := by
  obtain ⟨h, t, h1, h2⟩ := lines_cons L hc
  unfold restF
  rw [h1, h2]; simp
theorem rest_blank {c : UInt8} (n : Int) (p : Nat) (now : List FldV) (L : List UInt8) (hc : (c == 10) = false) (hb : blankB c = true) : restF n p false now (c :: L) = restF n (p + 1) false now L := by
  obtain ⟨h, t, h1, h2⟩ := lines_cons L hc
  unfold restF
  rw [h1, h2]
  simp only [scan, hb, if_true]
theorem rest_remark (n : Int) (p : Nat) (now : List FldV) (L : List UInt8) : restF n p false now (35 :: L) = restF n p true now (35 :: L) := by
  obtain ⟨h, t, h1, h2⟩ := lines_cons (c := 35) L rfl
  unfold restF
  rw [h2]
  have hb : blankB 35 = false := rfl
  have hc : ((35 : UInt8) == 35) = true := rfl
  simp only [scan, hb, hc, Bool.false_eq_true, if_false, if_true]
theorem lines_pre (x M : List UInt8) (hx : ∀ c ∈ x, c ≠ 10) : ∃ h t, linesL M = h :: t ∧ linesL (x ++ M) = (x ++ h) :: t := by
  induction x with
  | nil =>
    cases hM : linesL M with
    | nil => exact absurd hM (lines_ne M)
    | cons h t => exact ⟨h, t, rfl, by simpa using hM⟩
  | cons c x ih =>
    obtain ⟨h, t, h1, h2⟩ := ih (fun y hy => hx y (List.mem_cons_of_mem _ hy))
    have hc : (c == 10) = false := by simpa using hx c List.mem_cons_self
    exact ⟨h, t, h1, by simp only [List.cons_append, linesL, hc, Bool.false_eq_true, if_false, h2]⟩
theorem take_wordB {t rest : List UInt8} (h : ∀ c ∈ t, blankB c = false) (hr : rest = [] ∨ ∃ d r, rest = d :: r ∧ blankB d = true) : (t ++ rest).takeWhile (fun c => !blankB c) = t := by
  induction t with
  | nil =>
    rcases hr with rfl | ⟨d, r, rfl, hd⟩
    · rfl
    · rw [List.nil_append, List.takeWhile_cons_of_neg (by simp [hd])]
  | cons c t ih =>
    rw [List.cons_append, List.takeWhile_cons_of_pos (by simp [h c List.mem_cons_self]), ih (fun x hx => h x (List.mem_cons_of_mem _ hx))]
theorem scan_wordB {c : UInt8} {t rest : List UInt8} (h : ∀ x ∈ c :: t, blankB x = false) (h35 : (c == 35) = false) (n : Int) (p : Nat) (hr : rest = [] ∨ ∃ d r, rest = d :: r ∧ blankB d = true) :
    scan n p none ((c :: t) ++ rest) = ⟨c :: t, n, (p : Int) + 1⟩ :: scan n (p + (c :: t).length) none rest := by
  have hb := h c List.mem_cons_self
  rw [List.cons_append]
  simp only [scan, hb, h35, Bool.false_eq_true, if_false]
  rw [scan_run, take_wordB (fun x hx => h x (List.mem_cons_of_mem _ hx)) hr, List.cons_append, List.nil_append, List.length_cons]
  congr 1
  rw [← List.drop_drop, List.drop_left]
  rcases hr with rfl | ⟨d, r, rfl, hd⟩
  · rfl
  · rw [show p + (t.length + 1) = p + 1 + t.length by omega]
    simp only [scan, hd, if_true, List.drop_succ_cons, List.drop_zero]
/-- A byte that may be read is beyond 32, or parts fields, or ends a line. -/
theorem over32 {c : UInt8} (h : okB c = true) : (decide (32 < c.toNat) = true → blankB c = false ∧ c ≠ 10) ∧ (decide (32 < c.toNat) = false → blankB c = true ∨ c = 10) := by
  constructor
  · intro hd
    have h1 : 32 < c.toNat := by simpa using hd
    have key : ∀ k : UInt8, k.toNat ≤ 32 → (c == k) = false := fun k hk => by
      cases hc : (c == k) with
      | false => rfl
      | true => rw [show c = k by simpa using hc] at h1; omega
    refine ⟨?_, fun e => by rw [e] at h1; exact absurd h1 (by decide)⟩
    unfold blankB
    rw [key 32 (by decide), key 9 (by decide), key 13 (by decide)]; rfl
  · intro hd
    have h1 : ¬ 32 < c.toNat := by simpa using hd
    unfold okB at h
    cases h10 : (c == 10) with
    | true => exact .inr (by simpa using h10)
    | false =>
      cases hb : blankB c with
      | true => exact .inl rfl
      | false =>
        rw [h10, hb] at h
        simp only [Bool.false_or, Bool.and_eq_true, decide_eq_true_eq] at h
        have h32 : c = 32 := by rw [← UInt8.toNat_inj]; show c.toNat = 32; omega
        rw [h32] at hb; cases hb
theorem rest_field {c : UInt8} (n : Int) (p : Nat) (now : List FldV) (L : List UInt8) (hok : ∀ x ∈ c :: L, okB x = true) (hc : decide (32 < c.toNat) = true) (h35 : (c == 35) = false) :
    restF n p false now (c :: L) = restF n (p + ((c :: L).takeWhile (fun x => decide (32 < x.toNat))).length) false (now ++ [⟨(c :: L).takeWhile (fun x => decide (32 < x.toNat)), n, (p : Int) + 1⟩]) ((c :: L).drop ((c :: L).takeWhile (fun x => decide (32 < x.toNat))).length) := by
  obtain ⟨wd, hwd⟩ : ∃ x, L.takeWhile (fun x => decide (32 < x.toNat)) = x := ⟨_, rfl⟩
  have e : (c :: L).takeWhile (fun x => decide (32 < x.toNat)) = c :: wd := by rw [List.takeWhile_cons_of_pos (p := fun x : UInt8 => decide (32 < x.toNat)) hc, hwd]
  rw [e]
  obtain ⟨M, hM⟩ : ∃ x, L.dropWhile (fun x => decide (32 < x.toNat)) = x := ⟨_, rfl⟩
  have hL : L = wd ++ M := by rw [← hwd, ← hM]; exact List.takeWhile_append_dropWhile.symm
  have hdrop : (c :: L).drop (c :: wd).length = M := by rw [hL, ← List.cons_append, List.drop_left]
  rw [hdrop]
  have hword : ∀ x ∈ c :: wd, blankB x = false ∧ x ≠ 10 := fun x hx => by
    rcases List.mem_cons.1 hx with rfl | q
    · exact (over32 (hok _ List.mem_cons_self)).1 hc
    · have q1 : x ∈ L := by rw [hL]; exact List.mem_append_left _ q
      have q2 : decide (32 < x.toNat) = true := by
        rw [← hwd] at q
        exact List.all_eq_true.1 (List.all_takeWhile (p := fun x => decide (32 < x.toNat)) (l := L)) x q
      exact (over32 (hok x (List.mem_cons_of_mem _ q1))).1 q2
  obtain ⟨h, t, h1, h2⟩ := lines_pre (c :: wd) M (fun x hx => (hword x hx).2)
  have hr : h = [] ∨ ∃ d r, h = d :: r ∧ blankB d = true := by
    cases hMM : M with
    | nil => rw [hMM] at h1; simp only [linesL, List.cons.injEq] at h1; exact .inl h1.1.symm
    | cons d r =>
      have hd : decide (32 < d.toNat) = false := by
        have := List.head?_dropWhile_not (fun x : UInt8 => decide (32 < x.toNat)) L
        rw [hM, hMM] at this
        simpa using this
      have hdk : okB d = true := hok d (List.mem_cons_of_mem _ (by rw [hL, hMM]; simp))
      cases h10 : (d == 10) with
      | true =>
        rw [hMM] at h1
        simp only [linesL, h10, if_true, List.cons.injEq] at h1
        exact .inl h1.1.symm
      | false =>
        obtain ⟨h', t', g1, g2⟩ := lines_cons r h10
        rw [hMM, g2] at h1
        simp only [List.cons.injEq] at h1
        refine .inr ⟨d, h', h1.1.symm, ?_⟩
        rcases (over32 hdk).2 hd with q | q
        · exact q
        · rw [q] at h10; cases h10
  unfold restF
  rw [show c :: L = (c :: wd) ++ M by rw [hL]; rfl, h2, h1]
  simp only [Bool.false_eq_true, if_false]
  rw [scan_wordB (fun x hx => (hword x hx).1) h35 n p hr]
  simp
end Go.Proofs.YtlgmgmnhmagolaaDoor
