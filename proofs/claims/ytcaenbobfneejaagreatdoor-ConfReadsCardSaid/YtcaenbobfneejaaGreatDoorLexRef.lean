
/- bilgeref04.Readable: contract. bilgeref04.Lines, step by step: the maths: what is still to come (restF). bilgeref04.Lines: what it holds on to. bilgeref04.Lines: contract. -/
import Derived.Test.YtcaenbobfneejaaGreatDoorLexCard
import Derived.Test.YtcaenbobfneejaaGreatDoorLexTM
import Derived.Laws.BytesArg
import Derived.Deep.LoopGhost
namespace Go.Proofs.YtcaenbobfneejaaGreatDoor
open Go.RowKit
set_option linter.unusedVariables false
set_option linter.unusedSimpArgs false
theorem okB_num (c : UInt8) (n : Int) (h : (c.toNat : Int) = n) : okB c = decide (n = 9 ∨ n = 10 ∨ n = 13 ∨ (32 ≤ n ∧ n ≤ 126)) := by
  have k1 := byte_eq c 10
  have k2 := byte_eq c 9
  have k3 := byte_eq c 13
  have k4 := byte_eq c 32
  rw [show ((10 : UInt8).toNat : Int) = 10 from rfl] at k1
  rw [show ((9 : UInt8).toNat : Int) = 9 from rfl] at k2
  rw [show ((13 : UInt8).toNat : Int) = 13 from rfl] at k3
  rw [show ((32 : UInt8).toNat : Int) = 32 from rfl] at k4
  rw [h] at k1 k2 k3 k4
  unfold okB blankB
  rw [← k1, ← k2, ← k3, ← k4]
  rw [Bool.eq_iff_iff]
  simp only [Bool.or_eq_true, beq_iff_eq, Bool.and_eq_true, decide_eq_true_eq]
  omega
set_option maxRecDepth 100000 in
set_option maxHeartbeats 4000000 in
theorem rlex_Readable (a : Option Addr) (len cap : Nat) (L : List UInt8) (w : World) (hI : Ints .u8 w a len cap (numsL L)) : Calls Tryz.prog 16 #[.slice a len cap] w fun e w' => e = .returned (.bool (readB L)) ∧ w = w' := by
  have hb := hI.bounds
  obtain ⟨hb1, hb2, hb3⟩ := hb
  have hl : L.length = len := by simpa [numsL] using hb1
  clear hb1
  subst hl
  have hcell : ∀ k (h : k < L.length), ∃ b off, a = some ⟨b, off, none⟩ ∧ w.cell? ⟨b, off + k, none⟩ = some (.int .u8 (L[k].toNat : Int)) := by
    intro k h
    obtain ⟨b, off, ha, _, hc⟩ := hI.opened (by omega)
    refine ⟨b, off, ha, ?_⟩
    rw [hc k h]
    simp [numsL, el, List.getD, List.getElem?_eq_getElem h]
  have HC := Lib.hid hcell
  clear hcell hI
  go_enter Tryz.func16, Tryz.ntmps16
  go_wp2
  go_loopg [3] L.length (fun g i wr => ∃ k : Nat, k + g = L.length ∧ i = .int .i64 k ∧ Hid ((L.take k).all okB = true) ∧ w = wr)
  case atStart => exact ⟨0, by omega, rfl, Lib.hid rfl, rfl⟩
  case round =>
    obtain ⟨k, hkg, rfl, HE, rfl⟩ := hrel
    cases gk with
    | zero =>
      obtain rfl : k = L.length := by omega
      have hd : decide ((L.length : Int) < (L.length : Int)) = false := decide_eq_false (by omega)
      have HR := Lib.hid (show readB L = decide (L.length ≤ 65536) by rw [readB_eq]; have := HE.out; rw [List.take_length] at this; rw [this]; rfl)
      by_cases h6 : (L.length : Int) ≤ 65536
      · have HR2 := Lib.hid (show readB L = true by rw [HR.out]; exact decide_eq_true (by omega))
        go_wp2
        go_ret
        exact ⟨ret_bool HR2.out.symm, by first | rfl | trivial⟩
      · have HR2 := Lib.hid (show readB L = false by rw [HR.out]; exact decide_eq_false (by omega))
        go_wp2
        go_ret
        exact ⟨ret_bool HR2.out.symm, by first | rfl | trivial⟩
    | succ g =>
      have hlt : k < L.length := by omega
      obtain ⟨b, off, rfl, hc⟩ := HC.out k hlt
      have hd : decide ((k : Int) < (L.length : Int)) = true := decide_eq_true (by omega)
      have hki : (k : Int) < (L.length : Int) := by omega
      have hk0 : (0 : Int) ≤ (k : Int) := by omega
      have hx : L[k]? = some L[k] := List.getElem?_eq_getElem hlt
      have HX := Lib.hid (show (L.take (k + 1)).all okB = ((L.take k).all okB && okB L[k]) by rw [List.take_add_one, hx, List.all_append]; simp)
      have HBAD := Lib.hid (show okB L[k] = false → readB L = false from fun h => by
        rw [readB_eq]
        have : L.all okB = false := by
          rw [List.all_eq_false]
          exact ⟨L[k], List.getElem_mem hlt, by rw [h]; simp⟩
        rw [this]; rfl)
      clear hx
      generalize L[k] = c at *
      obtain ⟨n, hn⟩ : ∃ n, (c.toNat : Int) = n := ⟨_, rfl⟩
      have HOK := Lib.hid (okB_num c n hn)
      rw [hn] at hc
      have hn0 : 0 ≤ n := by omega
      clear hn
      have good : n = 9 ∨ n = 10 ∨ n = 13 ∨ (n ≠ 9 ∧ n ≠ 10 ∧ n ≠ 13 ∧ n < 32) ∨ (n ≠ 9 ∧ n ≠ 10 ∧ n ≠ 13 ∧ ¬ n < 32 ∧ 126 < n) ∨ (n ≠ 9 ∧ n ≠ 10 ∧ n ≠ 13 ∧ ¬ n < 32 ∧ ¬ 126 < n) := by omega
      rcases good with rfl | rfl | rfl | ⟨m1, m2, m3, m4⟩ | ⟨m1, m2, m3, m4, m5⟩ | ⟨m1, m2, m3, m4, m5⟩
      · have HN := Lib.hid (show (L.take (k + 1)).all okB = true by rw [HX.out, HE.out, HOK.out]; decide)
        go_wp2
        go_roundg g
        case rel => exact ⟨k + 1, by omega, by push_cast; rfl, HN, by first | rfl | trivial⟩
        case measure => omega
      · have HN := Lib.hid (show (L.take (k + 1)).all okB = true by rw [HX.out, HE.out, HOK.out]; decide)
        go_wp2
        go_roundg g
        case rel => exact ⟨k + 1, by omega, by push_cast; rfl, HN, by first | rfl | trivial⟩
        case measure => omega
      · have HN := Lib.hid (show (L.take (k + 1)).all okB = true by rw [HX.out, HE.out, HOK.out]; decide)
        go_wp2
        go_roundg g
        case rel => exact ⟨k + 1, by omega, by push_cast; rfl, HN, by first | rfl | trivial⟩
        case measure => omega
      · have HN := Lib.hid (HBAD.out (by rw [HOK.out]; exact decide_eq_false (by omega)))
        have p1 : (n == 9) = false := by simpa using m1
        have p2 : (n == 10) = false := by simpa using m2
        have p3 : (n == 13) = false := by simpa using m3
        have p4 : decide ((32 : Int) ≤ n) = false := decide_eq_false (by omega)
        have p5 : ¬ (32 : Int) ≤ n := by omega
        go_wp2
        go_ret
        exact ⟨ret_bool HN.out.symm, by first | rfl | trivial⟩
      · have HN := Lib.hid (HBAD.out (by rw [HOK.out]; exact decide_eq_false (by omega)))
        have p1 : (n == 9) = false := by simpa using m1
        have p2 : (n == 10) = false := by simpa using m2
        have p3 : (n == 13) = false := by simpa using m3
        have p4 : decide ((32 : Int) ≤ n) = true := decide_eq_true (by omega)
        have p5 : (32 : Int) ≤ n := by omega
        have p6 : decide (n ≤ (126 : Int)) = false := decide_eq_false (by omega)
        have p7 : ¬ n ≤ 126 := by omega
        go_wp2
        go_ret
        exact ⟨ret_bool HN.out.symm, by first | rfl | trivial⟩
      · have HN := Lib.hid (show (L.take (k + 1)).all okB = true by rw [HX.out, HE.out, HOK.out]; simp; omega)
        have p1 : (n == 9) = false := by simpa using m1
        have p2 : (n == 10) = false := by simpa using m2
        have p3 : (n == 13) = false := by simpa using m3
        have p4 : decide ((32 : Int) ≤ n) = true := decide_eq_true (by omega)
        have p5 : (32 : Int) ≤ n := by omega
        have p6 : decide (n ≤ (126 : Int)) = true := decide_eq_true (by omega)
        have p7 : n ≤ 126 := by omega
        go_wp2
        go_roundg g
        case rel => exact ⟨k + 1, by omega, by push_cast; rfl, HN, by first | rfl | trivial⟩
        case measure => omega
end Go.Proofs.YtcaenbobfneejaaGreatDoor
namespace Go.Proofs.YtcaenbobfneejaaGreatDoor
open Go.RowKit
set_option linter.unusedVariables false
set_option linter.unusedSimpArgs false
/-- What the reference answers beyond what it has: in line n, p bytes into it, behind a remark or not, 'now' the fields of this line so far, L what is left. -/
def restF (n : Int) (p : Nat) (rem : Bool) (now : List FldV) (L : List UInt8) : List (List FldV) := match linesL L with
  | [] => []
  | h :: t => curL (now ++ (if rem then [] else scan n p none h)) ++ allF (n + 1) t
theorem rest_all (L : List UInt8) (n : Int) : restF n 0 false [] L = allF n (linesL L) := by
  unfold restF
  cases linesL L with
  | nil => rfl
  | cons h t => rfl
theorem rest_start (L : List UInt8) : restF 1 0 false [] L = fieldsF L := rest_all L 1
theorem rest_end (n : Int) (p : Nat) (rem : Bool) (now : List FldV) : restF n p rem now [] = curL now := by
  unfold restF
  cases rem <;> simp [linesL, scan, allF]
theorem rest_line (n : Int) (p : Nat) (rem : Bool) (now : List FldV) (L : List UInt8) : restF n p rem now (10 :: L) = curL now ++ restF (n + 1) 0 false [] L := by
  rw [rest_all]
  unfold restF
  cases rem <;> simp [linesL, scan]
theorem lines_cons {c : UInt8} (L : List UInt8) (hc : (c == 10) = false) : ∃ h t, linesL L = h :: t ∧ linesL (c :: L) = (c :: h) :: t := by
  cases hL : linesL L with
  | nil => exact absurd hL (lines_ne L)
  | cons h t => exact ⟨h, t, rfl, by simp only [linesL, hc, Bool.false_eq_true, if_false, hL]⟩
theorem rest_skip {c : UInt8} (n : Int) (p : Nat) (now : List FldV) (L : List UInt8) (hc : (c == 10) = false) : restF n p true now (c :: L) = restF n (p + 1) true now L := by
  obtain ⟨h, t, h1, h2⟩ := lines_cons L hc
  unfold restF
  rw [h1, h2]; simp
theorem rest_blank {c : UInt8} (n : Int) (p : Nat) (now : List FldV) (L : List UInt8) (hc : (c == 10) = false) (hb : blankB c = true) : restF n p false now (c :: L) = restF n (p + 1) false now L := by
  obtain ⟨h, t, h1, h2⟩ := lines_cons L hc
  unfold restF
  rw [h1, h2]
  simp only [scan, hb, if_true]
theorem rest_remark (n : Int) (p : Nat) (now : List FldV) (L : List UInt8) : restF n p false now (35 :: L) = restF n p true now (35 :: L) := by
  obtain ⟨h, t, h1, h2⟩ := lines_cons (c := 35) L rfl
  unfold restF
  rw [h2]
  have hb : blankB 35 = false := rfl
  have hc : ((35 : UInt8) == 35) = true := rfl
  simp only [scan, hb, hc, Bool.false_eq_true, if_false, if_true]
theorem lines_pre (x M : List UInt8) (hx : ∀ c ∈ x, c ≠ 10) : ∃ h t, linesL M = h :: t ∧ linesL (x ++ M) = (x ++ h) :: t := by
  induction x with
  | nil =>
    cases hM : linesL M with
    | nil => exact absurd hM (lines_ne M)
    | cons h t => exact ⟨h, t, rfl, by simpa using hM⟩
  | cons c x ih =>
    obtain ⟨h, t, h1, h2⟩ := ih (fun y hy => hx y (List.mem_cons_of_mem _ hy))
    have hc : (c == 10) = false := by simpa using hx c List.mem_cons_self
    exact ⟨h, t, h1, by simp only [List.cons_append, linesL, hc, Bool.false_eq_true, if_false, h2]⟩
theorem take_wordB {t rest : List UInt8} (h : ∀ c ∈ t, blankB c = false) (hr : rest = [] ∨ ∃ d r, rest = d :: r ∧ blankB d = true) : (t ++ rest).takeWhile (fun c => !blankB c) = t := by
  induction t with
  | nil =>
    rcases hr with rfl | ⟨d, r, rfl, hd⟩
    · rfl
    · rw [List.nil_append, List.takeWhile_cons_of_neg (by simp [hd])]
  | cons c t ih =>
    rw [List.cons_append, List.takeWhile_cons_of_pos (by simp [h c List.mem_cons_self]), ih (fun x hx => h x (List.mem_cons_of_mem _ hx))]
theorem scan_wordB {c : UInt8} {t rest : List UInt8} (h : ∀ x ∈ c :: t, blankB x = false) (h35 : (c == 35) = false) (n : Int) (p : Nat) (hr : rest = [] ∨ ∃ d r, rest = d :: r ∧ blankB d = true) :
    scan n p none ((c :: t) ++ rest) = ⟨c :: t, n, (p : Int) + 1⟩ :: scan n (p + (c :: t).length) none rest := by
  have hb := h c List.mem_cons_self
  rw [List.cons_append]
  simp only [scan, hb, h35, Bool.false_eq_true, if_false]
  rw [scan_run, take_wordB (fun x hx => h x (List.mem_cons_of_mem _ hx)) hr, List.cons_append, List.nil_append, List.length_cons]
  congr 1
  rw [← List.drop_drop, List.drop_left]
  rcases hr with rfl | ⟨d, r, rfl, hd⟩
  · rfl
  · rw [show p + (t.length + 1) = p + 1 + t.length by omega]
    simp only [scan, hd, if_true, List.drop_succ_cons, List.drop_zero]
/-- A byte that may be read is beyond 32, or parts fields, or ends a line. -/
theorem over32 {c : UInt8} (h : okB c = true) : (decide (32 < c.toNat) = true → blankB c = false ∧ c ≠ 10) ∧ (decide (32 < c.toNat) = false → blankB c = true ∨ c = 10) := by
  constructor
  · intro hd
    have h1 : 32 < c.toNat := by simpa using hd
    have key : ∀ k : UInt8, k.toNat ≤ 32 → (c == k) = false := fun k hk => by
      cases hc : (c == k) with
      | false => rfl
      | true => rw [show c = k by simpa using hc] at h1; omega
    refine ⟨?_, fun e => by rw [e] at h1; exact absurd h1 (by decide)⟩
    unfold blankB
    rw [key 32 (by decide), key 9 (by decide), key 13 (by decide)]; rfl
  · intro hd
    have h1 : ¬ 32 < c.toNat := by simpa using hd
    unfold okB at h
    cases h10 : (c == 10) with
    | true => exact .inr (by simpa using h10)
    | false =>
      cases hb : blankB c with
      | true => exact .inl rfl
      | false =>
        rw [h10, hb] at h
        simp only [Bool.false_or, Bool.and_eq_true, decide_eq_true_eq] at h
        have h32 : c = 32 := by rw [← UInt8.toNat_inj]; show c.toNat = 32; omega
        rw [h32] at hb; cases hb
theorem rest_field {c : UInt8} (n : Int) (p : Nat) (now : List FldV) (L : List UInt8) (hok : ∀ x ∈ c :: L, okB x = true) (hc : decide (32 < c.toNat) = true) (h35 : (c == 35) = false) :
    restF n p false now (c :: L) = restF n (p + ((c :: L).takeWhile (fun x => decide (32 < x.toNat))).length) false (now ++ [⟨(c :: L).takeWhile (fun x => decide (32 < x.toNat)), n, (p : Int) + 1⟩]) ((c :: L).drop ((c :: L).takeWhile (fun x => decide (32 < x.toNat))).length) := by
  obtain ⟨wd, hwd⟩ : ∃ x, L.takeWhile (fun x => decide (32 < x.toNat)) = x := ⟨_, rfl⟩
  have e : (c :: L).takeWhile (fun x => decide (32 < x.toNat)) = c :: wd := by rw [List.takeWhile_cons_of_pos (p := fun x : UInt8 => decide (32 < x.toNat)) hc, hwd]
  rw [e]
  obtain ⟨M, hM⟩ : ∃ x, L.dropWhile (fun x => decide (32 < x.toNat)) = x := ⟨_, rfl⟩
  have hL : L = wd ++ M := by rw [← hwd, ← hM]; exact List.takeWhile_append_dropWhile.symm
  have hdrop : (c :: L).drop (c :: wd).length = M := by rw [hL, ← List.cons_append, List.drop_left]
  rw [hdrop]
  have hword : ∀ x ∈ c :: wd, blankB x = false ∧ x ≠ 10 := fun x hx => by
    rcases List.mem_cons.1 hx with rfl | q
    · exact (over32 (hok _ List.mem_cons_self)).1 hc
    · have q1 : x ∈ L := by rw [hL]; exact List.mem_append_left _ q
      have q2 : decide (32 < x.toNat) = true := by
        rw [← hwd] at q
        exact List.all_eq_true.1 (List.all_takeWhile (p := fun x => decide (32 < x.toNat)) (l := L)) x q
      exact (over32 (hok x (List.mem_cons_of_mem _ q1))).1 q2
  obtain ⟨h, t, h1, h2⟩ := lines_pre (c :: wd) M (fun x hx => (hword x hx).2)
  have hr : h = [] ∨ ∃ d r, h = d :: r ∧ blankB d = true := by
    cases hMM : M with
    | nil => rw [hMM] at h1; simp only [linesL, List.cons.injEq] at h1; exact .inl h1.1.symm
    | cons d r =>
      have hd : decide (32 < d.toNat) = false := by
        have := List.head?_dropWhile_not (fun x : UInt8 => decide (32 < x.toNat)) L
        rw [hM, hMM] at this
        simpa using this
      have hdk : okB d = true := hok d (List.mem_cons_of_mem _ (by rw [hL, hMM]; simp))
      cases h10 : (d == 10) with
      | true =>
        rw [hMM] at h1
        simp only [linesL, h10, if_true, List.cons.injEq] at h1
        exact .inl h1.1.symm
      | false =>
        obtain ⟨h', t', g1, g2⟩ := lines_cons r h10
        rw [hMM, g2] at h1
        simp only [List.cons.injEq] at h1
        refine .inr ⟨d, h', h1.1.symm, ?_⟩
        rcases (over32 hdk).2 hd with q | q
        · exact q
        · rw [q] at h10; cases h10
  unfold restF
  rw [show c :: L = (c :: wd) ++ M by rw [hL]; rfl, h2, h1]
  simp only [Bool.false_eq_true, if_false]
  rw [scan_wordB (fun x hx => (hword x hx).1) h35 n p hr]
  simp
end Go.Proofs.YtcaenbobfneejaaGreatDoor
namespace Go.Proofs.YtcaenbobfneejaaGreatDoor
open Go.RowKit
set_option linter.unusedVariables false
set_option linter.unusedSimpArgs false
theorem Ints.drop {k : IntKind} {w : World} {b off len cap : Nat} {l : List Int} (h : Ints k w (some ⟨b, off, none⟩) len cap l) {n : Nat} (hn : n ≤ len) : Ints k w (some ⟨b, off + n, none⟩) (len - n) (cap - n) (l.drop n) := by
  obtain ⟨⟨h1, h2, h3, h4, h5⟩, hw⟩ := h
  simp at h1
  refine ⟨⟨by simp; omega, by omega, by omega, (fun e => by cases e), ?_⟩, fun m hm => hw m (List.mem_of_mem_drop hm)⟩
  rcases h5 with h5 | ⟨b', off', e, hc⟩
  · simp at h5; subst h5; left; simp
  · right
    cases e
    refine ⟨b, off + n, rfl, fun i hi => ?_⟩
    simp at hi
    rw [Nat.add_assoc, hc (n + i) (by simp; omega)]
    simp [List.getElem?_drop]
theorem Ints.take {k : IntKind} {w : World} {a : Option Addr} {len cap : Nat} {l : List Int} (h : Ints k w a len cap l) {n : Nat} (hn : n ≤ len) (ha : a ≠ none) : Ints k w a n cap (l.take n) := by
  obtain ⟨⟨h1, h2, h3, h4, h5⟩, hw⟩ := h
  simp at h1
  refine ⟨⟨by simp; omega, by omega, h3, fun e => absurd e ha, ?_⟩, fun m hm => hw m (List.mem_of_mem_take hm)⟩
  rcases h5 with h5 | ⟨b, off, e, hc⟩
  · left; simp at h5; subst h5; simp
  · right
    refine ⟨b, off, e, fun i hi => ?_⟩
    simp at hi
    rw [hc i (by simp; omega)]
    simp [hi]
theorem conv_sub {w : World} {b off len cap : Nat} {L : List UInt8} (h : Ints .u8 w (some ⟨b, off, none⟩) len cap (numsL L)) {i j : Nat} (hij : i ≤ j) (hj : j ≤ len) : (convert 22 9 (.slice (some ⟨b, off + i, none⟩) (j - i) (cap - i))).run Tryz.prog w = .ok (.string (bA ((L.drop i).take (j - i)))) w := by
  have hl := h.bounds
  have h2 := (Ints.drop h (n := i) (by omega)).take (n := j - i) (by omega) (by simp)
  rw [show ((numsL L).drop i).take (j - i) = numsL ((L.drop i).take (j - i)) by unfold numsL; simp [List.map_drop, List.map_take]] at h2
  have h3 := conv_str h2
  rwa [str_nums] at h3
theorem RowsF.mem {w : World} {B : Nat} {v : Value} {LL : List (List FldV)} {vs : List Value} (h : RowsF w B v LL vs) {x : Value} (hx : x ∈ vs) : ∃ F : List FldV, OwnR w B 45 3 x F.length (F.flatMap FldV.cells) := by
  obtain ⟨i, hi, rfl⟩ := List.getElem_of_mem hx
  have hl := h.len
  exact ⟨LL[i], h.inn i LL[i] vs[i] (List.getElem?_eq_getElem (by omega)) (List.getElem?_eq_getElem hi)⟩
/-- The rows so far, and the row that grows, apart from all of them. -/
structure Hold (w : World) (B : Nat) (v : Value) (out : List (List FldV)) (vs : List Value) (nv : Value) (now : List FldV) : Prop where
  rows : RowsF w B v out vs
  own : OwnR w B 45 3 nv now.length (now.flatMap FldV.cells)
  sep : ∀ x ∈ vs, Sep nv x
theorem Hold.alloc {w : World} {B : Nat} {v nv : Value} {out : List (List FldV)} {vs : List Value} {now : List FldV} (h : Hold w B v out vs nv now) (o : Obj) : Hold (w.alloc o) B v out vs nv now := ⟨h.rows.alloc o, h.own.alloc o, h.sep⟩
theorem Hold.fresh {w : World} {B : Nat} {v nv : Value} {out : List (List FldV)} {vs : List Value} {now : List FldV} (h : Hold w B v out vs nv now) : Hold w B v out vs (.slice none 0 0) [] := ⟨h.rows, OwnR.nil _ _ _ _, fun x _ => Sep.nilL x⟩
theorem Hold.grow {w w' : World} {B : Nat} {v nv nv' : Value} {out : List (List FldV)} {vs : List Value} {now : List FldV} {f : FldV} (h : Hold w B v out vs nv now)
    (ho : OwnR w' B 45 3 nv' (now.length + 1) (now.flatMap FldV.cells ++ f.cells)) (hg : w.grownBy w' nv.ownBlock) (hm : Moved w nv nv') : Hold w' B v out vs nv' (now ++ [f]) := by
  refine ⟨⟨OwnR.sep h.rows.out hg (own_type_sep h.own h.rows.out (by decide)), fun i F u h1 h2 => OwnR.sep (h.rows.inn i F u h1 h2) hg (h.sep u (List.mem_of_getElem? h2)), h.rows.sep⟩, ?_, fun x hx => ?_⟩
  · rw [List.length_append, List.flatMap_append]
    simpa using ho
  · obtain ⟨F, hF⟩ := h.rows.mem hx
    exact Moved.sep hm hF (h.sep x hx)
theorem Hold.push {w w' : World} {B : Nat} {v v' nv : Value} {out : List (List FldV)} {vs : List Value} {now : List FldV} (h : Hold w B v out vs nv now)
    (ho : OwnR w' B 43 1 v' (out.length + 1) (vs ++ [nv])) (hg : w.grownBy w' v.ownBlock) : Hold w' B v' (out ++ [now]) (vs ++ [nv]) (.slice none 0 0) [] := by
  have hl := h.rows.len
  have hin : ∀ (i : Nat) (F : List FldV) (u : Value), out[i]? = some F → vs[i]? = some u → OwnR w' B 45 3 u F.length (F.flatMap FldV.cells) := fun i F u h1 h2 => by
    have hy := h.rows.inn i F u h1 h2
    exact OwnR.sep hy hg (own_type_sep h.rows.out hy (by decide))
  have hn : OwnR w' B 45 3 nv now.length (now.flatMap FldV.cells) := OwnR.sep h.own hg (own_type_sep h.rows.out h.own (by decide))
  have key : ∀ (i : Nat) (u : Value), (vs ++ [nv])[i]? = some u → (i < vs.length ∧ vs[i]? = some u) ∨ (i = vs.length ∧ u = nv) := fun i u hi => by
    rcases Nat.lt_or_ge i vs.length with q | q
    · rw [List.getElem?_append_left q] at hi; exact .inl ⟨q, hi⟩
    · rw [List.getElem?_append_right q] at hi
      cases hk : i - vs.length with
      | zero => rw [hk] at hi; simp at hi; exact .inr ⟨by omega, hi.symm⟩
      | succ k => rw [hk] at hi; simp at hi
  refine ⟨⟨by rw [List.length_append]; exact ho, fun i F u h1 h2 => ?_, fun i j u x h1 h2 hne => ?_⟩, OwnR.nil _ _ _ _, fun x _ => Sep.nilL x⟩
  · rcases key i u h2 with ⟨q, h3⟩ | ⟨rfl, rfl⟩
    · rw [List.getElem?_append_left (by omega)] at h1
      exact hin i F u h1 h3
    · rw [List.getElem?_append_right (by omega), hl, Nat.sub_self] at h1
      simp at h1
      subst h1
      exact hn
  · rcases key i u h1 with ⟨q, h3⟩ | ⟨q, rfl⟩
    · rcases key j x h2 with ⟨q2, h4⟩ | ⟨q2, rfl⟩
      · exact h.rows.sep i j u x h3 h4 hne
      · exact (h.sep u (List.mem_of_getElem? h3)).symm
    · rcases key j x h2 with ⟨q2, h4⟩ | ⟨q2, rfl⟩
      · exact h.sep x (List.mem_of_getElem? h4)
      · omega
end Go.Proofs.YtcaenbobfneejaaGreatDoor
namespace Go.Proofs.YtcaenbobfneejaaGreatDoor
open Go.RowKit
set_option linter.unusedVariables false
set_option linter.unusedSimpArgs false
theorem word_in {L wd : List UInt8} {i : Nat} (h : (L.drop i).takeWhile (fun x => decide (32 < x.toNat)) = wd) : ∀ j, i ≤ j → j < i + wd.length → ∃ c, L[j]? = some c ∧ 32 < c.toNat := fun j h1 h2 => by
  have hL : L.drop i = wd ++ (L.drop i).dropWhile (fun x => decide (32 < x.toNat)) := by rw [← h]; exact List.takeWhile_append_dropWhile.symm
  have hj : (L.drop i)[j - i]? = L[j]? := by rw [List.getElem?_drop, Nat.add_sub_cancel' h1]
  rw [hL, List.getElem?_append_left (by omega)] at hj
  have hk : j - i < wd.length := by omega
  refine ⟨wd[j - i], by rw [← hj, List.getElem?_eq_getElem hk], ?_⟩
  have hm : wd[j - i] ∈ (L.drop i).takeWhile (fun x => decide (32 < x.toNat)) := by rw [h]; exact List.getElem_mem hk
  have := List.all_eq_true.1 (List.all_takeWhile (p := fun x : UInt8 => decide (32 < x.toNat)) (l := L.drop i)) _ hm
  simpa using this
theorem word_out {L wd : List UInt8} {i : Nat} (h : (L.drop i).takeWhile (fun x => decide (32 < x.toNat)) = wd) : i + wd.length < L.length → ∃ c, L[i + wd.length]? = some c ∧ ¬ 32 < c.toNat := fun h1 => by
  have hL : L.drop i = wd ++ (L.drop i).dropWhile (fun x => decide (32 < x.toNat)) := by rw [← h]; exact List.takeWhile_append_dropWhile.symm
  have hj : (L.drop i)[wd.length]? = L[i + wd.length]? := by rw [List.getElem?_drop]
  rw [hL, List.getElem?_append_right (Nat.le_refl _), Nat.sub_self] at hj
  have hn := List.head?_dropWhile_not (fun x : UInt8 => decide (32 < x.toNat)) (L.drop i)
  cases hM : (L.drop i).dropWhile (fun x => decide (32 < x.toNat)) with
  | nil => rw [hM] at hj; rw [List.getElem?_eq_getElem h1] at hj; simp at hj
  | cons c r =>
    rw [hM] at hj hn
    exact ⟨c, by rw [← hj]; rfl, by simpa using hn⟩
set_option maxRecDepth 100000 in
set_option maxHeartbeats 16000000 in
theorem rlex_Lines (a : Option Addr) (len cap : Nat) (L : List UInt8) (w : World) (hI : Ints .u8 w a len cap (numsL L)) (hr : readB L = true) :
    Calls Tryz.prog 17 #[.slice a len cap] w fun e w' => (∃ b n vs, e = .returned (.slice b (fieldsF L).length n) ∧ RowsF w' w.heap.size (.slice b (fieldsF L).length n) (fieldsF L) vs) ∧ Below w.heap.size w w' := by
  have HI := Lib.hid hI
  have hbd := hI.bounds
  obtain ⟨hb1, hb2, hb3⟩ := hbd
  have hll : L.length = len := by simpa [numsL] using hb1
  clear hb1
  subst hll
  have HOK := Lib.hid (read_all hr)
  have hL : L.length ≤ 65536 := by unfold readB at hr; simp only [Bool.and_eq_true, decide_eq_true_eq] at hr; exact hr.2
  have hw : Below w.heap.size w w := Below.refl _ _
  clear hI hr
  have HS := Lib.hid (rest_start L)
  go_enter Tryz.func17, Tryz.ntmps17
  go_wp2
  go_loopg [3, 4, 5, 6, 7, 8] (2 * (L.length + 1) + 1) (fun g ov nv lv bv rv iv wr => ∃ (i bg : Nat) (n : Int) (rem : Bool) (now : List FldV) (out : List (List FldV)) (vs : List Value) (oa na : Option Addr) (ol oc nl nc : Nat), 2 * (L.length + 1 - i) + (if rem then 0 else 1) ≤ g ∧ i ≤ L.length + 1 ∧ bg ≤ i ∧ 0 ≤ n ∧ n ≤ (i : Int) + 1 ∧ nl ≤ i ∧ ol ≤ i ∧ ov = .slice oa ol oc ∧ nv = .slice na nl nc ∧ lv = .int .i64 n ∧ bv = .int .i64 bg ∧ rv = .bool rem ∧ iv = .int .i64 i ∧ Hid (out.length = ol) ∧ Hid (now.length = nl) ∧ Hid (i ≤ L.length → out ++ restF n (i - bg) rem now (L.drop i) = fieldsF L) ∧ Hid (i = L.length + 1 → out = fieldsF L) ∧ Hid (Hold wr w.heap.size (.slice oa ol oc) out vs (.slice na nl nc) now) ∧ Below w.heap.size w wr)
  case atStart => exact ⟨0, 0, 1, false, [], [], [], none, none, 0, 0, 0, 0, by simp, by omega, Nat.le_refl _, by omega, by omega, Nat.le_refl _, Nat.le_refl _, rfl, rfl, rfl, rfl, rfl, rfl, Lib.hid rfl, Lib.hid rfl, Lib.hid (fun _ => HS.out), Lib.hid (fun h => absurd h (by omega)), Lib.hid ⟨RowsF.nil _ _, OwnR.nil _ _ _ _, fun x hx => by cases hx⟩, hw⟩
  case round =>
    obtain ⟨i, bg, n, rem, now, out, vs, oa, na, ol, oc, nl, nc, hg, hi, hbg, hn0, hn1, hnl, hol, rfl, rfl, rfl, rfl, rfl, rfl, HOL, HNL, HF, HE, HH, hbel⟩ := hrel
    clear hw
    rcases Nat.lt_trichotomy i L.length with hlt | heq | hgt
    · have hd : decide ((i : Int) ≤ (L.length : Int)) = true := decide_eq_true (by omega)
      have hd2 : ((i : Int) == (L.length : Int)) = false := by simp; omega
      have hd3 : ¬ (i : Int) = (L.length : Int) := by omega
      have hile : (i : Int) ≤ (L.length : Int) := by omega
      have hil : (i : Int) < (L.length : Int) := by omega
      have hi0 : (0 : Int) ≤ (i : Int) := by omega
      obtain ⟨b, off, rfl, _, hcell⟩ := HI.out.opened (by omega)
      obtain ⟨c, hc⟩ : ∃ c, L[i] = c := ⟨_, rfl⟩
      have HDR := Lib.hid (show L.drop i = c :: L.drop (i + 1) by rw [List.drop_eq_getElem_cons hlt, hc])
      have HCC := Lib.hid (HOK.out c (hc ▸ List.getElem_mem hlt))
      have hx := (HI.out.later hbel).opened (by omega)
      obtain ⟨b2, off2, eb, _, hcell2⟩ := hx
      obtain ⟨rfl, rfl⟩ : b = b2 ∧ off = off2 := by simpa using eb
      clear eb
      have cc : wr.cell? ⟨b, off + i, none⟩ = some (.int .u8 (c.toNat : Int)) := by rw [hcell2 i hlt]; simp [numsL, el, List.getD, List.getElem?_eq_getElem hlt, hc]
      have HCELL := Lib.hid (fun (k : Nat) (x : UInt8) (h : L[k]? = some x) => (show wr.cell? ⟨b, off + k, none⟩ = some (.int .u8 (x.toNat : Int)) from by obtain ⟨hk, rfl⟩ := List.getElem?_eq_some_iff.1 h; rw [hcell2 k hk]; simp [numsL, el, List.getD, List.getElem?_eq_getElem hk]))
      clear hcell hcell2 hc
      by_cases h10 : c = 10
      · subst h10
        rw [show ((10 : UInt8).toNat : Int) = 10 from rfl] at cc
        have HF2 := Lib.hid (show out ++ (curL now ++ restF (n + 1) 0 false [] (L.drop (i + 1))) = fieldsF L by have h := HF.out (by omega); rw [HDR.out, rest_line] at h; exact h)
        by_cases hn0 : nl = 0
        · obtain rfl : now = [] := List.eq_nil_of_length_eq_zero (by rw [HNL.out]; exact hn0)
          subst hn0
          go_wp2
          go_roundg (2 * (L.length + 1 - (i + 1)) + 1)
          case rel => exact ⟨i + 1, i + 1, n + 1, false, [], out, vs, oa, none, ol, oc, 0, 0, by simp, by omega, Nat.le_refl _, by omega, by push_cast; omega, by omega, by omega, rfl, rfl, rfl, by push_cast; rfl, rfl, by push_cast; rfl, HOL, Lib.hid rfl, Lib.hid (fun _ => by have h := HF2.out; rw [curL_nil, List.nil_append] at h; rw [Nat.sub_self]; exact h), Lib.hid (fun h => absurd h (by omega)), Lib.hid HH.out.fresh, hbel⟩
          case measure => omega
        · have hnp : (0 : Int) < (nl : Int) := by omega
          have hnd : decide ((0 : Int) < (nl : Int)) = true := decide_eq_true hnp
          have HC := Lib.hid (show curL now = [now] by unfold curL; cases now with | nil => have := HNL.out; simp at this; omega | cons y ys => rfl)
          have hbo := HOL.out
          have HA := Lib.hid (HH.out.alloc (.cells #[.slice na nl nc] 43))
          have HBA := Lib.hid (belAlloc hbel (.cells #[.slice na nl nc] 43))
          have HRX := Lib.hid (show Row (wr.alloc (.cells #[.slice na nl nc] 43)) (some ⟨wr.heap.size, 0, none⟩) 1 1 1 [.slice na nl nc] from row_of_blkN (n := 1) (k := 1) (Blk.new wr [.slice na nl nc] 43) rfl (by decide))
          have HO := Lib.hid (show OwnR (wr.alloc (.cells #[.slice na nl nc] 43)) w.heap.size 43 1 (.slice oa ol oc) ol vs from HOL.out ▸ HA.out.rows.out)
          go_wp2_with (at_builtin; refine wpList_app_sep rfl _ _ 36 rfl w.heap.size 43 _ 1 24 Tryz.underlying36 info_row rfl (by decide) _ ol _ rfl HO.out _ 1 1 [.slice na nl nc] rfl HRX.out (fun u hu => by simp at hu; subst hu; rfl) ?c1 ?c2 ?c3 ?_)
          case c1 => simp only [maxLen]; omega
          case c2 => omega
          case c3 => first | exact HBA.out.size | (have := hbel.size; omega)
          intro v2 w2 ho2 hb2 hg2 _
          have HP := Lib.hid (HA.out.push (by rw [HOL.out]; exact ho2) hg2)
          obtain ⟨oa2, oc2, e2, _⟩ := rowR_of_own ho2
          subst e2
          have HB2 := Lib.hid (HBA.out.trans hb2)
          have HOL2 := Lib.hid (show (out ++ [now]).length = ol + 1 by rw [List.length_append, HOL.out]; rfl)
          clear ho2 hb2 hg2
          go_wp2
          go_roundg (2 * (L.length + 1 - (i + 1)) + 1)
          case rel => exact ⟨i + 1, i + 1, n + 1, false, [], out ++ [now], vs ++ [.slice na nl nc], oa2, none, ol + 1, oc2, 0, 0, by simp, by omega, Nat.le_refl _, by omega, by push_cast; omega, by omega, by omega, rfl, rfl, rfl, by push_cast; rfl, rfl, by push_cast; rfl, HOL2, Lib.hid rfl, Lib.hid (fun _ => by have h := HF2.out; rw [HC.out, ← List.append_assoc] at h; rw [Nat.sub_self]; exact h), Lib.hid (fun h => absurd h (by omega)), HP, HB2.out⟩
          case measure => omega
      · have hne10 : (c == 10) = false := by simpa using h10
        have hnn : ¬ (c.toNat : Int) = 10 := fun h => by have k := byte_eq c 10; rw [show ((10 : UInt8).toNat : Int) = 10 from rfl, hne10] at k; simp at k; exact k h
        have hn10 : ((c.toNat : Int) == 10) = false := by simpa using hnn
        cases rem with
        | true =>
          go_wp2
          go_roundg (2 * (L.length + 1 - (i + 1)) + 0)
          case rel => exact ⟨i + 1, bg, n, true, now, out, vs, oa, na, ol, oc, nl, nc, by simp, by omega, by omega, by omega, by push_cast; omega, by omega, by omega, rfl, rfl, rfl, rfl, rfl, by push_cast; rfl, HOL, HNL, Lib.hid (fun _ => by have h := HF.out (by omega); rw [HDR.out, rest_skip n (i - bg) now _ hne10] at h; rw [show i + 1 - bg = i - bg + 1 by omega]; exact h), Lib.hid (fun h => absurd h (by omega)), HH, hbel⟩
          case measure => simp at hg <;> omega
        | false =>
          obtain ⟨q, hq⟩ : ∃ q, (c.toNat : Int) = q := ⟨_, rfl⟩
          have hq0 : 0 ≤ q := by omega
          cases hb : blankB c with
          | true =>
            have HST := Lib.hid (show i + 1 ≤ L.length → out ++ restF n (i + 1 - bg) false now (L.drop (i + 1)) = fieldsF L from fun _ => by have h := HF.out (by omega); rw [HDR.out, rest_blank n (i - bg) now _ hne10 hb] at h; rw [show i + 1 - bg = i - bg + 1 by omega]; exact h)
            have h3 : q = 9 ∨ q = 13 ∨ q = 32 := by unfold blankB at hb; simp only [Bool.or_eq_true, beq_iff_eq] at hb; rw [← hq]; rcases hb with rfl | rfl | rfl <;> simp
            rw [hq] at cc hnn hn10
            clear hq
            rcases h3 with rfl | rfl | rfl
            · go_wp2
              go_roundg (2 * (L.length + 1 - (i + 1)) + 1)
              case rel => exact ⟨i + 1, bg, n, false, now, out, vs, oa, na, ol, oc, nl, nc, by simp, by omega, by omega, by omega, by push_cast; omega, by omega, by omega, rfl, rfl, rfl, rfl, rfl, by push_cast; rfl, HOL, HNL, Lib.hid (fun _ => by exact HST.out (by omega)), Lib.hid (fun h => absurd h (by omega)), HH, hbel⟩
              case measure => simp at hg <;> omega
            · go_wp2
              go_roundg (2 * (L.length + 1 - (i + 1)) + 1)
              case rel => exact ⟨i + 1, bg, n, false, now, out, vs, oa, na, ol, oc, nl, nc, by simp, by omega, by omega, by omega, by push_cast; omega, by omega, by omega, rfl, rfl, rfl, rfl, rfl, by push_cast; rfl, HOL, HNL, Lib.hid (fun _ => by exact HST.out (by omega)), Lib.hid (fun h => absurd h (by omega)), HH, hbel⟩
              case measure => simp at hg <;> omega
            · go_wp2
              go_roundg (2 * (L.length + 1 - (i + 1)) + 1)
              case rel => exact ⟨i + 1, bg, n, false, now, out, vs, oa, na, ol, oc, nl, nc, by simp, by omega, by omega, by omega, by push_cast; omega, by omega, by omega, rfl, rfl, rfl, rfl, rfl, by push_cast; rfl, HOL, HNL, Lib.hid (fun _ => by exact HST.out (by omega)), Lib.hid (fun h => absurd h (by omega)), HH, hbel⟩
              case measure => simp at hg <;> omega
          | false =>
            have hbq : q ≠ 9 ∧ q ≠ 13 ∧ q ≠ 32 := by have k1 := byte_eq c 9; have k2 := byte_eq c 13; have k3 := byte_eq c 32; rw [hq] at k1 k2 k3; unfold blankB at hb; simp only [Bool.or_eq_false_iff] at hb; rw [hb.2.1] at k1; rw [hb.2.2] at k2; rw [hb.1] at k3; exact ⟨by simpa using k1, by simpa using k2, by simpa using k3⟩
            obtain ⟨z1, z2, z3⟩ := hbq
            have y1 : (q == 9) = false := by simpa using z1
            have y2 : (q == 13) = false := by simpa using z2
            have y3 : (q == 32) = false := by simpa using z3
            have h32 : decide (32 < c.toNat) = true := if h9 : 32 < c.toNat then decide_eq_true h9 else ((over32 HCC.out).2 (decide_eq_false h9)).elim (fun k => by rw [k] at hb; cases hb) (fun k => absurd k h10)
            by_cases h35 : c = 35
            · subst h35
              have hq35 : q = 35 := hq.symm
              subst hq35
              clear hq
              go_wp2
              go_roundg (2 * (L.length + 1 - i))
              case rel => exact ⟨i, bg, n, true, now, out, vs, oa, na, ol, oc, nl, nc, by simp, by omega, by omega, by omega, by omega, by omega, by omega, rfl, rfl, rfl, rfl, rfl, rfl, HOL, HNL, Lib.hid (fun _ => by have h := HF.out (by omega); rw [HDR.out, rest_remark] at h; rw [HDR.out]; exact h), Lib.hid (fun h => absurd h (by omega)), HH, hbel⟩
              case measure => simp at hg; omega
            · have hne35 : (c == 35) = false := by simpa using h35
              have z4 : q ≠ 35 := fun h => by have k := byte_eq c 35; rw [show ((35 : UInt8).toNat : Int) = 35 from rfl, hq, hne35] at k; rw [h] at k; simp at k
              have y4 : (q == 35) = false := by simpa using z4
              have HFL := Lib.hid (show out ++ restF n (i - bg + ((L.drop i).takeWhile (fun x => decide (32 < x.toNat))).length) false (now ++ [⟨(L.drop i).takeWhile (fun x => decide (32 < x.toNat)), n, ((i - bg : Nat) : Int) + 1⟩]) ((L.drop i).drop ((L.drop i).takeWhile (fun x => decide (32 < x.toNat))).length) = fieldsF L by have h := HF.out (by omega); rw [HDR.out, rest_field n (i - bg) now _ (fun x hx => HOK.out x (List.mem_of_mem_drop (HDR.out ▸ hx))) h32 hne35] at h; rw [HDR.out]; exact h)
              obtain ⟨wd, hwd⟩ : ∃ x, (L.drop i).takeWhile (fun x => decide (32 < x.toNat)) = x := ⟨_, rfl⟩
              rw [hwd] at HFL
              have HWD := Lib.hid hwd
              have hwl : 0 < wd.length ∧ i + wd.length ≤ L.length := by rw [← hwd]; have h1 := (List.takeWhile_prefix (fun x : UInt8 => decide (32 < x.toNat)) (l := L.drop i)).length_le; rw [List.length_drop] at h1; refine ⟨?_, by omega⟩; rw [HDR.out, List.takeWhile_cons_of_pos (p := fun x : UInt8 => decide (32 < x.toNat)) h32]; simp
              clear hwd
              obtain ⟨hwl0, hwl1⟩ := hwl
              obtain ⟨e, he⟩ : ∃ e, i + wd.length = e := ⟨_, rfl⟩
              have HIN := Lib.hid (word_in HWD.out)
              have HOUT := Lib.hid (word_out HWD.out)
              rw [he] at HIN HOUT hwl1
              have HWT := Lib.hid (show (L.drop i).take (e - i) = wd by rw [← he, Nat.add_sub_cancel_left]; have h := (List.takeWhile_prefix (fun x : UInt8 => decide (32 < x.toNat)) (l := L.drop i)); rw [HWD.out] at h; exact (List.prefix_iff_eq_take.1 h).symm)
              go_wp2
              go_loopg [9] wd.length (fun g3 jv wr2 => ∃ j : Nat, j + g3 = e ∧ i ≤ j ∧ jv = .int .i64 j ∧ wr = wr2)
              case atStart => exact ⟨i, he, Nat.le_refl _, rfl, rfl⟩
              case round =>
                obtain ⟨j, hje, hij, rfl, rfl⟩ := hrel
                cases gk with
                | zero =>
                  obtain rfl : j = e := by omega
                  by_cases hel : j < L.length
                  · obtain ⟨c2, hc2, hc3⟩ := HOUT.out hel
                    have cj : wr.cell? ⟨b, off + j, none⟩ = some (.int .u8 (c2.toNat : Int)) := HCELL.out j c2 hc2
                    have hdj : decide ((j : Int) < (L.length : Int)) = true := decide_eq_true (by omega)
                    have hjn : (j : Int) < (L.length : Int) := by omega
                    have hj0 : (0 : Int) ≤ (j : Int) := by omega
                    have hg3 : decide ((32 : Int) < (c2.toNat : Int)) = false := decide_eq_false (by omega)
                    have hg4 : ¬ (32 : Int) < (c2.toNat : Int) := by omega
                    have hcv := conv_sub (HI.out.later hbel) hij (show j ≤ L.length by omega)
                    rw [HWT.out] at hcv
                    have HWX := Lib.hid (HWT.out)
                    have hbc : (i : Int) - (bg : Int) = ((i - bg : Nat) : Int) := by omega
                    have hw1 : IntKind.i64.wrap ((i : Int) - (bg : Int)) = ((i - bg : Nat) : Int) := by rw [hbc]; exact IntWalk.i64_in _ (by omega)
                    have hw2 : IntKind.i64.wrap (((i - bg : Nat) : Int) + 1) = ((i - bg : Nat) : Int) + 1 := IntWalk.i64_in _ (by omega)
                    have hcapI : (j : Int) ≤ (cap : Int) := by omega
                    have hijI : (i : Int) ≤ (j : Int) := by omega
                    clear hw2
                    have HEE := Lib.hid he
                    have HA := Lib.hid (HH.out.alloc (.cells #[.string (bA wd), .int .i64 n, .int .i64 (((i - bg : Nat) : Int) + 1)] 45))
                    have HBA := Lib.hid (belAlloc hbel (.cells #[.string (bA wd), .int .i64 n, .int .i64 (((i - bg : Nat) : Int) + 1)] 45))
                    have HRX := Lib.hid (show Row (wr.alloc (.cells #[.string (bA wd), .int .i64 n, .int .i64 (((i - bg : Nat) : Int) + 1)] 45)) (some ⟨wr.heap.size, 0, none⟩) 1 1 3 [.string (bA wd), .int .i64 n, .int .i64 (((i - bg : Nat) : Int) + 1)] from row_of_blkN (n := 1) (k := 3) (Blk.new wr [.string (bA wd), .int .i64 n, .int .i64 (((i - bg : Nat) : Int) + 1)] 45) rfl (by decide))
                    have HO := Lib.hid (show OwnR (wr.alloc (.cells #[.string (bA wd), .int .i64 n, .int .i64 (((i - bg : Nat) : Int) + 1)] 45)) w.heap.size 45 3 (.slice na nl nc) nl (now.flatMap FldV.cells) from HNL.out ▸ HA.out.own)
                    go_wp2_with (at_builtin; refine wpList_app_sep rfl _ _ 43 rfl w.heap.size 45 _ 3 32 Tryz.underlying43 info_fld rfl (by decide) _ nl _ rfl HO.out _ 1 1 [.string (bA wd), .int .i64 n, .int .i64 (((i - bg : Nat) : Int) + 1)] rfl HRX.out (fun u hu => by simp at hu; rcases hu with rfl | rfl | rfl <;> rfl) ?c1 ?c2 ?c3 ?_)
                    case c1 => simp only [maxLen]; omega
                    case c2 => omega
                    case c3 => first | exact HBA.out.size | (have := hbel.size; omega)
                    intro v2 w2 ho2 hb2 hg2 hm2
                    have HG := Lib.hid (HA.out.grow (f := ⟨wd, n, ((i - bg : Nat) : Int) + 1⟩) (by rw [HNL.out]; exact ho2) hg2 hm2)
                    obtain ⟨na2, nc2, e2, _⟩ := rowR_of_own ho2
                    subst e2
                    have HB2 := Lib.hid (HBA.out.trans hb2)
                    have HNL2 := Lib.hid (show (now ++ [(⟨wd, n, ((i - bg : Nat) : Int) + 1⟩ : FldV)]).length = nl + 1 by rw [List.length_append, HNL.out]; rfl)
                    clear ho2 hb2 hg2 hm2 hcv
                    go_wp2
                    go_roundg (2 * (L.length + 1 - j) + 1)
                    case rel => exact ⟨j, bg, n, false, _, out, vs, oa, na2, ol, oc, nl + 1, nc2, by simp, by omega, by omega, by omega, by omega, by omega, by omega, rfl, rfl, rfl, rfl, rfl, rfl, HOL, HNL2, Lib.hid (fun _ => by have h := HFL.out; rw [List.drop_drop, HEE.out, show i - bg + wd.length = j - bg by have := HEE.out; omega] at h; exact h), Lib.hid (fun h => absurd h (by omega)), HG, HB2.out⟩
                    case measure => simp at hg; omega
                  · have hdj : decide ((j : Int) < (L.length : Int)) = false := decide_eq_false (by omega)
                    have hjn : ¬ (j : Int) < (L.length : Int) := by omega
                    have hcv := conv_sub (HI.out.later hbel) hij (show j ≤ L.length by omega)
                    rw [HWT.out] at hcv
                    have HWX := Lib.hid (HWT.out)
                    have hbc : (i : Int) - (bg : Int) = ((i - bg : Nat) : Int) := by omega
                    have hw1 : IntKind.i64.wrap ((i : Int) - (bg : Int)) = ((i - bg : Nat) : Int) := by rw [hbc]; exact IntWalk.i64_in _ (by omega)
                    have hw2 : IntKind.i64.wrap (((i - bg : Nat) : Int) + 1) = ((i - bg : Nat) : Int) + 1 := IntWalk.i64_in _ (by omega)
                    have hcapI : (j : Int) ≤ (cap : Int) := by omega
                    have hijI : (i : Int) ≤ (j : Int) := by omega
                    clear hw2
                    have HEE := Lib.hid he
                    have HA := Lib.hid (HH.out.alloc (.cells #[.string (bA wd), .int .i64 n, .int .i64 (((i - bg : Nat) : Int) + 1)] 45))
                    have HBA := Lib.hid (belAlloc hbel (.cells #[.string (bA wd), .int .i64 n, .int .i64 (((i - bg : Nat) : Int) + 1)] 45))
                    have HRX := Lib.hid (show Row (wr.alloc (.cells #[.string (bA wd), .int .i64 n, .int .i64 (((i - bg : Nat) : Int) + 1)] 45)) (some ⟨wr.heap.size, 0, none⟩) 1 1 3 [.string (bA wd), .int .i64 n, .int .i64 (((i - bg : Nat) : Int) + 1)] from row_of_blkN (n := 1) (k := 3) (Blk.new wr [.string (bA wd), .int .i64 n, .int .i64 (((i - bg : Nat) : Int) + 1)] 45) rfl (by decide))
                    have HO := Lib.hid (show OwnR (wr.alloc (.cells #[.string (bA wd), .int .i64 n, .int .i64 (((i - bg : Nat) : Int) + 1)] 45)) w.heap.size 45 3 (.slice na nl nc) nl (now.flatMap FldV.cells) from HNL.out ▸ HA.out.own)
                    go_wp2_with (at_builtin; refine wpList_app_sep rfl _ _ 43 rfl w.heap.size 45 _ 3 32 Tryz.underlying43 info_fld rfl (by decide) _ nl _ rfl HO.out _ 1 1 [.string (bA wd), .int .i64 n, .int .i64 (((i - bg : Nat) : Int) + 1)] rfl HRX.out (fun u hu => by simp at hu; rcases hu with rfl | rfl | rfl <;> rfl) ?c1 ?c2 ?c3 ?_)
                    case c1 => simp only [maxLen]; omega
                    case c2 => omega
                    case c3 => first | exact HBA.out.size | (have := hbel.size; omega)
                    intro v2 w2 ho2 hb2 hg2 hm2
                    have HG := Lib.hid (HA.out.grow (f := ⟨wd, n, ((i - bg : Nat) : Int) + 1⟩) (by rw [HNL.out]; exact ho2) hg2 hm2)
                    obtain ⟨na2, nc2, e2, _⟩ := rowR_of_own ho2
                    subst e2
                    have HB2 := Lib.hid (HBA.out.trans hb2)
                    have HNL2 := Lib.hid (show (now ++ [(⟨wd, n, ((i - bg : Nat) : Int) + 1⟩ : FldV)]).length = nl + 1 by rw [List.length_append, HNL.out]; rfl)
                    clear ho2 hb2 hg2 hm2 hcv
                    go_wp2
                    go_roundg (2 * (L.length + 1 - j) + 1)
                    case rel => exact ⟨j, bg, n, false, _, out, vs, oa, na2, ol, oc, nl + 1, nc2, by simp, by omega, by omega, by omega, by omega, by omega, by omega, rfl, rfl, rfl, rfl, rfl, rfl, HOL, HNL2, Lib.hid (fun _ => by have h := HFL.out; rw [List.drop_drop, HEE.out, show i - bg + wd.length = j - bg by have := HEE.out; omega] at h; exact h), Lib.hid (fun h => absurd h (by omega)), HG, HB2.out⟩
                    case measure => simp at hg; omega
                | succ g3 =>
                  obtain ⟨c2, hc2, hc3⟩ := HIN.out j hij (by omega)
                  have cj : wr.cell? ⟨b, off + j, none⟩ = some (.int .u8 (c2.toNat : Int)) := HCELL.out j c2 hc2
                  have hdj : decide ((j : Int) < (L.length : Int)) = true := decide_eq_true (by omega)
                  have hjn : (j : Int) < (L.length : Int) := by omega
                  have hj0 : (0 : Int) ≤ (j : Int) := by omega
                  have hg3 : decide ((32 : Int) < (c2.toNat : Int)) = true := decide_eq_true (by omega)
                  have hg4 : (32 : Int) < (c2.toNat : Int) := by omega
                  go_wp2
                  go_roundg g3
                  case rel => exact ⟨j + 1, by omega, by omega, by push_cast; rfl, by first | rfl | trivial⟩
                  case measure => omega
    · subst heq
      have hd : decide ((L.length : Int) ≤ (L.length : Int)) = true := decide_eq_true (by omega)
      have hd2 : ((L.length : Int) == (L.length : Int)) = true := by simp
      have HF2 := Lib.hid (show out ++ curL now = fieldsF L by have h := HF.out (Nat.le_refl _); rw [List.drop_length, rest_end] at h; exact h)
      by_cases hn0 : nl = 0
      · obtain rfl : now = [] := List.eq_nil_of_length_eq_zero (by rw [HNL.out]; exact hn0)
        subst hn0
        go_wp2
        go_roundg (2 * (L.length + 1 - (L.length + 1)) + 1)
        case rel => exact ⟨L.length + 1, L.length + 1, n + 1, false, [], out, vs, oa, none, ol, oc, 0, 0, by simp, by omega, Nat.le_refl _, by omega, by push_cast; omega, by omega, by omega, rfl, rfl, rfl, by push_cast; rfl, rfl, by push_cast; rfl, HOL, Lib.hid rfl, Lib.hid (fun h => absurd h (by omega)), Lib.hid (fun _ => by have h := HF2.out; rw [curL_nil, List.append_nil] at h; exact h), Lib.hid HH.out.fresh, hbel⟩
        case measure => omega
      · have hnp : (0 : Int) < (nl : Int) := by omega
        have hnd : decide ((0 : Int) < (nl : Int)) = true := decide_eq_true hnp
        have HC := Lib.hid (show curL now = [now] by unfold curL; cases now with | nil => have := HNL.out; simp at this; omega | cons y ys => rfl)
        have hbo := HOL.out
        have HA := Lib.hid (HH.out.alloc (.cells #[.slice na nl nc] 43))
        have HBA := Lib.hid (belAlloc hbel (.cells #[.slice na nl nc] 43))
        have HRX := Lib.hid (show Row (wr.alloc (.cells #[.slice na nl nc] 43)) (some ⟨wr.heap.size, 0, none⟩) 1 1 1 [.slice na nl nc] from row_of_blkN (n := 1) (k := 1) (Blk.new wr [.slice na nl nc] 43) rfl (by decide))
        have HO := Lib.hid (show OwnR (wr.alloc (.cells #[.slice na nl nc] 43)) w.heap.size 43 1 (.slice oa ol oc) ol vs from HOL.out ▸ HA.out.rows.out)
        go_wp2_with (at_builtin; refine wpList_app_sep rfl _ _ 36 rfl w.heap.size 43 _ 1 24 Tryz.underlying36 info_row rfl (by decide) _ ol _ rfl HO.out _ 1 1 [.slice na nl nc] rfl HRX.out (fun u hu => by simp at hu; subst hu; rfl) ?c1 ?c2 ?c3 ?_)
        case c1 => simp only [maxLen]; omega
        case c2 => omega
        case c3 => first | exact HBA.out.size | (have := hbel.size; omega)
        intro v2 w2 ho2 hb2 hg2 _
        have HP := Lib.hid (HA.out.push (by rw [HOL.out]; exact ho2) hg2)
        obtain ⟨oa2, oc2, e2, _⟩ := rowR_of_own ho2
        subst e2
        have HB2 := Lib.hid (HBA.out.trans hb2)
        have HOL2 := Lib.hid (show (out ++ [now]).length = ol + 1 by rw [List.length_append, HOL.out]; rfl)
        clear ho2 hb2 hg2
        go_wp2
        go_roundg (2 * (L.length + 1 - (L.length + 1)) + 1)
        case rel => exact ⟨L.length + 1, L.length + 1, n + 1, false, [], out ++ [now], vs ++ [.slice na nl nc], oa2, none, ol + 1, oc2, 0, 0, by simp, by omega, Nat.le_refl _, by omega, by push_cast; omega, by omega, by omega, rfl, rfl, rfl, by push_cast; rfl, rfl, by push_cast; rfl, HOL2, Lib.hid rfl, Lib.hid (fun h => absurd h (by omega)), Lib.hid (fun _ => by have h := HF2.out; rw [HC.out] at h; exact h), HP, HB2.out⟩
        case measure => omega
    · obtain rfl : i = L.length + 1 := by omega
      have hd : decide (((L.length + 1 : Nat) : Int) ≤ (L.length : Int)) = false := decide_eq_false (by push_cast; omega)
      have hd9 : ¬ ((L.length + 1 : Nat) : Int) ≤ (L.length : Int) := by push_cast; omega
      have HFF := Lib.hid (HE.out rfl)
      rw [HFF.out] at HH HOL
      generalize ((L.length + 1 : Nat) : Int) = zi at *
      go_wp2
      go_ret
      refine ⟨⟨oa, oc, ?_, vs, ?_⟩, hbel⟩
      · show Ending.returned (.slice oa ol oc) = _
        rw [HOL.out]
      · rw [HOL.out]; exact HH.out.rows
end Go.Proofs.YtcaenbobfneejaaGreatDoor
