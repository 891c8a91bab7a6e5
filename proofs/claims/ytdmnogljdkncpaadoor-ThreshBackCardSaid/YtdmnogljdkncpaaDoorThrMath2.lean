
/- Thresholds' texts: the two readings are one. -/
import Derived.Test.YtdmnogljdkncpaaDoorThrMath
import Derived.Test.YtdmnogljdkncpaaDoorQuantNames
namespace Go.Proofs.YtdmnogljdkncpaaDoor
open Go.RowKit
set_option linter.unusedVariables false
set_option linter.unusedSimpArgs false
open Go.Lib (decDigits)

/-- The reference's number: below 0 it is none. -/
def numR (l : List UInt8) : Int := if l.length = 0 ∨ 4 < l.length ∨ (l.head? = some 48 ∧ 1 < l.length) ∨ l.all isDg = false then -1 else (valN 0 l : Int)
theorem dg_bd {c : UInt8} (h : isDg c = true) : 48 ≤ c.toNat ∧ c.toNat ≤ 57 := by unfold isDg at h; simpa using h
theorem valN_bd (l : List UInt8) (h : ∀ c ∈ l, isDg c = true) : valN 0 l < 10 ^ l.length := by
  obtain ⟨r, rfl⟩ : ∃ r, l = r.reverse := ⟨l.reverse, by simp⟩
  induction r with
  | nil => decide
  | cons c r ih =>
    rw [List.reverse_cons] at h ⊢
    rw [valN_snoc, List.length_append, List.length_singleton, Nat.pow_succ]
    have h1 := ih (fun x hx => h x (List.mem_append_left _ hx))
    have h2 := dg_bd (h c (by simp))
    omega
/-- Digits whose first isn't a nought are their value's. -/
theorem canon (l : List UInt8) (h : ∀ c ∈ l, isDg c = true) (h0 : l ≠ []) (hz : l.head? = some 48 → l.length = 1) : decDigits (valN 0 l) = l ∧ (l.head? ≠ some 48 → 1 ≤ valN 0 l) := by
  obtain ⟨r, rfl⟩ : ∃ r, l = r.reverse := ⟨l.reverse, by simp⟩
  induction r with
  | nil => exact absurd rfl h0
  | cons c r ih =>
    rw [List.reverse_cons] at h hz ⊢
    have hc := dg_bd (h c (by simp))
    have hcc : UInt8.ofNat (48 + (c.toNat - 48)) = c := by
      rw [show 48 + (c.toNat - 48) = c.toNat by omega]; simp
    rw [valN_snoc]
    rcases Classical.em (r = []) with rfl | hr
    · simp only [List.reverse_nil, List.nil_append]
      have e0 : valN 0 [] = 0 := rfl
      rw [e0]
      refine ⟨by rw [dd_small (by omega)]; simp only [Nat.zero_mul, Nat.zero_add]; rw [hcc], fun hne => ?_⟩
      have : c.toNat ≠ 48 := fun e => hne (by simp only [List.head?_cons, Option.some.injEq]; exact UInt8.toNat_inj.1 (by simpa using e))
      omega
    · have hrr : r.reverse ≠ [] := by simpa using hr
      have hhd : (r.reverse ++ [c]).head? = r.reverse.head? := by
        cases hq : r.reverse with
        | nil => exact absurd hq hrr
        | cons x y => rfl
      have hlen : 1 ≤ r.length := by cases r with | nil => exact absurd rfl hr | cons x y => simp
      have hn48 : r.reverse.head? ≠ some 48 := fun e => by
        have := hz (by rw [hhd]; exact e)
        rw [List.length_append, List.length_reverse, List.length_singleton] at this; omega
      obtain ⟨i1, i2⟩ := ih (fun x hx => h x (List.mem_append_left _ hx)) hrr (fun e => absurd e hn48)
      have i3 := i2 hn48
      refine ⟨?_, fun _ => by omega⟩
      rw [dd_big (by omega), show (valN 0 r.reverse * 10 + (c.toNat - 48)) / 10 = valN 0 r.reverse by omega, show (valN 0 r.reverse * 10 + (c.toNat - 48)) % 10 = c.toNat - 48 by omega, i1, hcc]
theorem dd_head (u : Nat) (h : 1 ≤ u) : (decDigits u).head? ≠ some 48 := by
  induction u using Nat.strongRecOn with
  | _ u ih =>
    by_cases h10 : u < 10
    · rw [dd_small h10]
      simp only [List.head?_cons, ne_eq, Option.some.injEq]
      intro e
      have := congrArg UInt8.toNat e
      simp at this; omega
    · rw [dd_big h10]
      have := ih (u / 10) (by omega) (by omega)
      cases hq : decDigits (u / 10) with
      | nil => exact absurd hq (dd_pos _)
      | cons x y => rw [hq] at this; simpa using this
theorem dd_len (u : Nat) (h : u ≤ 1000) : (decDigits u).length ≤ 4 := by
  rw [Lib.decDigits_length]
  have h1 := Lib.lt_pow_nDigits u
  by_cases h10 : u < 10
  · rw [Lib.nDigits_small h10]; omega
  · rw [Lib.nDigits_big h10]
    by_cases h100 : u / 10 < 10
    · rw [Lib.nDigits_small h100]; omega
    · rw [Lib.nDigits_big h100]
      by_cases h1000 : u / 10 / 10 < 10
      · rw [Lib.nDigits_small h1000]; omega
      · rw [Lib.nDigits_big h1000, Lib.nDigits_small (by omega)]; omega
theorem numR_dd (u : Nat) (h1 : 1 ≤ u) (h2 : u ≤ 1000) : numR (decDigits u) = u := by
  unfold numR
  have hl := dd_len u h2
  have hp := dd_pos u
  rw [if_neg, valN_dd]
  intro hc
  rcases hc with hc | hc | ⟨hc, _⟩ | hc
  · exact hp (List.eq_nil_of_length_eq_zero hc)
  · omega
  · exact dd_head u h1 hc
  · rw [List.all_eq_true.2 (dd_dg u)] at hc; cases hc
/-- The reference's number and the program's are one. -/
theorem numR_dgv (l : List UInt8) (most : Int) (hm : most ≤ 1000) : dgv l most = if 1 ≤ numR l ∧ numR l ≤ most then some (numR l) else none := by
  split
  · rename_i hc
    obtain ⟨c1, c2⟩ := hc
    have hd : ¬ (l.length = 0 ∨ 4 < l.length ∨ (l.head? = some 48 ∧ 1 < l.length) ∨ l.all isDg = false) := fun q => by
      unfold numR at c1; rw [if_pos q] at c1; omega
    have e : numR l = (valN 0 l : Int) := by unfold numR; rw [if_neg hd]
    simp only [not_or, not_and, Bool.not_eq_false] at hd
    obtain ⟨d1, d2, d3, d4⟩ := hd
    have hall := List.all_eq_true.1 d4
    have hca := canon l hall (fun q => d1 (by rw [q]; rfl)) (fun q => by have := d3 q; omega)
    rw [e] at c1 c2 ⊢
    have := dgv_of (n := (valN 0 l : Int)) c1 c2 hm
    rw [Int.toNat_natCast, hca.1] at this
    exact this
  · rename_i hc
    cases hq : dgv l most with
    | none => rfl
    | some n =>
      obtain ⟨q1, q2, q3⟩ := dgv_some hm hq
      have hn := numR_dd n.toNat (by omega) (by omega)
      rw [← q3] at hn
      exact absurd ⟨by rw [hn]; omega, by rw [hn]; omega⟩ hc

/-- A threshold. -/
structure ThrV where
  sig : Int
  pct : Int
  amt : Int
  soft : Bool
  grace : Int
def sigF (l : List UInt8) : Option Int := if l = [109, 101, 109, 111, 114, 121] then some 0 else if l = [100, 105, 115, 107] then some 1 else if l = [112, 105, 100] then some 2 else none
/-- What is read as a percentage, or an amount: the program's way. -/
def limF (v : List UInt8) : Option (Int × Int) :=
  if (cutC 37 v).2.2 then (if (cutC 37 v).2.1 = [] then (dgv (cutC 37 v).1 100).map (fun n => (n, 0)) else none)
  else if qOk v = true ∧ 0 < qNum v then some (0, qNum v) else none
def grF (soft : Bool) (r : List UInt8) : Option Int := if soft then dgv r 1000 else some 0
def thF (l : List UInt8) : Option ThrV :=
  if (cutC 60 l).2.2 then
    match sigF (cutC 60 l).1, limF (cutC 58 (cutC 60 l).2.1).1, grF (cutC 58 (cutC 60 l).2.1).2.2 (cutC 58 (cutC 60 l).2.1).2.1 with
    | some s, some (p, a), some g => some ⟨s, p, a, (cutC 58 (cutC 60 l).2.1).2.2, g⟩
    | _, _, _ => none
  else none

/-- Is a threshold right? -/
def ThrV.right (t : ThrV) : Bool := decide (0 ≤ t.sig) && decide (t.sig ≤ 2) && ((decide (1 ≤ t.pct) && decide (t.pct ≤ 100) && t.amt == 0) || (t.pct == 0 && decide (0 < t.amt))) && (if t.soft then decide (1 ≤ t.grace) && decide (t.grace ≤ 1000) else t.grace == 0)
/-- The reference's limit: percent and amount; none where it is no quantity. -/
def limR (v : List UInt8) : Option (Int × Int) := if v.getLast? = some 37 then some (numR v.dropLast, 0) else if qOk v = true then some (0, qNum v) else none
theorem qOk_no {v : List UInt8} (h : 37 ∈ v) : qOk v = false := by
  cases hq : qOk v with
  | false => rfl
  | true =>
    exfalso
    unfold qOk at hq
    simp only [Bool.and_eq_true, Bool.not_eq_true', beq_eq_false_iff_ne, ne_eq] at hq
    have hs : v = dgs v ++ v.drop (dgk v) := by rw [← take_dgk]; exact (List.take_append_drop _ _).symm
    rw [hs] at h
    rcases List.mem_append.1 h with h | h
    · have := tw_mem (p := isDg) v h
      simp [isDg] at this
    · rcases unit_some hq.2 with e | ⟨k, hk, e⟩
      · rw [e] at h; cases h
      · rw [e] at h
        rcases (show k = 0 ∨ k = 1 ∨ k = 2 ∨ k = 3 ∨ k = 4 ∨ k = 5 ∨ k = 6 ∨ k = 7 by omega) with rfl | rfl | rfl | rfl | rfl | rfl | rfl | rfl <;> simp [nmL] at h
theorem numR_no {l : List UInt8} {c : UInt8} (h : c ∈ l) (hc : isDg c = false) : numR l = -1 := by
  unfold numR
  rw [if_pos]
  right; right; right
  rw [List.all_eq_false]
  exact ⟨c, h, by rw [hc]; simp⟩
theorem qNum_nn (l : List UInt8) : 0 ≤ qNum l := by
  unfold qNum satMul
  have : (0 : Int) ≤ max (dgn (dgs l)) 0 * max (unitL (l.drop (dgk l))) 0 := Int.mul_nonneg (by omega) (by omega)
  omega
/-- The limit is read alike. -/
theorem lim_eq (v : List UInt8) : limF v = match limR v with | none => none | some (p, a) => if (1 ≤ p ∧ p ≤ 100 ∧ a = 0) ∨ (p = 0 ∧ 0 < a) then some (p, a) else none := by
  have h37 : isDg 37 = false := by decide
  unfold limF limR
  rcases cutC_spec 37 v with ⟨h1, h2, h3⟩ | ⟨h1, h2⟩
  · rw [if_pos h1]
    cases hb : (cutC 37 v).2.1 with
    | nil =>
      rw [hb] at h2
      have hl : v.getLast? = some 37 := by rw [h2]; simp
      have hd : v.dropLast = (cutC 37 v).1 := (congrArg List.dropLast h2).trans List.dropLast_concat
      rw [if_pos rfl, if_pos hl, hd, numR_dgv _ 100 (by omega)]
      simp only
      by_cases hc : 1 ≤ numR (cutC 37 v).1 ∧ numR (cutC 37 v).1 ≤ 100
      · rw [if_pos hc, if_pos (.inl ⟨hc.1, hc.2, trivial⟩)]; rfl
      · rw [if_neg hc, if_neg]
        · rfl
        · rintro (q | q)
          · exact hc ⟨q.1, q.2.1⟩
          · omega
    | cons x y =>
      rw [if_neg (by simp)]
      by_cases hl : v.getLast? = some 37
      · rw [if_pos hl]
        have hm : 37 ∈ v.dropLast := by
          rw [h2, hb, show (cutC 37 v).1 ++ 37 :: x :: y = ((cutC 37 v).1 ++ [37]) ++ (x :: y) by simp, List.dropLast_append_of_ne_nil (by simp)]
          simp
        rw [numR_no hm h37]
        simp
      · rw [if_neg hl, if_neg (by rw [qOk_no (by rw [h2]; simp)]; simp)]
  · rw [if_neg (by rw [h1]; simp)]
    have hl : v.getLast? ≠ some 37 := fun e => h2 (List.mem_of_getLast? e)
    rw [if_neg hl]
    have hn := qNum_nn v
    by_cases hq : qOk v = true
    · rw [if_pos hq]
      simp only
      by_cases hp : 0 < qNum v
      · rw [if_pos ⟨hq, hp⟩, if_pos (.inr ⟨trivial, hp⟩)]
      · rw [if_neg (fun q => hp q.2), if_neg]
        rintro (q | q)
        · omega
        · exact hp q.2
    · rw [if_neg hq, if_neg (fun q => hq q.1)]
end Go.Proofs.YtdmnogljdkncpaaDoor
