
/- Floats of 64 bits, as plain numbers: their order, their kinds, what is read of them. -/
import Derived.Test.YtcgpmihjodolmaaBase
import Derived.Laws.FloatArith
namespace Go.Proofs.Ytcgpmihjodolmaa
open Ieee
set_option linter.unusedVariables false
set_option linter.unusedSimpArgs false

def fneg (n : Nat) : Bool := n / 9223372036854775808 % 2 == 1
def frung (n : Nat) : Nat := n % 9223372036854775808
def fval (r : Nat) : Nat := if r < 4503599627370496 then r else (4503599627370496 + r % 4503599627370496) * 2 ^ (r / 4503599627370496 - 1)
def fkey (n : Nat) : Int := if fneg n then -(frung n : Int) else (frung n : Int)

theorem c_sw : Ieee.double.signWeight = 9223372036854775808 := by decide
theorem c_bi : Ieee.double.binade = 4503599627370496 := by decide
theorem c_inf : Ieee.double.infRung = 9218868437227405312 := by decide
theorem c_lp : Ieee.double.leastPlace = -1074 := by decide
theorem c_fb : Ieee.double.fractionBits = 52 := rfl

theorem read_double (n : Nat) : Ieee.double.read n =
    if frung n < 4503599627370496 then .number (fneg n) (frung n) (-1074)
    else if frung n < 9218868437227405312 then .number (fneg n) (4503599627370496 + frung n % 4503599627370496) (-1074 + (frung n / 4503599627370496 - 1 : Nat))
    else if frung n = 9218868437227405312 then .infinity (fneg n) else .nan (fneg n) (frung n - 9218868437227405312) := by
  unfold Format.read
  rw [c_sw, c_bi, c_inf, c_lp]
  rfl

theorem fval_succ (r : Nat) : fval r < fval (r + 1) := by
  unfold fval
  by_cases h : r + 1 < 4503599627370496
  · rw [if_pos (by omega), if_pos h]; omega
  · rw [if_neg h]
    by_cases h1 : r < 4503599627370496
    · obtain rfl : r = 4503599627370495 := by omega
      decide
    · rw [if_neg h1]
      by_cases h2 : r % 4503599627370496 + 1 < 4503599627370496
      · rw [show (r + 1) / 4503599627370496 = r / 4503599627370496 by omega, show (r + 1) % 4503599627370496 = r % 4503599627370496 + 1 by omega]
        exact Nat.mul_lt_mul_of_pos_right (by omega) (Nat.two_pow_pos _)
      · rw [show (r + 1) / 4503599627370496 - 1 = (r / 4503599627370496 - 1) + 1 by omega, show (r + 1) % 4503599627370496 = 0 by omega, Nat.pow_succ]
        have h0 := Nat.two_pow_pos (r / 4503599627370496 - 1)
        generalize 2 ^ (r / 4503599627370496 - 1) = p at *
        have hp : r % 4503599627370496 < 4503599627370496 := Nat.mod_lt _ (by omega)
        generalize r % 4503599627370496 = m at *
        rw [Nat.mul_comm p 2, ← Nat.mul_assoc]
        exact Nat.mul_lt_mul_of_pos_right (by omega) h0
theorem fval_lt {r q : Nat} (h : r < q) : fval r < fval q := by
  induction q with
  | zero => omega
  | succ q ih =>
    rcases Nat.lt_or_ge r q with h1 | h1
    · exact Nat.lt_trans (ih h1) (fval_succ q)
    · obtain rfl : r = q := by omega
      exact fval_succ r
theorem fval_lt_iff {r q : Nat} : fval r < fval q ↔ r < q := by
  refine ⟨fun h => ?_, fval_lt⟩
  rcases Nat.lt_trichotomy r q with h1 | h1 | h1
  · exact h1
  · subst h1; exact absurd h (Nat.lt_irrefl _)
  · exact absurd (fval_lt h1) (by omega)
theorem fval_le {r q : Nat} (h : r ≤ q) : fval r ≤ fval q := by
  rcases Nat.eq_or_lt_of_le h with h1 | h1
  · subst h1; exact Nat.le_refl _
  · exact Nat.le_of_lt (fval_lt h1)
theorem fval_zero : fval 0 = 0 := rfl

theorem cmp_int {a b c d : Int} (h1 : a < b ↔ c < d) (h2 : a = b ↔ c = d) : compare a b = compare c d := by
  simp only [compare, compareOfLessAndEq]
  by_cases p : a < b
  · rw [if_pos p, if_pos (h1.1 p)]
  · rw [if_neg p, if_neg (fun h => p (h1.2 h))]
    by_cases q : a = b
    · rw [if_pos q, if_pos (h2.1 q)]
    · rw [if_neg q, if_neg (fun h => q (h2.2 h))]

/-- A number's parts. -/
theorem read_num' (n : Nat) (h : frung n < 9218868437227405312) : ∃ m a : Nat, Ieee.double.read n = .number (fneg n) m (-1074 + a) ∧ m * 2 ^ a = fval (frung n) ∧ m < 9007199254740992 ∧ a = frung n / 4503599627370496 - 1 := by
  rw [read_double]
  unfold fval
  by_cases h1 : frung n < 4503599627370496
  · rw [if_pos h1, if_pos h1]
    exact ⟨frung n, 0, by simp, by simp, by omega, by omega⟩
  · rw [if_neg h1, if_neg h1, if_pos h]
    exact ⟨_, _, rfl, rfl, by omega, rfl⟩
theorem read_num (n : Nat) (h : frung n < 9218868437227405312) : ∃ m a : Nat, Ieee.double.read n = .number (fneg n) m (-1074 + a) ∧ m * 2 ^ a = fval (frung n) := by
  obtain ⟨m, a, h1, h2, _⟩ := read_num' n h
  exact ⟨m, a, h1, h2⟩

theorem order_num (s t : Bool) (m k a b r q : Nat) (hm : m * 2 ^ a = fval r) (hk : k * 2 ^ b = fval q) :
    Datum.order (.number s m (-1074 + a)) (.number t k (-1074 + b)) = some (compare (if s then -(r : Int) else r) (if t then -(q : Int) else q)) := by
  unfold Datum.order
  simp only
  rw [show (-1074 + (a : Int) - min (-1074 + (a : Int)) (-1074 + b)).toNat = a - min a b by omega, show (-1074 + (b : Int) - min (-1074 + (a : Int)) (-1074 + b)).toNat = b - min a b by omega]
  have hA : (m <<< (a - min a b)) * 2 ^ (min a b) = fval r := by
    rw [Nat.shiftLeft_eq, Nat.mul_assoc, ← Nat.pow_add, show a - min a b + min a b = a by omega, hm]
  have hB : (k <<< (b - min a b)) * 2 ^ (min a b) = fval q := by
    rw [Nat.shiftLeft_eq, Nat.mul_assoc, ← Nat.pow_add, show b - min a b + min a b = b by omega, hk]
  unfold signed
  generalize m <<< (a - min a b) = A at *
  generalize k <<< (b - min a b) = B at *
  have hp := Nat.two_pow_pos (min a b)
  generalize 2 ^ (min a b) = p at *
  have l1 : A < B ↔ r < q := by
    rw [← fval_lt_iff (r := r) (q := q), ← hA, ← hB]
    exact (Nat.mul_lt_mul_right hp).symm
  have l2 : B < A ↔ q < r := by
    rw [← fval_lt_iff (r := q) (q := r), ← hA, ← hB]
    exact (Nat.mul_lt_mul_right hp).symm
  have z1 : 0 < A ↔ 0 < r := by
    rw [← fval_lt_iff (r := 0) (q := r), ← hA, fval_zero]
    exact ⟨fun h => Nat.mul_pos h hp, fun h => Nat.pos_of_ne_zero (fun e => by subst e; simp at h)⟩
  have z2 : 0 < B ↔ 0 < q := by
    rw [← fval_lt_iff (r := 0) (q := q), ← hB, fval_zero]
    exact ⟨fun h => Nat.mul_pos h hp, fun h => Nat.pos_of_ne_zero (fun e => by subst e; simp at h)⟩
  congr 1
  cases s <;> cases t <;> simp only [Bool.false_eq_true, if_true, if_false] <;> refine cmp_int ?_ ?_ <;> omega

theorem order_double (x y : Nat) (hx : frung x ≤ 9218868437227405312) (hy : frung y ≤ 9218868437227405312) : Ieee.double.order x y = some (compare (fkey x) (fkey y)) := by
  unfold Format.order
  rcases Nat.eq_or_lt_of_le hx with h1 | h1
  · have e1 : Ieee.double.read x = .infinity (fneg x) := by rw [read_double, if_neg (by omega), if_neg (by omega), if_pos h1]
    rcases Nat.eq_or_lt_of_le hy with h2 | h2
    · have e2 : Ieee.double.read y = .infinity (fneg y) := by rw [read_double, if_neg (by omega), if_neg (by omega), if_pos h2]
      rw [e1, e2]
      unfold fkey
      rw [h1, h2]
      cases fneg x <;> cases fneg y <;> decide
    · obtain ⟨m, a, e2, _⟩ := read_num y h2
      rw [e1, e2]
      unfold fkey Datum.order
      rw [h1]
      simp only
      congr 1
      cases fneg x <;> cases fneg y <;> simp only [Bool.false_eq_true, if_true, if_false] <;> symm <;> simp only [compare, compareOfLessAndEq]
      · rw [if_neg (by omega), if_neg (by omega)]
      · rw [if_neg (by omega), if_neg (by omega)]
      · rw [if_pos (by omega)]
      · rw [if_pos (by omega)]
  · obtain ⟨k, b, e1, hk⟩ := read_num x h1
    rcases Nat.eq_or_lt_of_le hy with h2 | h2
    · have e2 : Ieee.double.read y = .infinity (fneg y) := by rw [read_double, if_neg (by omega), if_neg (by omega), if_pos h2]
      rw [e1, e2]
      unfold fkey Datum.order
      rw [h2]
      simp only
      congr 1
      cases fneg x <;> cases fneg y <;> simp only [Bool.false_eq_true, if_true, if_false] <;> symm <;> simp only [compare, compareOfLessAndEq]
      · rw [if_pos (by omega)]
      · rw [if_neg (by omega), if_neg (by omega)]
      · rw [if_pos (by omega)]
      · rw [if_neg (by omega), if_neg (by omega)]
    · obtain ⟨m, a, e2, hm⟩ := read_num y h2
      rw [e1, e2]
      exact order_num _ _ _ _ _ _ _ _ hk hm

theorem order_nan (x y : Nat) (h : 9218868437227405312 < frung x ∨ 9218868437227405312 < frung y) : Ieee.double.order x y = none := by
  unfold Format.order
  rcases h with h | h
  · have e : Ieee.double.read x = .nan (fneg x) (frung x - 9218868437227405312) := by rw [read_double, if_neg (by omega), if_neg (by omega), if_neg (by omega)]
    rw [e]; unfold Datum.order; rfl
  · have e : Ieee.double.read y = .nan (fneg y) (frung y - 9218868437227405312) := by rw [read_double, if_neg (by omega), if_neg (by omega), if_neg (by omega)]
    rw [e]; unfold Datum.order
    cases Ieee.double.read x <;> rfl

theorem neg_float (n : Nat) (h : n < 18446744073709551616) : Op.negFloat .f64 n = if n < 9223372036854775808 then n + 9223372036854775808 else n - 9223372036854775808 := by
  unfold Op.negFloat
  show n ^^^ 2 ^ 63 = _
  have h1 : (n ^^^ 2 ^ 63) % 2 ^ 63 = n % 2 ^ 63 := by
    rw [Nat.xor_mod_two_pow]; simp
  have h2 : (n ^^^ 2 ^ 63) / 2 ^ 63 = n / 2 ^ 63 ^^^ 1 := by
    rw [← Nat.shiftRight_eq_div_pow, Nat.shiftRight_xor_distrib, Nat.shiftRight_eq_div_pow, Nat.shiftRight_eq_div_pow]
  generalize n ^^^ 2 ^ 63 = k at *
  rw [show (2 : Nat) ^ 63 = 9223372036854775808 by decide] at h1 h2
  by_cases hn : n < 9223372036854775808
  · rw [if_pos hn]
    rw [show n / 9223372036854775808 = 0 by omega] at h2
    simp at h2
    omega
  · rw [if_neg hn]
    rw [show n / 9223372036854775808 = 1 by omega] at h2
    simp at h2
    omega
theorem neg_rung (n : Nat) (h : n < 18446744073709551616) : frung (Op.negFloat .f64 n) = frung n := by
  rw [neg_float n h]; unfold frung; split <;> omega
theorem neg_neg (n : Nat) (h : n < 18446744073709551616) : fneg (Op.negFloat .f64 n) = !fneg n := by
  rw [neg_float n h]; unfold fneg
  split
  · rw [show (n + 9223372036854775808) / 9223372036854775808 % 2 = 1 by omega, show n / 9223372036854775808 % 2 = 0 by omega]; rfl
  · rw [show (n - 9223372036854775808) / 9223372036854775808 % 2 = 0 by omega, show n / 9223372036854775808 % 2 = 1 by omega]; rfl
theorem neg_key (n : Nat) (h : n < 18446744073709551616) : fkey (Op.negFloat .f64 n) = -fkey n := by
  unfold fkey
  rw [neg_rung n h, neg_neg n h]
  cases fneg n <;> simp
theorem neg_lt (n : Nat) (h : n < 18446744073709551616) : Op.negFloat .f64 n < 18446744073709551616 := by
  rw [neg_float n h]; split <;> omega

/-! ### Kinds. -/
def kindF (n : Nat) : Int := if 9218868437227405312 < frung n then 1 else if frung n = 9218868437227405312 then (if fneg n then 2 else 7) else if frung n = 0 then (if fneg n then 4 else 5) else if fneg n then 3 else 6
def rankF (n : Nat) : Int := if kindF n = 1 then 8 else kindF n
/-- The place in the order of all. -/
def fplace (n : Nat) : Int := if 9218868437227405312 < frung n then 18446744073709551615 else if fneg n then 9223372036854775807 - frung n else frung n + 9223372036854775808
def cmpI (a b : Int) : Int := if a < b then -1 else if b < a then 1 else 0
/-- The places below the point. -/
def lpN : Nat := 1074
theorem lpN_eq : lpN = 1074 := rfl
def wholeF (r : Nat) : Nat := fval r / 2 ^ lpN
def readF (n : Nat) : Int := if fneg n then 0 else if 4890909195324358656 ≤ frung n then 9223372036854775807 else wholeF (frung n)

/-! ### What is read. -/
theorem cut_down (m d : Nat) : Toward.down.cut false m d = m / 2 ^ d := by
  unfold Toward.cut
  simp only [Nat.shiftLeft_eq, Nat.one_mul]
  simp
  by_cases h : d ≤ m.log2 + 2
  · rw [Nat.min_eq_left h]
  · rw [Nat.min_eq_right (by omega)]
    have h1 : m < 2 ^ (m.log2 + 1) := Nat.lt_log2_self
    have h2 : 2 ^ (m.log2 + 1) ≤ 2 ^ (m.log2 + 2) := Nat.pow_le_pow_right (by omega) (by omega)
    have h3 : 2 ^ (m.log2 + 1) ≤ 2 ^ d := Nat.pow_le_pow_right (by omega) (by omega)
    rw [Nat.div_eq_of_lt (by omega), Nat.div_eq_of_lt (by omega)]
theorem cut_zero (s : Bool) (m d : Nat) : Toward.zero.cut s m d = m / 2 ^ d := by
  rw [← cut_down]
  unfold Toward.cut
  simp
/-- Nothing is left over: whichever way. -/
theorem cut_exact (s : Bool) (q d : Nat) (hq : q ≠ 0) : Toward.even.cut s (q * 2 ^ d) d = q := by
  unfold Toward.cut
  simp only [Nat.shiftLeft_eq, Nat.one_mul]
  have h1 : d ≤ (q * 2 ^ d).log2 + 2 := by
    have : d ≤ (q * 2 ^ d).log2 := by
      rw [Nat.le_log2 (by have := Nat.two_pow_pos d; exact Nat.mul_ne_zero hq (by omega))]
      exact Nat.le_mul_of_pos_left _ (by omega)
    omega
  rw [Nat.min_eq_left h1, Nat.mul_mod_left, Nat.mul_div_cancel _ (Nat.two_pow_pos d)]
  simp

theorem log2_mul (q t : Nat) (hq : q ≠ 0) : (q * 2 ^ t).log2 = q.log2 + t := by
  have h0 := Nat.two_pow_pos t
  rw [Nat.log2_eq_iff (Nat.mul_ne_zero hq (by omega))]
  have h1 := Nat.log2_self_le hq
  have h2 : q < 2 ^ (q.log2 + 1) := Nat.lt_log2_self
  constructor
  · rw [Nat.pow_add]; exact Nat.mul_le_mul_right _ h1
  · rw [show q.log2 + t + 1 = q.log2 + 1 + t by omega, Nat.pow_add]; exact Nat.mul_lt_mul_of_pos_right h2 h0
theorem word_parts (s : Bool) (R : Nat) (h : R < 9223372036854775808) : fneg (Ieee.double.word s R) = s ∧ frung (Ieee.double.word s R) = R := by
  unfold Format.word fneg frung
  rw [c_sw]
  cases s
  · simp only [Bool.false_eq_true, if_false]
    rw [show R / 9223372036854775808 % 2 = 0 by omega]
    exact ⟨rfl, by omega⟩
  · simp only [if_true]
    rw [show (9223372036854775808 + R) / 9223372036854775808 % 2 = 1 by omega]
    exact ⟨rfl, by omega⟩
theorem fval_high (E k : Nat) (h1 : 4503599627370496 ≤ k) (h2 : k < 9007199254740992) : fval (E * 4503599627370496 + k) = k * 2 ^ E := by
  unfold fval
  rw [if_neg (by omega), show (E * 4503599627370496 + k) % 4503599627370496 = k - 4503599627370496 by omega, show (E * 4503599627370496 + k) / 4503599627370496 - 1 = E by omega, show 4503599627370496 + (k - 4503599627370496) = k by omega]
theorem fval_low (k : Nat) (h1 : k < 4503599627370496) : fval k = k := by unfold fval; rw [if_pos h1]
theorem exact_parts (s : Bool) (q t : Nat) (p : Int) (hq : q ≠ 0) (h53 : q < 9007199254740992) (hl : -1074 ≤ p) (hh : p + t ≤ 900) :
    ∃ R, Ieee.double.nearest s (q * 2 ^ t) p = Ieee.double.word s R ∧ R < 9218868437227405312 ∧ fval R = q * 2 ^ (p + 1074 + t).toNat := by
  have hp := Nat.two_pow_pos t
  have hL : q.log2 ≤ 52 := by
    have h1 := Nat.log2_self_le hq
    have h2 : 2 ^ q.log2 < 2 ^ 53 := by
      have : (2 : Nat) ^ 53 = 9007199254740992 := by decide
      omega
    have := (Nat.pow_lt_pow_iff_right (by omega : 1 < 2)).1 h2
    omega
  have hk1 : 2 ^ 52 ≤ q * 2 ^ (52 - q.log2) := by
    have h1 := Nat.log2_self_le hq
    have := Nat.mul_le_mul_right (2 ^ (52 - q.log2)) h1
    rwa [← Nat.pow_add, show q.log2 + (52 - q.log2) = 52 by omega] at this
  have hk2 : q * 2 ^ (52 - q.log2) < 2 ^ 53 := by
    have h2 : q < 2 ^ (q.log2 + 1) := Nat.lt_log2_self
    have := Nat.mul_lt_mul_of_pos_right h2 (Nat.two_pow_pos (52 - q.log2))
    rwa [← Nat.pow_add, show q.log2 + 1 + (52 - q.log2) = 53 by omega] at this
  rw [show (2 : Nat) ^ 52 = 4503599627370496 by decide] at hk1
  rw [show (2 : Nat) ^ 53 = 9007199254740992 by decide] at hk2
  unfold Format.nearest
  rw [if_neg (Nat.mul_ne_zero hq (by omega)), log2_mul q t hq, c_fb, c_lp, c_bi, c_inf]
  simp only
  by_cases hA : -1074 ≤ p + (q.log2 + t : Nat) - (52 : Nat)
  · rw [Int.max_eq_left hA]
    have hkept : Toward.even.cut s ((q * 2 ^ t) <<< (p - (p + (q.log2 + t : Nat) - (52 : Nat))).toNat) ((p + (q.log2 + t : Nat) - (52 : Nat)) - p).toNat = q * 2 ^ (52 - q.log2) := by
      rw [Nat.shiftLeft_eq]
      by_cases ht : t ≤ 52 - q.log2
      · rw [show (p - (p + (q.log2 + t : Nat) - (52 : Nat))).toNat = 52 - q.log2 - t by omega, show ((p + (q.log2 + t : Nat) - (52 : Nat)) - p).toNat = 0 by omega, Nat.mul_assoc, ← Nat.pow_add, show t + (52 - q.log2 - t) = 52 - q.log2 by omega]
        have := cut_exact s (q * 2 ^ (52 - q.log2)) 0 (by omega)
        rwa [Nat.pow_zero, Nat.mul_one] at this
      · rw [show (p - (p + (q.log2 + t : Nat) - (52 : Nat))).toNat = 0 by omega, show ((p + (q.log2 + t : Nat) - (52 : Nat)) - p).toNat = t - (52 - q.log2) by omega, Nat.pow_zero, Nat.mul_one]
        have := cut_exact s (q * 2 ^ (52 - q.log2)) (t - (52 - q.log2)) (by omega)
        rwa [Nat.mul_assoc, ← Nat.pow_add, show 52 - q.log2 + (t - (52 - q.log2)) = t by omega] at this
    rw [hkept]
    have hE : (p + (q.log2 + t : Nat) - (52 : Nat) - -1074).toNat ≤ 1974 := by omega
    obtain ⟨E, he⟩ : ∃ E, (p + (q.log2 + t : Nat) - (52 : Nat) - -1074).toNat = E := ⟨_, rfl⟩
    rw [he] at hE ⊢
    refine ⟨E * 4503599627370496 + q * 2 ^ (52 - q.log2), ?_, by omega, ?_⟩
    · rw [Nat.min_eq_left (by omega)]
    · rw [fval_high _ _ hk1 hk2, Nat.mul_assoc, ← Nat.pow_add]
      congr 2
      omega
  · rw [Int.max_eq_right (by omega)]
    have hD : (p + 1074 + t).toNat + q.log2 < 52 := by omega
    have hv : q * 2 ^ (p + 1074 + t).toNat < 4503599627370496 := by
      have h2 : q < 2 ^ (q.log2 + 1) := Nat.lt_log2_self
      have h3 := Nat.mul_lt_mul_of_pos_right h2 (Nat.two_pow_pos (p + 1074 + t).toNat)
      rw [← Nat.pow_add] at h3
      have h4 : 2 ^ (q.log2 + 1 + (p + 1074 + t).toNat) ≤ 2 ^ 52 := Nat.pow_le_pow_right (by omega) (by omega)
      have : (2 : Nat) ^ 52 = 4503599627370496 := by decide
      omega
    have hkept : Toward.even.cut s ((q * 2 ^ t) <<< (p - -1074).toNat) (-1074 - p).toNat = q * 2 ^ (p + 1074 + t).toNat := by
      rw [Nat.shiftLeft_eq, show (-1074 - p).toNat = 0 by omega, Nat.mul_assoc, ← Nat.pow_add, show t + (p - -1074).toNat = (p + 1074 + t).toNat by omega]
      have := cut_exact s (q * 2 ^ (p + 1074 + t).toNat) 0 (Nat.mul_ne_zero hq (by have := Nat.two_pow_pos (p + 1074 + t).toNat; omega))
      rwa [Nat.pow_zero, Nat.mul_one] at this
    rw [hkept]
    refine ⟨q * 2 ^ (p + 1074 + t).toNat, ?_, by omega, fval_low _ hv⟩
    rw [show ((-1074 : Int) - -1074).toNat = 0 by rfl, Nat.zero_mul, Nat.zero_add, Nat.min_eq_left (by omega)]

theorem write_exact (s : Bool) (q t : Nat) (p : Int) (hq : q ≠ 0) (h53 : q < 9007199254740992) (hl : -1074 ≤ p) (hh : p + t ≤ 900) :
    fneg (Ieee.double.write (.number s (q * 2 ^ t) p)) = s ∧ frung (Ieee.double.write (.number s (q * 2 ^ t) p)) < 9218868437227405312 ∧ fval (frung (Ieee.double.write (.number s (q * 2 ^ t) p))) = q * 2 ^ (p + 1074 + t).toNat := by
  obtain ⟨R, h1, h2, h3⟩ := exact_parts s q t p hq h53 hl hh
  unfold Format.write
  simp only
  rw [h1]
  obtain ⟨h4, h5⟩ := word_parts s R (by omega)
  exact ⟨h4, by rw [h5]; exact h2, by rw [h5]; exact h3⟩
theorem write_zero (s : Bool) (p : Int) : Ieee.double.write (.number s 0 p) = Ieee.double.word s 0 := by unfold Format.write Format.nearest; simp

/-- The whole part of a number's magnitude. -/
theorem whole_shift (m a : Nat) : (m <<< (-1074 + (a : Int)).toNat) / 2 ^ (-(-1074 + (a : Int))).toNat = m * 2 ^ a / 2 ^ lpN := by
  rw [Nat.shiftLeft_eq]
  have hN := lpN_eq
  by_cases h : a ≤ 1074
  · rw [show (-1074 + (a : Int)).toNat = 0 by omega, show (-(-1074 + (a : Int))).toNat = 1074 - a by omega, Nat.pow_zero, Nat.mul_one]
    have : 2 ^ lpN = 2 ^ (1074 - a) * 2 ^ a := by rw [← Nat.pow_add]; congr 1; omega
    rw [this, Nat.mul_div_mul_right _ _ (Nat.two_pow_pos a)]
  · rw [show (-1074 + (a : Int)).toNat = a - 1074 by omega, show (-(-1074 + (a : Int))).toNat = 0 by omega, Nat.pow_zero, Nat.div_one]
    have : 2 ^ a = 2 ^ (a - 1074) * 2 ^ lpN := by rw [← Nat.pow_add]; congr 1; omega
    rw [this, ← Nat.mul_assoc, Nat.mul_div_cancel _ (Nat.two_pow_pos _)]
theorem toInt_num (n : Nat) (hn : fneg n = false) (h : frung n < 9218868437227405312) : (Ieee.double.read n).toInt .zero = some (wholeF (frung n) : Int) := by
  obtain ⟨m, a, e, hv⟩ := read_num n h
  unfold Datum.toInt
  rw [e]
  unfold Datum.integral
  simp only
  rw [cut_zero, whole_shift, hv, hn]
  unfold signed wholeF
  simp
theorem whole_lt (r : Nat) (h : r < 4890909195324358656) : wholeF r < 9223372036854775808 := by
  unfold wholeF
  have h1 := fval_lt h
  have e : fval 4890909195324358656 = 9223372036854775808 * 2 ^ lpN := by
    have := fval_high (11 + lpN) 4503599627370496 (by omega) (by omega)
    rw [show (11 + lpN) * 4503599627370496 + 4503599627370496 = 4890909195324358656 by decide] at this
    rw [this]
    have e1 : (2 : Nat) ^ (11 + lpN) = 2 ^ 11 * 2 ^ lpN := Nat.pow_add 2 11 lpN
    rw [e1, ← Nat.mul_assoc]
  rw [e] at h1
  exact Nat.div_lt_of_lt_mul (by rw [Nat.mul_comm]; exact h1)
theorem whole_mono {r q : Nat} (h : r ≤ q) : wholeF r ≤ wholeF q := Nat.div_le_div_right (fval_le h)

/-- math.Floor of a number that isn't below 0, and is below 2^63, as an int. -/
theorem floor_int (n : Nat) (hn : fneg n = false) (h : frung n < 4890909195324358656) :
    floatToIntVal .f64 (FloatKind.f64.encode ((FloatKind.f64.decode n).integral .down)) .i64 = some (wholeF (frung n) : Int) := by
  obtain ⟨m, a, e, hv, hm, ha⟩ := read_num' n (by omega)
  have hW := whole_lt _ h
  have e1 : (FloatKind.f64.decode n).integral .down = .number false (wholeF (frung n)) 0 := by
    show (Ieee.double.read n).integral .down = _
    rw [e, hn]
    unfold Datum.integral
    simp only
    rw [cut_down, whole_shift, hv]
    rfl
  rw [e1]
  have key : (FloatKind.f64.decode (FloatKind.f64.encode (.number false (wholeF (frung n)) 0))).toInt .zero = some (wholeF (frung n) : Int) := by
    show (Ieee.double.read (Ieee.double.write _)).toInt .zero = _
    by_cases hz : wholeF (frung n) = 0
    · rw [hz, write_zero, toInt_num _ (word_parts false 0 (by omega)).1 (by rw [(word_parts false 0 (by omega)).2]; omega), (word_parts false 0 (by omega)).2]
      unfold wholeF; rw [fval_zero]; simp
    · obtain ⟨q, t, hq, hq53, ht⟩ : ∃ q t, wholeF (frung n) = q * 2 ^ t ∧ q < 9007199254740992 ∧ t ≤ 900 := by
        unfold wholeF
        rw [← hv, ← whole_shift]
        by_cases h2 : a ≤ 1074
        · refine ⟨_, 0, (Nat.mul_one _).symm, ?_, by omega⟩
          rw [show (-1074 + (a : Int)).toNat = 0 by omega, Nat.shiftLeft_zero]
          exact Nat.lt_of_le_of_lt (Nat.div_le_self _ _) hm
        · refine ⟨m, a - 1074, ?_, hm, by omega⟩
          rw [show (-1074 + (a : Int)).toNat = a - 1074 by omega, show (-(-1074 + (a : Int))).toNat = 0 by omega, Nat.pow_zero, Nat.div_one, Nat.shiftLeft_eq]
      have hq0 : q ≠ 0 := fun e => hz (by rw [hq, e, Nat.zero_mul])
      obtain ⟨w1, w2, w3⟩ := write_exact false q t 0 hq0 hq53 (by omega) (by omega)
      rw [← hq] at w1 w2 w3
      rw [toInt_num _ w1 w2]
      have e2 : wholeF (frung (Ieee.double.write (.number false (wholeF (frung n)) 0))) = wholeF (frung n) := by
        have : wholeF (frung (Ieee.double.write (.number false (wholeF (frung n)) 0))) = fval (frung (Ieee.double.write (.number false (wholeF (frung n)) 0))) / 2 ^ lpN := rfl
        have hN := lpN_eq
        rw [this, w3, show (0 + 1074 + (t : Int)).toNat = t + lpN by omega, Nat.pow_add, ← Nat.mul_assoc, Nat.mul_div_cancel _ (Nat.two_pow_pos _), ← hq]
      rw [e2]
  unfold floatToIntVal
  rw [key]
  simp only
  rw [if_pos]
  exact ⟨by show (-9223372036854775808 : Int) ≤ _; omega, by show _ ≤ (9223372036854775807 : Int); omega⟩
end Go.Proofs.Ytcgpmihjodolmaa
