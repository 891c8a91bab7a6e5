
/- Contracts of package wide and of its reference, each by one plain function. -/
import Derived.Test.YtcaenbobfneejaaGreatDoorBase
namespace Go.Proofs.YtcaenbobfneejaaGreatDoor
open Go.RowKit
set_option linter.unusedVariables false

def cmpI (x y : Int) : Int := if x < y then -1 else if y < x then 1 else 0
theorem cmpI_bd (x y : Int) : -1 ≤ cmpI x y ∧ cmpI x y ≤ 1 := by unfold cmpI; split <;> (try split) <;> omega





theorem and32 (a : Int) (h0 : 0 ≤ a) (h1 : a ≤ 18446744073709551615) : bits .and .u64 a 4294967295 = a % 4294967296 :=
  bits_mask .u64 64 (Nat.le_refl _) (fun n h0 h1 => IntWalk.u64_in n ⟨h0, by omega⟩) 32 (by omega) a h0 (by omega)

theorem ret_2u64 {a b c d : Int} (h : a = c) (h' : b = d) : Ending.returned (.tuple #[.int .u64 a, .int .u64 b]) = .returned (.tuple #[.int .u64 c, .int .u64 d]) := by rw [h, h']

theorem mul_split (a b : Int) (h0 : 0 ≤ a) (h1 : a ≤ 18446744073709551615) (k0 : 0 ≤ b) (k1 : b ≤ 18446744073709551615) :
    ∃ p q r s : Int, a / 4294967296 * (b / 4294967296) = p ∧ a / 4294967296 * (b % 4294967296) = q ∧ a % 4294967296 * (b / 4294967296) = r ∧ a % 4294967296 * (b % 4294967296) = s ∧
      0 ≤ p ∧ p ≤ 18446744065119617025 ∧ 0 ≤ q ∧ q ≤ 18446744065119617025 ∧ 0 ≤ r ∧ r ≤ 18446744065119617025 ∧ 0 ≤ s ∧ s ≤ 18446744065119617025 ∧
      a * b = p * 18446744073709551616 + (q + r) * 4294967296 + s := by
  have bd : ∀ x y : Int, 0 ≤ x → x ≤ 4294967295 → 0 ≤ y → y ≤ 4294967295 → 0 ≤ x * y ∧ x * y ≤ 18446744065119617025 := fun x y hx hx' hy hy' =>
    ⟨Int.mul_nonneg hx hy, by have := Int.mul_le_mul hx' hy' hy (by omega); omega⟩
  have a1 := bd (a / 4294967296) (b / 4294967296) (by omega) (by omega) (by omega) (by omega)
  have a2 := bd (a / 4294967296) (b % 4294967296) (by omega) (by omega) (by omega) (by omega)
  have a3 := bd (a % 4294967296) (b / 4294967296) (by omega) (by omega) (by omega) (by omega)
  have a4 := bd (a % 4294967296) (b % 4294967296) (by omega) (by omega) (by omega) (by omega)
  refine ⟨_, _, _, _, rfl, rfl, rfl, rfl, a1.1, a1.2, a2.1, a2.2, a3.1, a3.2, a4.1, a4.2, ?_⟩
  have ea : a = a / 4294967296 * 4294967296 + a % 4294967296 := by omega
  have eb : b = b / 4294967296 * 4294967296 + b % 4294967296 := by omega
  generalize a / 4294967296 = x at *
  generalize a % 4294967296 = y at *
  generalize b / 4294967296 = u at *
  generalize b % 4294967296 = v at *
  subst ea eb
  rw [Int.add_mul, Int.mul_add, Int.mul_add]
  rw [show x * 4294967296 * (u * 4294967296) = x * u * 18446744073709551616 by rw [Int.mul_assoc, Int.mul_left_comm 4294967296 u, ← Int.mul_assoc]; rfl]
  rw [show x * 4294967296 * v = x * v * 4294967296 by rw [Int.mul_assoc, Int.mul_comm 4294967296 v, ← Int.mul_assoc]]
  rw [show y * (u * 4294967296) = y * u * 4294967296 by rw [← Int.mul_assoc]]
  omega


theorem lex_cmp (x y M : Int) (hM : 0 < M) : cmpI (x / M) (y / M) ≠ 0 → cmpI x y = cmpI (x / M) (y / M) := by
  intro h
  unfold cmpI at *
  have h1 : x / M < y / M → x < y := fun q => by
    have := Int.lt_of_lt_of_le q (Int.le_refl _)
    rcases Int.lt_or_le x y with r | r
    · exact r
    · have := Int.ediv_le_ediv hM r; omega
  have h2 : y / M < x / M → y < x := fun q => by
    rcases Int.lt_or_le y x with r | r
    · exact r
    · have := Int.ediv_le_ediv hM r; omega
  by_cases a : x / M < y / M
  · have := h1 a; simp [a, this]
  · by_cases b : y / M < x / M
    · have c := h2 b
      have : ¬ x < y := by omega
      simp [a, b, c, this]
    · simp [a, b] at h
theorem lex_cmp0 (x y M : Int) (hM : 0 < M) : cmpI (x / M) (y / M) = 0 → cmpI (x % M) (y % M) = cmpI x y := by
  intro h
  have e : x / M = y / M := by
    unfold cmpI at h
    split at h
    · omega
    · split at h <;> omega
  have ex := Int.mul_ediv_add_emod x M
  have ey := Int.mul_ediv_add_emod y M
  rw [e] at ex
  generalize M * (y / M) = z at *
  unfold cmpI
  have : (x % M < y % M) = (x < y) := by rw [eq_iff_iff]; omega
  have h2 : (y % M < x % M) = (y < x) := by rw [eq_iff_iff]; omega
  simp only [this, h2]

/-- A product of two numbers, in two words. -/
theorem prod_bd (a b : Int) (ha : 0 ≤ a ∧ a ≤ 9223372036854775807) (hb : 0 ≤ b ∧ b ≤ 9223372036854775807) :
    0 ≤ a * b / 18446744073709551616 ∧ a * b / 18446744073709551616 ≤ 18446744073709551615 ∧ 0 ≤ a * b % 18446744073709551616 ∧ a * b % 18446744073709551616 ≤ 18446744073709551615 := by
  have h0 := Int.mul_nonneg ha.1 hb.1
  have h1 := Int.mul_le_mul ha.2 hb.2 hb.1 (by omega)
  omega

def orLW : List Int → Int
  | [] => 0
  | x :: r => if x = 0 then orLW r else x
theorem orL_drop {l : List Int} {k : Nat} (h : k < l.length) : orLW (l.drop k) = if el l k = 0 then orLW (l.drop (k + 1)) else el l k := by
  rw [List.drop_eq_getElem_cons h]
  simp [orLW, el, h]


theorem or_lex (x y : Int) : orLW [cmpI (x / 18446744073709551616) (y / 18446744073709551616), cmpI (x % 18446744073709551616) (y % 18446744073709551616)] = cmpI x y := by
  unfold orLW
  split
  · rename_i h
    have := lex_cmp0 x y 18446744073709551616 (by omega) h
    rw [← this]
    unfold orLW orLW
    split
    · rename_i h2; exact h2.symm
    · rfl
  · rename_i h
    exact (lex_cmp x y 18446744073709551616 (by omega) h).symm



def ratI (a b c d : Int) : Int := if b ≤ 0 then (if d ≤ 0 then 0 else 1) else if d ≤ 0 then -1 else cmpI (satNum a * satNum d) (satNum c * satNum b)


theorem mul_split63 (a b : Int) (h0 : 0 ≤ a) (h1 : a ≤ 9223372036854775807) (k0 : 0 ≤ b) (k1 : b ≤ 9223372036854775807) :
    ∃ p q r s : Int, a / 4294967296 * (b / 4294967296) = p ∧ a / 4294967296 * (b % 4294967296) = q ∧ a % 4294967296 * (b / 4294967296) = r ∧ a % 4294967296 * (b % 4294967296) = s ∧
      0 ≤ p ∧ p ≤ 4611686014132420609 ∧ 0 ≤ q ∧ q ≤ 9223372030412324865 ∧ 0 ≤ r ∧ r ≤ 9223372030412324865 ∧ 0 ≤ s ∧ s ≤ 18446744065119617025 ∧
      a * b = p * 18446744073709551616 + (q + r) * 4294967296 + s := by
  obtain ⟨p, q, r, s, e1, e2, e3, e4, p0, p1, q0, q1, r0, r1, s0, s1, e⟩ := mul_split a b h0 (by omega) k0 (by omega)
  refine ⟨p, q, r, s, e1, e2, e3, e4, p0, ?_, q0, ?_, r0, ?_, s0, s1, e⟩
  · rw [← e1]; have := Int.mul_le_mul (show a / 4294967296 ≤ 2147483647 by omega) (show b / 4294967296 ≤ 2147483647 by omega) (by omega) (by omega); omega
  · rw [← e2]; have := Int.mul_le_mul (show a / 4294967296 ≤ 2147483647 by omega) (show b % 4294967296 ≤ 4294967295 by omega) (by omega) (by omega); omega
  · rw [← e3]; have := Int.mul_le_mul (show a % 4294967296 ≤ 4294967295 by omega) (show b / 4294967296 ≤ 2147483647 by omega) (by omega) (by omega); omega





theorem ret_u64' {a b : Int} (h : a = b) : Ending.returned (.tuple #[.int .u64 a, .int .u64 0]) = .returned (.tuple #[.int .u64 b, .int .u64 0]) := by rw [h]


def shareI (whole percent : Int) : Int := (satNum whole * satNum (min percent 100) + 99) / 100

theorem share_bd (a p : Int) (ha : InI a) : 0 ≤ satNum a * satNum (min p 100) ∧ satNum a * satNum (min p 100) ≤ 922337203685477580700 := by
  have h := satNum_bd a ha
  have h2 : 0 ≤ satNum (min p 100) ∧ satNum (min p 100) ≤ 100 := by unfold satNum; omega
  exact ⟨Int.mul_nonneg h.1 h2.1, by have := Int.mul_le_mul h.2 h2.2 h2.1 (by omega); omega⟩

end Go.Proofs.YtcaenbobfneejaaGreatDoor
