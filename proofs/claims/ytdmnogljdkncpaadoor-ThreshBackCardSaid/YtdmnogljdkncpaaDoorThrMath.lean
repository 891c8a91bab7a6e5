
/- Thresholds' texts: plain mathematics, over bytes. -/
import Derived.Test.YtdmnogljdkncpaaDoorQuantMath
import Derived.Lib.IndexMore
import Derived.Lib.AtoiAll
namespace Go.Proofs.YtdmnogljdkncpaaDoor
open Go.RowKit
set_option linter.unusedVariables false
set_option linter.unusedSimpArgs false

/-- What stands ahead of the first byte c, what stands behind it, and whether it is there. -/
def cutC (c : UInt8) : List UInt8 → List UInt8 × List UInt8 × Bool
  | [] => ([], [], false)
  | b :: l => if b == c then ([], l, true) else (b :: (cutC c l).1, (cutC c l).2.1, (cutC c l).2.2)
theorem index_one (b c : UInt8) (l : List UInt8) : Lib.index (b :: l) [c] = if b == c then 0 else if Lib.index l [c] == -1 then -1 else Lib.index l [c] + 1 := by
  conv => lhs; unfold Lib.index
  have e : ([c].isPrefixOf (b :: l)) = (b == c) := by
    simp only [List.isPrefixOf]
    rw [Bool.and_true]
    rcases Classical.em (b = c) with h | h
    · subst h; simp
    · rw [beq_eq_false_iff_ne.2 h, beq_eq_false_iff_ne.2 (Ne.symm h)]
  rw [e]
theorem index_bd (c : UInt8) : ∀ l : List UInt8, -1 ≤ Lib.index l [c]
  | [] => by unfold Lib.index; simp
  | b :: l => by
    have := index_bd c l
    rw [index_one]
    split
    · omega
    · split <;> omega
theorem cut_one (c : UInt8) : ∀ l : List UInt8, Lib.cut l [c] = cutC c l
  | [] => by
    unfold Lib.cut cutC Lib.index
    rfl
  | b :: l => by
    have ih := cut_one c l
    have hb := index_bd c l
    unfold cutC
    rw [← ih]
    unfold Lib.cut
    rw [index_one]
    cases hbc : b == c with
    | true => simp
    | false =>
      simp only [Bool.false_eq_true, if_false]
      cases h1 : Lib.index l [c] == -1 with
      | true =>
        have h2 : Lib.index l [c] = -1 := by simpa using h1
        rw [h2]; simp
      | false =>
        have h2 : Lib.index l [c] ≠ -1 := by simpa using h1
        simp only [Bool.false_eq_true, if_false]
        rw [if_pos (by omega), if_pos (by omega)]
        obtain ⟨k, hk⟩ : ∃ k : Nat, Lib.index l [c] = k := ⟨(Lib.index l [c]).toNat, by omega⟩
        rw [hk]
        have e1 : ((k : Int) + 1).toNat = k + 1 := by omega
        have e2 : ((k : Int)).toNat = k := by omega
        rw [e1, e2]
        simp [Nat.add_right_comm]
theorem cutC_spec (c : UInt8) : ∀ l : List UInt8, ((cutC c l).2.2 = true ∧ l = (cutC c l).1 ++ c :: (cutC c l).2.1 ∧ c ∉ (cutC c l).1) ∨ (cutC c l = (l, [], false) ∧ c ∉ l)
  | [] => .inr ⟨rfl, by simp⟩
  | b :: l => by
    unfold cutC
    cases hbc : b == c with
    | true =>
      have : b = c := by simpa using hbc
      subst this
      exact .inl ⟨rfl, rfl, by simp⟩
    | false =>
      have hne : b ≠ c := by simpa using hbc
      simp only [Bool.false_eq_true, if_false]
      rcases cutC_spec c l with ⟨h1, h2, h3⟩ | ⟨h1, h2⟩
      · exact .inl ⟨h1, by rw [List.cons_append, ← h2], by simp only [List.mem_cons, not_or]; exact ⟨Ne.symm hne, h3⟩⟩
      · exact .inr ⟨by rw [h1], by simp only [List.mem_cons, not_or]; exact ⟨Ne.symm hne, h2⟩⟩

/-! Numbers in digits without zeros ahead. -/
open Go.Lib (decDigits)
/-- The number from 1 to most that is told in digits. -/
def dgv (l : List UInt8) (most : Int) : Option Int := if 1 ≤ dgn l ∧ dgn l ≤ most ∧ decDigits (dgn l).toNat = l then some (dgn l) else none
theorem dgv_some {l : List UInt8} {most n : Int} (hm : most ≤ 1000) (h : dgv l most = some n) : 1 ≤ n ∧ n ≤ most ∧ l = decDigits n.toNat := by
  unfold dgv at h
  split at h
  · rename_i hc
    simp only [Option.some.injEq] at h; subst h
    exact ⟨hc.1, hc.2.1, hc.2.2.symm⟩
  · cases h
theorem dgv_of {most n : Int} (h1 : 1 ≤ n) (h2 : n ≤ most) (hm : most ≤ 1000) : dgv (decDigits n.toNat) most = some n := by
  have e := dgn_dd n.toNat (by omega)
  rw [Int.toNat_of_nonneg (by omega)] at e
  unfold dgv
  rw [e, if_pos ⟨h1, h2, rfl⟩]
/-- The value of digits, without a bound. -/
def valN (acc : Nat) (l : List UInt8) : Nat := l.foldl (fun n c => n * 10 + (c.toNat - 48)) acc
theorem valN_snoc (acc : Nat) (l : List UInt8) (c : UInt8) : valN acc (l ++ [c]) = valN acc l * 10 + (c.toNat - 48) := by unfold valN; rw [List.foldl_append]; rfl
theorem valN_dd (u : Nat) : valN 0 (decDigits u) = u := by
  induction u using Nat.strongRecOn with
  | _ u ih =>
    by_cases h10 : u < 10
    · rw [dd_small h10]
      show 0 * 10 + ((UInt8.ofNat (48 + u)).toNat - 48) = u
      have e : (UInt8.ofNat (48 + u)).toNat = 48 + u := by simp; omega
      rw [e]; omega
    · rw [dd_big h10, valN_snoc, ih (u / 10) (by omega)]
      have e : (UInt8.ofNat (48 + u % 10)).toNat = 48 + u % 10 := by simp; omega
      rw [e]; omega
theorem valN_ge (acc : Nat) (l : List UInt8) : acc ≤ valN acc l := by
  induction l generalizing acc with
  | nil => exact Nat.le_refl _
  | cons c l ih =>
    have := ih (acc * 10 + (c.toNat - 48))
    show acc ≤ valN (acc * 10 + (c.toNat - 48)) l
    omega
theorem parse_digits : ∀ (l : List UInt8) (acc : Nat), (∀ c ∈ l, isDg c = true) → valN acc l < 1000000 → Lib.parseUint10 acc l = .ok (valN acc l)
  | [], acc, _, _ => rfl
  | c :: l, acc, hd, hv => by
    have hc := hd c List.mem_cons_self
    have hg := valN_ge (acc * 10 + (c.toNat - 48)) l
    have hv' : valN (acc * 10 + (c.toNat - 48)) l < 1000000 := hv
    unfold isDg at hc
    simp only [Bool.and_eq_true, decide_eq_true_eq] at hc
    unfold Lib.parseUint10
    rw [if_pos hc, if_neg (by omega), if_neg (by omega), parse_digits l _ (fun x hx => hd x (List.mem_cons_of_mem _ hx)) hv']
    rfl
theorem atoi_dd (u : Nat) (h : u ≤ 1000) : Lib.atoiAll (decDigits u) = .ok (u : Int) := by
  have hd := dd_dg u
  have hv := valN_dd u
  cases hl : decDigits u with
  | nil => exact absurd hl (dd_pos u)
  | cons c r =>
    rw [hl] at hd hv
    have hc := hd c List.mem_cons_self
    unfold isDg at hc
    simp only [Bool.and_eq_true, decide_eq_true_eq] at hc
    unfold Lib.atoiAll
    simp only
    rw [if_neg (by omega)]
    have hp : Lib.parseMag (c :: r) = .ok u := by
      unfold Lib.parseMag
      rw [if_neg (by simp), parse_digits (c :: r) 0 hd (by rw [hv]; omega), hv]
    rw [hp]
    simp only
    rw [if_neg (by omega), if_neg (by omega), if_neg (by omega)]
end Go.Proofs.YtdmnogljdkncpaaDoor
