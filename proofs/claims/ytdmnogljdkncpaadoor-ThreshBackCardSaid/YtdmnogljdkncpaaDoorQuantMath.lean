
/- Quantities: plain mathematics, over bytes. -/
import Derived.Test.YtdmnogljdkncpaaDoorSat
import Derived.Lib.ItoaNum
namespace Go.Proofs.YtdmnogljdkncpaaDoor
open Go.RowKit
set_option linter.unusedVariables false
set_option linter.unusedSimpArgs false

def isDg (c : UInt8) : Bool := decide (48 ≤ c.toNat) && decide (c.toNat ≤ 57)
def dgs (l : List UInt8) : List UInt8 := l.takeWhile isDg
def dgStep (n : Int) (c : UInt8) : Int := satAdd (satMul n 10) ((c.toNat : Int) - 48)
def dgn (l : List UInt8) : Int := l.foldl dgStep 0
def unitL (l : List UInt8) : Int := if l = [] then 1 else if l = [107] then 1000 else if l = [77] then 1000000 else if l = [71] then 1000000000 else if l = [84] then 1000000000000 else if l = [75, 105] then 1024 else if l = [77, 105] then 1048576 else if l = [71, 105] then 1073741824 else if l = [84, 105] then 1099511627776 else 0
/-- How many digits stand ahead. -/
def dgk (l : List UInt8) : Nat := (dgs l).length
/-- Is it a quantity? -/
def qOk (l : List UInt8) : Bool := !(dgk l == 0) && !(unitL (l.drop (dgk l)) == 0)
/-- Its number. -/
def qNum (l : List UInt8) : Int := satMul (dgn (dgs l)) (unitL (l.drop (dgk l)))

theorem inI_mul (a b : Int) : InI (satMul a b) := by
  unfold satMul InI
  have : (0 : Int) ≤ max a 0 * max b 0 := Int.mul_nonneg (by omega) (by omega)
  omega
theorem unitL_bd (l : List UInt8) : 0 ≤ unitL l ∧ unitL l ≤ 1099511627776 := by
  unfold unitL; repeat (split; · omega)
  omega
theorem dgStep_in (n : Int) (c : UInt8) : InI (dgStep n c) := inI_add _ _
theorem dgn_snoc (l : List UInt8) (c : UInt8) : dgn (l ++ [c]) = dgStep (dgn l) c := by unfold dgn; rw [List.foldl_append]; rfl
theorem dgn_in (l : List UInt8) : InI (dgn l) := by
  rcases List.eq_nil_or_concat l with rfl | ⟨r, c, rfl⟩
  · exact inI_0
  · rw [List.concat_eq_append, dgn_snoc]; exact dgStep_in _ _
theorem dgk_le (l : List UInt8) : dgk l ≤ l.length := by unfold dgk dgs; exact (List.takeWhile_prefix _).length_le
theorem take_dgk (l : List UInt8) : l.take (dgk l) = dgs l := by
  have h : dgs l <+: l := List.takeWhile_prefix _
  exact (List.prefix_iff_eq_take.1 h).symm
theorem tw_mem {α : Type} {p : α → Bool} {x : α} : ∀ (l : List α), x ∈ l.takeWhile p → p x = true
  | [], h => by simp at h
  | a :: l, h => by
    rw [List.takeWhile_cons] at h
    split at h
    · rename_i ha
      rcases List.mem_cons.1 h with rfl | h
      · exact ha
      · exact tw_mem l h
    · cases h
/-- Within the digits each byte is one; the one behind them is none. -/
theorem dg_in {l : List UInt8} {k : Nat} (hk : k < dgk l) (h : k < l.length) : isDg l[k] = true := by
  have e : (dgs l)[k]'(hk) = l[k] := by
    have := take_dgk l
    have h2 : (l.take (dgk l))[k]'(by rw [List.length_take]; omega) = l[k] := List.getElem_take
    rw [← h2]; congr 1; exact this.symm
  rw [← e]
  exact tw_mem _ (List.getElem_mem hk)
theorem tw_split {α : Type} (p : α → Bool) : ∀ {l : List α} {k : Nat}, (∀ j (h : j < l.length), j < k → p l[j] = true) → (∀ (h : k < l.length), p l[k] = false) → k ≤ l.length → l.takeWhile p = l.take k
  | [], 0, _, _, _ => rfl
  | [], k + 1, _, _, h => by simp at h
  | a :: l, 0, _, h2, _ => by
    have := h2 (by simp)
    simp at this
    simp [List.takeWhile_cons, this]
  | a :: l, k + 1, h1, h2, h3 => by
    have h0 : p a = true := h1 0 (by simp) (by omega)
    have h3' : k ≤ l.length := by rw [List.length_cons] at h3; omega
    have ih := tw_split p (l := l) (k := k) (fun j h hj => h1 (j + 1) (by rw [List.length_cons]; omega) (by omega)) (fun h => h2 (by rw [List.length_cons]; omega)) h3'
    rw [List.takeWhile_cons, if_pos h0, List.take_succ_cons, ih]
/-- The digits are the first k bytes. -/
theorem dgk_is {l : List UInt8} {k : Nat} (h1 : ∀ j (h : j < l.length), j < k → isDg l[j] = true) (h2 : ∀ (h : k < l.length), isDg l[k] = false) (h3 : k ≤ l.length) : dgk l = k ∧ dgs l = l.take k := by
  have e : dgs l = l.take k := tw_split isDg h1 h2 h3
  exact ⟨by unfold dgk; rw [e, List.length_take]; omega, e⟩

/-! Decimal digits. -/
open Go.Lib (decDigits)
theorem dd_small {u : Nat} (h : u < 10) : decDigits u = [UInt8.ofNat (48 + u)] := by rw [decDigits, dif_pos h]
theorem dd_big {u : Nat} (h : ¬ u < 10) : decDigits u = decDigits (u / 10) ++ [UInt8.ofNat (48 + u % 10)] := by rw [decDigits, dif_neg h]
theorem dgStep_nat (n : Nat) (d : Nat) (hd : d < 10) (h : 10 * n + d ≤ 9223372036854775807) : dgStep (n : Int) (UInt8.ofNat (48 + d)) = ((10 * n + d : Nat) : Int) := by
  unfold dgStep
  have e : (UInt8.ofNat (48 + d)).toNat = 48 + d := by simp; omega
  rw [e]
  unfold satAdd satMul
  have : max (n : Int) 0 * max (10 : Int) 0 = 10 * n := by rw [Int.max_eq_left (by omega), Int.max_eq_left (by omega)]; omega
  rw [this]; omega
theorem dgn_dd (u : Nat) (h : u ≤ 9223372036854775807) : dgn (decDigits u) = u := by
  induction u using Nat.strongRecOn with
  | _ u ih =>
    by_cases h10 : u < 10
    · rw [dd_small h10]
      have := dgStep_nat 0 u h10 (by omega)
      show dgStep 0 _ = _
      simpa using this
    · rw [dd_big h10, dgn_snoc, ih (u / 10) (by omega) (by omega), dgStep_nat (u / 10) (u % 10) (by omega) (by omega)]
      congr 1; omega
theorem dd_dg (u : Nat) : ∀ c ∈ decDigits u, isDg c = true := by
  induction u using Nat.strongRecOn with
  | _ u ih =>
    intro c hc
    have one : ∀ d : Nat, d < 10 → isDg (UInt8.ofNat (48 + d)) = true := fun d hd => by
      unfold isDg
      have e : (UInt8.ofNat (48 + d)).toNat = 48 + d := by simp; omega
      rw [e]; simp; omega
    by_cases h10 : u < 10
    · rw [dd_small h10, List.mem_singleton] at hc; rw [hc]; exact one u h10
    · rw [dd_big h10] at hc
      rcases List.mem_append.1 hc with hc | hc
      · exact ih (u / 10) (by omega) c hc
      · rw [List.mem_singleton] at hc; rw [hc]; exact one _ (by omega)
theorem dd_pos (u : Nat) : decDigits u ≠ [] := by
  by_cases h10 : u < 10
  · rw [dd_small h10]; simp
  · rw [dd_big h10]; simp
/-- Digits, and something behind them that begins with none. -/
theorem dgs_app {d r : List UInt8} (hd : ∀ c ∈ d, isDg c = true) (hr : ∀ c q, r = c :: q → isDg c = false) : dgs (d ++ r) = d ∧ dgk (d ++ r) = d.length ∧ (d ++ r).drop (dgk (d ++ r)) = r := by
  have e : dgs (d ++ r) = d := by
    unfold dgs
    rw [List.takeWhile_append_of_pos hd]
    cases r with
    | nil => simp
    | cons c q => rw [List.takeWhile_cons, if_neg (by rw [hr c q rfl]; simp)]; simp
  have e2 : dgk (d ++ r) = d.length := by unfold dgk; rw [e]
  exact ⟨e, e2, by rw [e2, List.drop_left]⟩
theorem unit_dg {r : List UInt8} (h : unitL r ≠ 0) : ∀ c q, r = c :: q → isDg c = false := by
  intro c q e
  subst e
  unfold unitL at h
  repeat (split at h; · rename_i h2; first | (cases h2; rfl) | cases h2)
  exact absurd rfl h
/-- What is read of digits with a unit. -/
theorem q_of {d r : List UInt8} (hd : ∀ c ∈ d, isDg c = true) (h0 : d ≠ []) (hr : unitL r ≠ 0) : qOk (d ++ r) = true ∧ qNum (d ++ r) = satMul (dgn d) (unitL r) := by
  obtain ⟨e1, e2, e3⟩ := dgs_app hd (unit_dg hr)
  unfold qOk qNum
  rw [e1, e3, e2]
  have : d.length ≠ 0 := fun h => h0 (List.eq_nil_of_length_eq_zero h)
  simp [this, hr]
end Go.Proofs.YtdmnogljdkncpaaDoor
