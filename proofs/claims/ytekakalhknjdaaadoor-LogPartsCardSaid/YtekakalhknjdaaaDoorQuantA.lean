
/- Quantities: plain mathematics, over bytes. Thresholds' texts: plain mathematics, over bytes. quant.Unit, quant.Read, bilgeref05.Read: contracts. quant.Units, bilgeref05.Names, bilgeref05.Unit: contracts. Thresholds' texts: the two readings are one. -/
import Derived.Test.YtekakalhknjdaaaDoorSat
import Derived.Lib.ItoaNum
import Derived.Lib.IndexMore
import Derived.Lib.AtoiAll
import Derived.Lib.Strings
namespace Go.Proofs.YtekakalhknjdaaaDoor
open Go.RowKit
set_option linter.unusedVariables false
set_option linter.unusedSimpArgs false

def isDg (c : UInt8) : Bool := decide (48 ≤ c.toNat) && decide (c.toNat ≤ 57)
def dgs (l : List UInt8) : List UInt8 := l.takeWhile isDg
def dgStep (n : Int) (c : UInt8) : Int := satAdd (satMul n 10) ((c.toNat : Int) - 48)
def dgn (l : List UInt8) : Int := l.foldl dgStep 0
def unitL (l : List UInt8) : Int := if l = [] then 1 else if l = [107] then 1000 else if l = [77] then 1000000 else if l = [71] then 1000000000 else if l = [84] then 1000000000000 else if l = [75, 105] then 1024 else if l = [77, 105] then 1048576 else if l = [71, 105] then 1073741824 else if l = [84, 105] then 1099511627776 else 0
/-- How many digits stand ahead. -/
def dgk (l : List UInt8) : Nat := (dgs l).length
/-- Is it a quantity? -/
def qOk (l : List UInt8) : Bool := !(dgk l == 0) && !(unitL (l.drop (dgk l)) == 0)
/-- Its number. -/
def qNum (l : List UInt8) : Int := satMul (dgn (dgs l)) (unitL (l.drop (dgk l)))

theorem inI_mul (a b : Int) : InI (satMul a b) := by
  unfold satMul InI
  have : (0 : Int) ≤ max a 0 * max b 0 := Int.mul_nonneg (by omega) (by omega)
  omega
theorem unitL_bd (l : List UInt8) : 0 ≤ unitL l ∧ unitL l ≤ 1099511627776 := by
  unfold unitL; repeat (split; · omega)
  omega
theorem dgStep_in (n : Int) (c : UInt8) : InI (dgStep n c) := inI_add _ _
theorem dgn_snoc (l : List UInt8) (c : UInt8) : dgn (l ++ [c]) = dgStep (dgn l) c := by unfold dgn; rw [List.foldl_append]; rfl
theorem dgn_in (l : List UInt8) : InI (dgn l) := by
  rcases List.eq_nil_or_concat l with rfl | ⟨r, c, rfl⟩
  · exact inI_0
  · rw [List.concat_eq_append, dgn_snoc]; exact dgStep_in _ _
theorem dgk_le (l : List UInt8) : dgk l ≤ l.length := by unfold dgk dgs; exact (List.takeWhile_prefix _).length_le
theorem take_dgk (l : List UInt8) : l.take (dgk l) = dgs l := by
  have h : dgs l <+: l := List.takeWhile_prefix _
  exact (List.prefix_iff_eq_take.1 h).symm
theorem tw_mem {α : Type} {p : α → Bool} {x : α} : ∀ (l : List α), x ∈ l.takeWhile p → p x = true
  | [], h => by simp at h
  | a :: l, h => by
    rw [List.takeWhile_cons] at h
    split at h
    · rename_i ha
      rcases List.mem_cons.1 h with rfl | h
      · exact ha
      · exact tw_mem l h
    · cases h
/-- Within the digits each byte is one; the one behind them is none. -/
theorem dg_in {l : List UInt8} {k : Nat} (hk : k < dgk l) (h : k < l.length) : isDg l[k] = true := by
  have e : (dgs l)[k]'(hk) = l[k] := by
    have := take_dgk l
    have h2 : (l.take (dgk l))[k]'(by rw [List.length_take]; omega) = l[k] := List.getElem_take
    rw [← h2]; congr 1; exact this.symm
  rw [← e]
  exact tw_mem _ (List.getElem_mem hk)
theorem tw_split {α : Type} (p : α → Bool) : ∀ {l : List α} {k : Nat}, (∀ j (h : j < l.length), j < k → p l[j] = true) → (∀ (h : k < l.length), p l[k] = false) → k ≤ l.length → l.takeWhile p = l.take k
  | [], 0, _, _, _ => rfl
  | [], k + 1, _, _, h => by simp at h
  | a :: l, 0, _, h2, _ => by
    have := h2 (by simp)
    simp at this
    simp [List.takeWhile_cons, this]
  | a :: l, k + 1, h1, h2, h3 => by
    have h0 : p a = true := h1 0 (by simp) (by omega)
    have h3' : k ≤ l.length := by rw [List.length_cons] at h3; omega
    have ih := tw_split p (l := l) (k := k) (fun j h hj => h1 (j + 1) (by rw [List.length_cons]; omega) (by omega)) (fun h => h2 (by rw [List.length_cons]; omega)) h3'
    rw [List.takeWhile_cons, if_pos h0, List.take_succ_cons, ih]
/-- The digits are the first k bytes. -/
theorem dgk_is {l : List UInt8} {k : Nat} (h1 : ∀ j (h : j < l.length), j < k → isDg l[j] = true) (h2 : ∀ (h : k < l.length), isDg l[k] = false) (h3 : k ≤ l.length) : dgk l = k ∧ dgs l = l.take k := by
  have e : dgs l = l.take k := tw_split isDg h1 h2 h3
  exact ⟨by unfold dgk; rw [e, List.length_take]; omega, e⟩

/-! Decimal digits. -/
open Go.Lib (decDigits)
theorem dd_small {u : Nat} (h : u < 10) : decDigits u = [UInt8.ofNat (48 + u)] := by rw [decDigits, dif_pos h]
theorem dd_big {u : Nat} (h : ¬ u < 10) : decDigits u = decDigits (u / 10) ++ [UInt8.ofNat (48 + u % 10)] := by rw [decDigits, dif_neg h]
theorem dgStep_nat (n : Nat) (d : Nat) (hd : d < 10) (h : 10 * n + d ≤ 9223372036854775807) : dgStep (n : Int) (UInt8.ofNat (48 + d)) = ((10 * n + d : Nat) : Int) := by
  unfold dgStep
  have e : (UInt8.ofNat (48 + d)).toNat = 48 + d := by simp; omega
  rw [e]
  unfold satAdd satMul
  have : max (n : Int) 0 * max (10 : Int) 0 = 10 * n := by rw [Int.max_eq_left (by omega), Int.max_eq_left (by omega)]; omega
  rw [this]; omega
theorem dgn_dd (u : Nat) (h : u ≤ 9223372036854775807) : dgn (decDigits u) = u := by
  induction u using Nat.strongRecOn with
  | _ u ih =>
    by_cases h10 : u < 10
    · rw [dd_small h10]
      have := dgStep_nat 0 u h10 (by omega)
      show dgStep 0 _ = _
      simpa using this
    · rw [dd_big h10, dgn_snoc, ih (u / 10) (by omega) (by omega), dgStep_nat (u / 10) (u % 10) (by omega) (by omega)]
      congr 1; omega
theorem dd_dg (u : Nat) : ∀ c ∈ decDigits u, isDg c = true := by
  induction u using Nat.strongRecOn with
  | _ u ih =>
    intro c hc
    have one : ∀ d : Nat, d < 10 → isDg (UInt8.ofNat (48 + d)) = true := fun d hd => by
      unfold isDg
      have e : (UInt8.ofNat (48 + d)).toNat = 48 + d := by simp; omega
      rw [e]; simp; omega
    by_cases h10 : u < 10
    · rw [dd_small h10, List.mem_singleton] at hc; rw [hc]; exact one u h10
    · rw [dd_big h10] at hc
      rcases List.mem_append.1 hc with hc | hc
      · exact ih (u / 10) (by omega) c hc
      · rw [List.mem_singleton] at hc; rw [hc]; exact one _ (by omega)
theorem dd_pos (u : Nat) : decDigits u ≠ [] := by
  by_cases h10 : u < 10
  · rw [dd_small h10]; simp
  · rw [dd_big h10]; simp
/-- Digits, and something behind them that begins with none. -/
theorem dgs_app {d r : List UInt8} (hd : ∀ c ∈ d, isDg c = true) (hr : ∀ c q, r = c :: q → isDg c = false) : dgs (d ++ r) = d ∧ dgk (d ++ r) = d.length ∧ (d ++ r).drop (dgk (d ++ r)) = r := by
  have e : dgs (d ++ r) = d := by
    unfold dgs
    rw [List.takeWhile_append_of_pos hd]
    cases r with
    | nil => simp
    | cons c q => rw [List.takeWhile_cons, if_neg (by rw [hr c q rfl]; simp)]; simp
  have e2 : dgk (d ++ r) = d.length := by unfold dgk; rw [e]
  exact ⟨e, e2, by rw [e2, List.drop_left]⟩
theorem unit_dg {r : List UInt8} (h : unitL r ≠ 0) : ∀ c q, r = c :: q → isDg c = false := by
  intro c q e
  subst e
  unfold unitL at h
  repeat (split at h; · rename_i h2; first | (cases h2; rfl) | cases h2)
  exact absurd rfl h
/-- What is read of digits with a unit. -/
theorem q_of {d r : List UInt8} (hd : ∀ c ∈ d, isDg c = true) (h0 : d ≠ []) (hr : unitL r ≠ 0) : qOk (d ++ r) = true ∧ qNum (d ++ r) = satMul (dgn d) (unitL r) := by
  obtain ⟨e1, e2, e3⟩ := dgs_app hd (unit_dg hr)
  unfold qOk qNum
  rw [e1, e3, e2]
  have : d.length ≠ 0 := fun h => h0 (List.eq_nil_of_length_eq_zero h)
  simp [this, hr]
end Go.Proofs.YtekakalhknjdaaaDoor
namespace Go.Proofs.YtekakalhknjdaaaDoor
open Go.RowKit
set_option linter.unusedVariables false
set_option linter.unusedSimpArgs false

/-- What stands ahead of the first byte c, what stands behind it, and whether it is there. -/
def cutC (c : UInt8) : List UInt8 → List UInt8 × List UInt8 × Bool
  | [] => ([], [], false)
  | b :: l => if b == c then ([], l, true) else (b :: (cutC c l).1, (cutC c l).2.1, (cutC c l).2.2)
theorem index_one (b c : UInt8) (l : List UInt8) : Lib.index (b :: l) [c] = if b == c then 0 else if Lib.index l [c] == -1 then -1 else Lib.index l [c] + 1 := by
  conv => lhs; unfold Lib.index
  have e : ([c].isPrefixOf (b :: l)) = (b == c) := by
    simp only [List.isPrefixOf]
    rw [Bool.and_true]
    rcases Classical.em (b = c) with h | h
    · subst h; simp
    · rw [beq_eq_false_iff_ne.2 h, beq_eq_false_iff_ne.2 (Ne.symm h)]
  rw [e]
theorem index_bd (c : UInt8) : ∀ l : List UInt8, -1 ≤ Lib.index l [c]
  | [] => by unfold Lib.index; simp
  | b :: l => by
    have := index_bd c l
    rw [index_one]
    split
    · omega
    · split <;> omega
theorem cut_one (c : UInt8) : ∀ l : List UInt8, Lib.cut l [c] = cutC c l
  | [] => by
    unfold Lib.cut cutC Lib.index
    rfl
  | b :: l => by
    have ih := cut_one c l
    have hb := index_bd c l
    unfold cutC
    rw [← ih]
    unfold Lib.cut
    rw [index_one]
    cases hbc : b == c with
    | true => simp
    | false =>
      simp only [Bool.false_eq_true, if_false]
      cases h1 : Lib.index l [c] == -1 with
      | true =>
        have h2 : Lib.index l [c] = -1 := by simpa using h1
        rw [h2]; simp
      | false =>
        have h2 : Lib.index l [c] ≠ -1 := by simpa using h1
        simp only [Bool.false_eq_true, if_false]
        rw [if_pos (by omega), if_pos (by omega)]
        obtain ⟨k, hk⟩ : ∃ k : Nat, Lib.index l [c] = k := ⟨(Lib.index l [c]).toNat, by omega⟩
        rw [hk]
        have e1 : ((k : Int) + 1).toNat = k + 1 := by omega
        have e2 : ((k : Int)).toNat = k := by omega
        rw [e1, e2]
        simp [Nat.add_right_comm]
theorem cutC_spec (c : UInt8) : ∀ l : List UInt8, ((cutC c l).2.2 = true ∧ l = (cutC c l).1 ++ c :: (cutC c l).2.1 ∧ c ∉ (cutC c l).1) ∨ (cutC c l = (l, [], false) ∧ c ∉ l)
  | [] => .inr ⟨rfl, by simp⟩
  | b :: l => by
    unfold cutC
    cases hbc : b == c with
    | true =>
      have : b = c := by simpa using hbc
      subst this
      exact .inl ⟨rfl, rfl, by simp⟩
    | false =>
      have hne : b ≠ c := by simpa using hbc
      simp only [Bool.false_eq_true, if_false]
      rcases cutC_spec c l with ⟨h1, h2, h3⟩ | ⟨h1, h2⟩
      · exact .inl ⟨h1, by rw [List.cons_append, ← h2], by simp only [List.mem_cons, not_or]; exact ⟨Ne.symm hne, h3⟩⟩
      · exact .inr ⟨by rw [h1], by simp only [List.mem_cons, not_or]; exact ⟨Ne.symm hne, h2⟩⟩

/-! Numbers in digits without zeros ahead. -/
open Go.Lib (decDigits)
/-- The number from 1 to most that is told in digits. -/
def dgv (l : List UInt8) (most : Int) : Option Int := if 1 ≤ dgn l ∧ dgn l ≤ most ∧ decDigits (dgn l).toNat = l then some (dgn l) else none
theorem dgv_some {l : List UInt8} {most n : Int} (hm : most ≤ 1000) (h : dgv l most = some n) : 1 ≤ n ∧ n ≤ most ∧ l = decDigits n.toNat := by
  unfold dgv at h
  split at h
  · rename_i hc
    simp only [Option.some.injEq] at h; subst h
    exact ⟨hc.1, hc.2.1, hc.2.2.symm⟩
  · cases h
theorem dgv_of {most n : Int} (h1 : 1 ≤ n) (h2 : n ≤ most) (hm : most ≤ 1000) : dgv (decDigits n.toNat) most = some n := by
  have e := dgn_dd n.toNat (by omega)
  rw [Int.toNat_of_nonneg (by omega)] at e
  unfold dgv
  rw [e, if_pos ⟨h1, h2, rfl⟩]
/-- The value of digits, without a bound. -/
def valN (acc : Nat) (l : List UInt8) : Nat := l.foldl (fun n c => n * 10 + (c.toNat - 48)) acc
theorem valN_snoc (acc : Nat) (l : List UInt8) (c : UInt8) : valN acc (l ++ [c]) = valN acc l * 10 + (c.toNat - 48) := by unfold valN; rw [List.foldl_append]; rfl
theorem valN_dd (u : Nat) : valN 0 (decDigits u) = u := by
  induction u using Nat.strongRecOn with
  | _ u ih =>
    by_cases h10 : u < 10
    · rw [dd_small h10]
      show 0 * 10 + ((UInt8.ofNat (48 + u)).toNat - 48) = u
      have e : (UInt8.ofNat (48 + u)).toNat = 48 + u := by simp; omega
      rw [e]; omega
    · rw [dd_big h10, valN_snoc, ih (u / 10) (by omega)]
      have e : (UInt8.ofNat (48 + u % 10)).toNat = 48 + u % 10 := by simp; omega
      rw [e]; omega
theorem valN_ge (acc : Nat) (l : List UInt8) : acc ≤ valN acc l := by
  induction l generalizing acc with
  | nil => exact Nat.le_refl _
  | cons c l ih =>
    have := ih (acc * 10 + (c.toNat - 48))
    show acc ≤ valN (acc * 10 + (c.toNat - 48)) l
    omega
theorem parse_digits : ∀ (l : List UInt8) (acc : Nat), (∀ c ∈ l, isDg c = true) → valN acc l < 1000000 → Lib.parseUint10 acc l = .ok (valN acc l)
  | [], acc, _, _ => rfl
  | c :: l, acc, hd, hv => by
    have hc := hd c List.mem_cons_self
    have hg := valN_ge (acc * 10 + (c.toNat - 48)) l
    have hv' : valN (acc * 10 + (c.toNat - 48)) l < 1000000 := hv
    unfold isDg at hc
    simp only [Bool.and_eq_true, decide_eq_true_eq] at hc
    unfold Lib.parseUint10
    rw [if_pos hc, if_neg (by omega), if_neg (by omega), parse_digits l _ (fun x hx => hd x (List.mem_cons_of_mem _ hx)) hv']
    rfl
theorem atoi_dd (u : Nat) (h : u ≤ 1000) : Lib.atoiAll (decDigits u) = .ok (u : Int) := by
  have hd := dd_dg u
  have hv := valN_dd u
  cases hl : decDigits u with
  | nil => exact absurd hl (dd_pos u)
  | cons c r =>
    rw [hl] at hd hv
    have hc := hd c List.mem_cons_self
    unfold isDg at hc
    simp only [Bool.and_eq_true, decide_eq_true_eq] at hc
    unfold Lib.atoiAll
    simp only
    rw [if_neg (by omega)]
    have hp : Lib.parseMag (c :: r) = .ok u := by
      unfold Lib.parseMag
      rw [if_neg (by simp), parse_digits (c :: r) 0 hd (by rw [hv]; omega), hv]
    rw [hp]
    simp only
    rw [if_neg (by omega), if_neg (by omega), if_neg (by omega)]
end Go.Proofs.YtekakalhknjdaaaDoor
namespace Go.Proofs.YtekakalhknjdaaaDoor
open Go.RowKit
set_option linter.unusedVariables false
set_option linter.unusedSimpArgs false

theorem sl (s : ByteArray) : s.toList = s.data.toList := ByteArray.toList_eq s
theorem sl_len (s : ByteArray) : s.toList.length = s.size := by rw [sl]; simp
theorem sl_drop (s : ByteArray) (k : Nat) : (s.extract k s.size).toList = s.toList.drop k := by
  rw [Lib.extract_toList, sl]
  apply List.take_of_length_le
  simp
theorem sl_take (s : ByteArray) (k : Nat) : (s.extract 0 k).toList = s.toList.take k := by
  rw [Lib.extract_toList, sl]; simp
theorem sl_snoc (s : ByteArray) {k : Nat} (h : k < s.size) : s.toList.take (k + 1) = s.toList.take k ++ [s[k]] := by
  rw [sl, List.take_succ_eq_append_getElem (by simpa using h)]; rfl
theorem stop_at (s : ByteArray) {k : Nat} (h1 : ∀ j (h : j < s.size), j < k → isDg s[j] = true) (h2 : ∀ h : k < s.size, isDg s[k] = false) (h3 : k ≤ s.size) : dgk s.toList = k ∧ dgs s.toList = s.toList.take k := by
  rw [sl]
  exact dgk_is (l := s.data.toList) (fun j h hj => h1 j (by simpa using h) hj) (fun h => h2 (by simpa using h)) (by simpa using h3)
theorem ret_q {a b c d : Int} (h : a = b) (k : c = d) : Ending.returned (.tuple #[.int .i64 a, .int .i64 c]) = .returned (.tuple #[.int .i64 b, .int .i64 d]) := by rw [h, k]
theorem ret_qb {a b : Int} {c d : Bool} (h : a = b) (k : c = d) : Ending.returned (.tuple #[.int .i64 a, .bool c]) = .returned (.tuple #[.int .i64 b, .bool d]) := by rw [h, k]
/-- What is answered: the number, and the error. -/
def qN (l : List UInt8) : Int := if qOk l then qNum l else 0
def qE (l : List UInt8) : Int := if qOk l then 0 else 2

end Go.Proofs.YtekakalhknjdaaaDoor
namespace Go.Proofs.YtekakalhknjdaaaDoor
open Go.RowKit
set_option linter.unusedVariables false
set_option linter.unusedSimpArgs false

def nmL : Nat → List UInt8
  | 0 => [84, 105] | 1 => [84] | 2 => [71, 105] | 3 => [71] | 4 => [77, 105] | 5 => [77] | 6 => [75, 105] | _ => [107]
def nmB (k : Nat) : ByteArray := ⟨(nmL k).toArray⟩
def nmC : List Value := (List.range 8).map fun j => .string (nmB j)
theorem nmB_list (k : Nat) : (nmB k).toList = nmL k := by rw [sl]; rfl
theorem nmC_at {k : Nat} (h : k < 8) : nmC[k]? = some (.string (nmB k)) := by unfold nmC; simp [h]
def unitP (k : Nat) : Int := if k % 2 = 0 then 1024 ^ (4 - k / 2) else 1000 ^ (4 - k / 2)
theorem unit_name {k : Nat} (h : k < 8) : unitL (nmL k) = unitP k := by
  rcases (show k = 0 ∨ k = 1 ∨ k = 2 ∨ k = 3 ∨ k = 4 ∨ k = 5 ∨ k = 6 ∨ k = 7 by omega) with rfl | rfl | rfl | rfl | rfl | rfl | rfl | rfl <;> rfl
theorem unit_some {l : List UInt8} (h : unitL l ≠ 0) : l = [] ∨ ∃ k, k < 8 ∧ l = nmL k := by
  rcases Classical.em (l = []) with e | e
  · exact .inl e
  · right
    unfold unitL at h
    rw [if_neg e] at h
    split at h; · rename_i q; exact ⟨7, by omega, q⟩
    split at h; · rename_i q; exact ⟨5, by omega, q⟩
    split at h; · rename_i q; exact ⟨3, by omega, q⟩
    split at h; · rename_i q; exact ⟨1, by omega, q⟩
    split at h; · rename_i q; exact ⟨6, by omega, q⟩
    split at h; · rename_i q; exact ⟨4, by omega, q⟩
    split at h; · rename_i q; exact ⟨2, by omega, q⟩
    split at h; · rename_i q; exact ⟨0, by omega, q⟩
    exact absurd rfl h
theorem unit_none {l : List UInt8} (h0 : l ≠ []) (h : ∀ j, j < 8 → (nmL j == l) = false) : unitL l = 0 := by
  rcases Int.decEq (unitL l) 0 with e | e
  · rcases unit_some e with q | ⟨k, hk, q⟩
    · exact absurd q h0
    · have := h k hk
      rw [q] at this; simp at this
  · exact e
theorem pw_bd (b : Nat) (j : Nat) (hj : j ≤ 3) (hb : b = 1024 ∨ b = 1000) : (1 : Int) ≤ (b : Int) ^ j ∧ (b : Int) ^ j ≤ 1073741824 := by
  rcases hb with rfl | rfl <;> rcases (show j = 0 ∨ j = 1 ∨ j = 2 ∨ j = 3 by omega) with rfl | rfl | rfl | rfl <;> decide

theorem iem {l : List UInt8} (h : l.isEmpty = false) : l ≠ [] := by intro e; rw [e] at h; cases h
end Go.Proofs.YtekakalhknjdaaaDoor
namespace Go.Proofs.YtekakalhknjdaaaDoor
open Go.RowKit
set_option linter.unusedVariables false
set_option linter.unusedSimpArgs false
open Go.Lib (decDigits)

/-- The reference's number: below 0 it is none. -/
def numR (l : List UInt8) : Int := if l.length = 0 ∨ 4 < l.length ∨ (l.head? = some 48 ∧ 1 < l.length) ∨ l.all isDg = false then -1 else (valN 0 l : Int)
theorem dg_bd {c : UInt8} (h : isDg c = true) : 48 ≤ c.toNat ∧ c.toNat ≤ 57 := by unfold isDg at h; simpa using h
theorem valN_bd (l : List UInt8) (h : ∀ c ∈ l, isDg c = true) : valN 0 l < 10 ^ l.length := by
  obtain ⟨r, rfl⟩ : ∃ r, l = r.reverse := ⟨l.reverse, by simp⟩
  induction r with
  | nil => decide
  | cons c r ih =>
    rw [List.reverse_cons] at h ⊢
    rw [valN_snoc, List.length_append, List.length_singleton, Nat.pow_succ]
    have h1 := ih (fun x hx => h x (List.mem_append_left _ hx))
    have h2 := dg_bd (h c (by simp))
    omega
/-- Digits whose first isn't a nought are their value's. -/
theorem canon (l : List UInt8) (h : ∀ c ∈ l, isDg c = true) (h0 : l ≠ []) (hz : l.head? = some 48 → l.length = 1) : decDigits (valN 0 l) = l ∧ (l.head? ≠ some 48 → 1 ≤ valN 0 l) := by
  obtain ⟨r, rfl⟩ : ∃ r, l = r.reverse := ⟨l.reverse, by simp⟩
  induction r with
  | nil => exact absurd rfl h0
  | cons c r ih =>
    rw [List.reverse_cons] at h hz ⊢
    have hc := dg_bd (h c (by simp))
    have hcc : UInt8.ofNat (48 + (c.toNat - 48)) = c := by
      rw [show 48 + (c.toNat - 48) = c.toNat by omega]; simp
    rw [valN_snoc]
    rcases Classical.em (r = []) with rfl | hr
    · simp only [List.reverse_nil, List.nil_append]
      have e0 : valN 0 [] = 0 := rfl
      rw [e0]
      refine ⟨by rw [dd_small (by omega)]; simp only [Nat.zero_mul, Nat.zero_add]; rw [hcc], fun hne => ?_⟩
      have : c.toNat ≠ 48 := fun e => hne (by simp only [List.head?_cons, Option.some.injEq]; exact UInt8.toNat_inj.1 (by simpa using e))
      omega
    · have hrr : r.reverse ≠ [] := by simpa using hr
      have hhd : (r.reverse ++ [c]).head? = r.reverse.head? := by
        cases hq : r.reverse with
        | nil => exact absurd hq hrr
        | cons x y => rfl
      have hlen : 1 ≤ r.length := by cases r with | nil => exact absurd rfl hr | cons x y => simp
      have hn48 : r.reverse.head? ≠ some 48 := fun e => by
        have := hz (by rw [hhd]; exact e)
        rw [List.length_append, List.length_reverse, List.length_singleton] at this; omega
      obtain ⟨i1, i2⟩ := ih (fun x hx => h x (List.mem_append_left _ hx)) hrr (fun e => absurd e hn48)
      have i3 := i2 hn48
      refine ⟨?_, fun _ => by omega⟩
      rw [dd_big (by omega), show (valN 0 r.reverse * 10 + (c.toNat - 48)) / 10 = valN 0 r.reverse by omega, show (valN 0 r.reverse * 10 + (c.toNat - 48)) % 10 = c.toNat - 48 by omega, i1, hcc]
theorem dd_head (u : Nat) (h : 1 ≤ u) : (decDigits u).head? ≠ some 48 := by
  induction u using Nat.strongRecOn with
  | _ u ih =>
    by_cases h10 : u < 10
    · rw [dd_small h10]
      simp only [List.head?_cons, ne_eq, Option.some.injEq]
      intro e
      have := congrArg UInt8.toNat e
      simp at this; omega
    · rw [dd_big h10]
      have := ih (u / 10) (by omega) (by omega)
      cases hq : decDigits (u / 10) with
      | nil => exact absurd hq (dd_pos _)
      | cons x y => rw [hq] at this; simpa using this
theorem dd_len (u : Nat) (h : u ≤ 1000) : (decDigits u).length ≤ 4 := by
  rw [Lib.decDigits_length]
  have h1 := Lib.lt_pow_nDigits u
  by_cases h10 : u < 10
  · rw [Lib.nDigits_small h10]; omega
  · rw [Lib.nDigits_big h10]
    by_cases h100 : u / 10 < 10
    · rw [Lib.nDigits_small h100]; omega
    · rw [Lib.nDigits_big h100]
      by_cases h1000 : u / 10 / 10 < 10
      · rw [Lib.nDigits_small h1000]; omega
      · rw [Lib.nDigits_big h1000, Lib.nDigits_small (by omega)]; omega
theorem numR_dd (u : Nat) (h1 : 1 ≤ u) (h2 : u ≤ 1000) : numR (decDigits u) = u := by
  unfold numR
  have hl := dd_len u h2
  have hp := dd_pos u
  rw [if_neg, valN_dd]
  intro hc
  rcases hc with hc | hc | ⟨hc, _⟩ | hc
  · exact hp (List.eq_nil_of_length_eq_zero hc)
  · omega
  · exact dd_head u h1 hc
  · rw [List.all_eq_true.2 (dd_dg u)] at hc; cases hc
/-- The reference's number and the program's are one. -/
theorem numR_dgv (l : List UInt8) (most : Int) (hm : most ≤ 1000) : dgv l most = if 1 ≤ numR l ∧ numR l ≤ most then some (numR l) else none := by
  split
  · rename_i hc
    obtain ⟨c1, c2⟩ := hc
    have hd : ¬ (l.length = 0 ∨ 4 < l.length ∨ (l.head? = some 48 ∧ 1 < l.length) ∨ l.all isDg = false) := fun q => by
      unfold numR at c1; rw [if_pos q] at c1; omega
    have e : numR l = (valN 0 l : Int) := by unfold numR; rw [if_neg hd]
    simp only [not_or, not_and, Bool.not_eq_false] at hd
    obtain ⟨d1, d2, d3, d4⟩ := hd
    have hall := List.all_eq_true.1 d4
    have hca := canon l hall (fun q => d1 (by rw [q]; rfl)) (fun q => by have := d3 q; omega)
    rw [e] at c1 c2 ⊢
    have := dgv_of (n := (valN 0 l : Int)) c1 c2 hm
    rw [Int.toNat_natCast, hca.1] at this
    exact this
  · rename_i hc
    cases hq : dgv l most with
    | none => rfl
    | some n =>
      obtain ⟨q1, q2, q3⟩ := dgv_some hm hq
      have hn := numR_dd n.toNat (by omega) (by omega)
      rw [← q3] at hn
      exact absurd ⟨by rw [hn]; omega, by rw [hn]; omega⟩ hc

/-- A threshold. -/
structure ThrV where
  sig : Int
  pct : Int
  amt : Int
  soft : Bool
  grace : Int
def sigF (l : List UInt8) : Option Int := if l = [109, 101, 109, 111, 114, 121] then some 0 else if l = [100, 105, 115, 107] then some 1 else if l = [112, 105, 100] then some 2 else none
/-- What is read as a percentage, or an amount: the program's way. -/
def limF (v : List UInt8) : Option (Int × Int) :=
  if (cutC 37 v).2.2 then (if (cutC 37 v).2.1 = [] then (dgv (cutC 37 v).1 100).map (fun n => (n, 0)) else none)
  else if qOk v = true ∧ 0 < qNum v then some (0, qNum v) else none
def grF (soft : Bool) (r : List UInt8) : Option Int := if soft then dgv r 1000 else some 0
def thF (l : List UInt8) : Option ThrV :=
  if (cutC 60 l).2.2 then
    match sigF (cutC 60 l).1, limF (cutC 58 (cutC 60 l).2.1).1, grF (cutC 58 (cutC 60 l).2.1).2.2 (cutC 58 (cutC 60 l).2.1).2.1 with
    | some s, some (p, a), some g => some ⟨s, p, a, (cutC 58 (cutC 60 l).2.1).2.2, g⟩
    | _, _, _ => none
  else none

/-- Is a threshold right? -/
def ThrV.right (t : ThrV) : Bool := decide (0 ≤ t.sig) && decide (t.sig ≤ 2) && ((decide (1 ≤ t.pct) && decide (t.pct ≤ 100) && t.amt == 0) || (t.pct == 0 && decide (0 < t.amt))) && (if t.soft then decide (1 ≤ t.grace) && decide (t.grace ≤ 1000) else t.grace == 0)
/-- The reference's limit: percent and amount; none where it is no quantity. -/
def limR (v : List UInt8) : Option (Int × Int) := if v.getLast? = some 37 then some (numR v.dropLast, 0) else if qOk v = true then some (0, qNum v) else none
theorem qOk_no {v : List UInt8} (h : 37 ∈ v) : qOk v = false := by
  cases hq : qOk v with
  | false => rfl
  | true =>
    exfalso
    unfold qOk at hq
    simp only [Bool.and_eq_true, Bool.not_eq_true', beq_eq_false_iff_ne, ne_eq] at hq
    have hs : v = dgs v ++ v.drop (dgk v) := by rw [← take_dgk]; exact (List.take_append_drop _ _).symm
    rw [hs] at h
    rcases List.mem_append.1 h with h | h
    · have := tw_mem (p := isDg) v h
      simp [isDg] at this
    · rcases unit_some hq.2 with e | ⟨k, hk, e⟩
      · rw [e] at h; cases h
      · rw [e] at h
        rcases (show k = 0 ∨ k = 1 ∨ k = 2 ∨ k = 3 ∨ k = 4 ∨ k = 5 ∨ k = 6 ∨ k = 7 by omega) with rfl | rfl | rfl | rfl | rfl | rfl | rfl | rfl <;> simp [nmL] at h
theorem numR_no {l : List UInt8} {c : UInt8} (h : c ∈ l) (hc : isDg c = false) : numR l = -1 := by
  unfold numR
  rw [if_pos]
  right; right; right
  rw [List.all_eq_false]
  exact ⟨c, h, by rw [hc]; simp⟩
theorem qNum_nn (l : List UInt8) : 0 ≤ qNum l := by
  unfold qNum satMul
  have : (0 : Int) ≤ max (dgn (dgs l)) 0 * max (unitL (l.drop (dgk l))) 0 := Int.mul_nonneg (by omega) (by omega)
  omega
/-- The limit is read alike. -/
theorem lim_eq (v : List UInt8) : limF v = match limR v with | none => none | some (p, a) => if (1 ≤ p ∧ p ≤ 100 ∧ a = 0) ∨ (p = 0 ∧ 0 < a) then some (p, a) else none := by
  have h37 : isDg 37 = false := by decide
  unfold limF limR
  rcases cutC_spec 37 v with ⟨h1, h2, h3⟩ | ⟨h1, h2⟩
  · rw [if_pos h1]
    cases hb : (cutC 37 v).2.1 with
    | nil =>
      rw [hb] at h2
      have hl : v.getLast? = some 37 := by rw [h2]; simp
      have hd : v.dropLast = (cutC 37 v).1 := (congrArg List.dropLast h2).trans List.dropLast_concat
      rw [if_pos rfl, if_pos hl, hd, numR_dgv _ 100 (by omega)]
      simp only
      by_cases hc : 1 ≤ numR (cutC 37 v).1 ∧ numR (cutC 37 v).1 ≤ 100
      · rw [if_pos hc, if_pos (.inl ⟨hc.1, hc.2, trivial⟩)]; rfl
      · rw [if_neg hc, if_neg]
        · rfl
        · rintro (q | q)
          · exact hc ⟨q.1, q.2.1⟩
          · omega
    | cons x y =>
      rw [if_neg (by simp)]
      by_cases hl : v.getLast? = some 37
      · rw [if_pos hl]
        have hm : 37 ∈ v.dropLast := by
          rw [h2, hb, show (cutC 37 v).1 ++ 37 :: x :: y = ((cutC 37 v).1 ++ [37]) ++ (x :: y) by simp, List.dropLast_append_of_ne_nil (by simp)]
          simp
        rw [numR_no hm h37]
        simp
      · rw [if_neg hl, if_neg (by rw [qOk_no (by rw [h2]; simp)]; simp)]
  · rw [if_neg (by rw [h1]; simp)]
    have hl : v.getLast? ≠ some 37 := fun e => h2 (List.mem_of_getLast? e)
    rw [if_neg hl]
    have hn := qNum_nn v
    by_cases hq : qOk v = true
    · rw [if_pos hq]
      simp only
      by_cases hp : 0 < qNum v
      · rw [if_pos ⟨hq, hp⟩, if_pos (.inr ⟨trivial, hp⟩)]
      · rw [if_neg (fun q => hp q.2), if_neg]
        rintro (q | q)
        · omega
        · exact hp q.2
    · rw [if_neg hq, if_neg (fun q => hq q.1)]
end Go.Proofs.YtekakalhknjdaaaDoor
