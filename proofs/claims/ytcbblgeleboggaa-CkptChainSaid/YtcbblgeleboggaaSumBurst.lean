
/- A run of bits that is turned turns the sum: plain mathematics. -/
import Derived.Test.YtcbblgeleboggaaSumLin
namespace Go.Proofs.Ytcbblgeleboggaa
open Go.RowKit
set_option linter.unusedVariables false

theorem stN_zero (k : Nat) : stN k 0 = 0 := by
  induction k with
  | zero => rfl
  | succ k ih => show st1 (stN k 0) = 0; rw [ih]; rfl
theorem stN_xorN (k u v : Nat) : stN k (u ^^^ v) = stN k u ^^^ stN k v := by
  induction k with
  | zero => rfl
  | succ k ih => show st1 (stN k (u ^^^ v)) = st1 (stN k u) ^^^ st1 (stN k v); rw [ih, st1_xor]
theorem stN_shift (k u : Nat) : stN k (u * 2 ^ k) = u := by
  rw [stN_split, Nat.mul_mod_left, stN_zero, Nat.mul_div_cancel _ (Nat.pow_pos (by omega)), Nat.xor_zero]
theorem st1_ne {w : Nat} (h : w < 4294967296) (h0 : w ≠ 0) : st1 w ≠ 0 := by
  unfold st1
  split
  · intro e
    have e2 : w / 2 = 3988292384 := by
      apply Nat.eq_of_testBit_eq; intro i
      have := congrArg (fun n => n.testBit i) e
      simp only [Nat.testBit_xor, Nat.zero_testBit] at this
      revert this; cases (w / 2).testBit i <;> cases (3988292384 : Nat).testBit i <;> simp
    omega
  · omega
theorem stN_ne (k : Nat) {w : Nat} (h : w < 4294967296) (h0 : w ≠ 0) : stN k w ≠ 0 := by
  induction k with
  | zero => exact h0
  | succ k ih => exact st1_ne (stN_lt k h) ih
theorem xor_mod256 (q : Nat) : q ^^^ (q % 256) = q / 256 * 2 ^ 8 := by
  apply Nat.eq_of_testBit_eq; intro i
  rw [show (256 : Nat) = 2 ^ 8 by rfl, Nat.testBit_xor, Nat.testBit_mod_two_pow, Nat.testBit_mul_two_pow, Nat.testBit_div_two_pow]
  by_cases h : i < 8
  · have h2 : ¬ 8 ≤ i := by omega
    simp [h, h2]
  · have h2 : 8 ≤ i := by omega
    rw [show i - 8 + 8 = i by omega]; simp [h, h2]
theorem crc_num (s T : Nat) (n : Nat) : crcL s (tailN T n) = stN (8 * n) (s ^^^ T) ^^^ (T / 256 ^ n) := by
  induction n with
  | zero => simp [tailN, crcL, stN, Nat.xor_assoc]
  | succ n ih =>
    show crcL s (tailN T n ++ [((T / 256 ^ n % 256 : Nat) : Int)]) = _
    rw [crcL_snoc, ih, Int.toNat_natCast, Nat.xor_assoc, xor_mod256, stN_xorN, stN_shift, ← stN_add, show 8 + 8 * n = 8 * (n + 1) by omega, Nat.div_div_eq_div_mul, Nat.pow_succ]
theorem tailN_get (s n : Nat) : tailN s n = (List.range n).map fun k => ((s / 256 ^ k % 256 : Nat) : Int) := by
  induction n with
  | zero => rfl
  | succ n ih => show tailN s n ++ _ = _; rw [ih, List.range_succ, List.map_append]; rfl
theorem num_of {l : List Int} (h : Bytes l) : ∃ X, X < 256 ^ l.length ∧ tailN X l.length = l := by
  obtain ⟨r, rfl⟩ : ∃ r, l = r.reverse := ⟨l.reverse, by simp⟩
  induction r with
  | nil => exact ⟨0, by simp, rfl⟩
  | cons c r ih =>
    obtain ⟨X, h1, h2⟩ := ih (fun x hx => h x (by simp at hx ⊢; first | exact .inl hx | exact .inr hx))
    have hc := h c (by simp)
    simp only [List.length_reverse, List.reverse_cons, List.length_append, List.length_cons, List.length_nil] at *
    have hp : 0 < 256 ^ r.length := Nat.pow_pos (by omega)
    refine ⟨X + c.toNat * 256 ^ r.length, ?_, ?_⟩
    · rw [Nat.zero_add, Nat.pow_succ]
      have : c.toNat * 256 ^ r.length ≤ 255 * 256 ^ r.length := Nat.mul_le_mul_right _ (by omega)
      omega
    · show tailN _ r.length ++ [_] = _
      congr 1
      · rw [← h2, tailN_get, tailN_get]
        refine List.map_congr_left fun k hk => ?_
        simp at hk
        obtain ⟨d, hd⟩ : ∃ d, r.length = k + (d + 1) := ⟨r.length - k - 1, by omega⟩
        have e : c.toNat * 256 ^ r.length = (c.toNat * 256 ^ d * 256) * 256 ^ k := by rw [hd, Nat.pow_add, Nat.pow_succ]; simp [Nat.mul_comm, Nat.mul_left_comm]
        rw [e, Nat.add_mul_div_right _ _ (Nat.pow_pos (by omega)), Nat.add_mul_mod_self_right]
      · rw [Nat.add_mul_div_right _ _ hp, Nat.div_eq_of_lt h1]
        congr 1; omega
theorem pow256 (n : Nat) : 256 ^ n = 2 ^ (8 * n) := by rw [show (256 : Nat) = 2 ^ 8 by rfl, ← Nat.pow_mul]
theorem byte_flip (Y p j : Nat) : (Y ^^^ 2 ^ p) / 256 ^ j % 256 = if j = p / 8 then (Y / 256 ^ j % 256) ^^^ 2 ^ (p % 8) else Y / 256 ^ j % 256 := by
  rw [pow256, show (256 : Nat) = 2 ^ 8 by rfl]
  apply Nat.eq_of_testBit_eq; intro i
  split
  · rename_i h
    subst h
    simp only [Nat.testBit_mod_two_pow, Nat.testBit_div_two_pow, Nat.testBit_xor, Nat.testBit_two_pow]
    by_cases hi : i < 8
    · simp only [hi, decide_true, Bool.true_and]
      congr 1
      rw [decide_eq_decide]; omega
    · have : ¬ p % 8 = i := by omega
      simp [hi, this]
  · rename_i h
    simp only [Nat.testBit_mod_two_pow, Nat.testBit_div_two_pow, Nat.testBit_xor, Nat.testBit_two_pow]
    by_cases hi : i < 8
    · have : ¬ p = i + 8 * j := by omega
      simp [hi, this]
    · simp [hi]
theorem tail_flip (Y p n : Nat) (h : p < 8 * n) : tailN (Y ^^^ 2 ^ p) n = (tailN Y n).set (p / 8) (((Y / 256 ^ (p / 8) % 256) ^^^ 2 ^ (p % 8) : Nat) : Int) := by
  apply List.ext_getElem
  · simp [tailN_get]
  · intro j h1 h2
    rw [List.getElem_set]
    simp only [tailN_get, List.getElem_map, List.getElem_range]
    rw [byte_flip]
    by_cases e : p / 8 = j
    · subst e; simp
    · rw [if_neg e, if_neg (fun q => e q.symm)]
theorem el_tailN (Y n j : Nat) (h : j < n) : el (tailN Y n) j = ((Y / 256 ^ j % 256 : Nat) : Int) := by
  unfold el; rw [tailN_get]; simp [h]
/-- The bits that are turned by the first i steps. -/
def turned (t k : Nat) : Nat → Nat
  | 0 => 0
  | i + 1 => if t / 2 ^ i % 2 = 1 then turned t k i ^^^ 2 ^ (k + i) else turned t k i
theorem turned_eq (t k i : Nat) : turned t k i = (t % 2 ^ i) * 2 ^ k := by
  induction i with
  | zero => simp [turned, Nat.mod_one]
  | succ i ih =>
    unfold turned
    rw [ih]
    apply Nat.eq_of_testBit_eq; intro q
    have e1 : decide (t / 2 ^ i % 2 = 1) = t.testBit i := by rw [Nat.testBit_eq_decide_div_mod_eq]
    split
    · rename_i h
      have e2 : t.testBit i = true := by rw [← e1]; simp [h]
      simp only [Nat.testBit_xor, Nat.testBit_mul_two_pow, Nat.testBit_mod_two_pow, Nat.testBit_two_pow]
      by_cases hq : k + i = q
      · subst hq; simp [e2]
      · by_cases hk : k ≤ q
        · by_cases hi : q - k < i
          · have : q - k < i + 1 := by omega
            simp [hk, hi, this, hq]
          · have : ¬ q - k < i + 1 := by omega
            simp [hk, hi, this, hq]
        · simp [hk, hq]
    · rename_i h
      have e2 : t.testBit i = false := by rw [← e1]; simp [h]
      simp only [Nat.testBit_mul_two_pow, Nat.testBit_mod_two_pow]
      by_cases hq : k + i = q
      · subst hq; simp [e2]
      · by_cases hi : q - k < i
        · have : q - k < i + 1 := by omega
          simp [hi, this]
        · by_cases hk : k ≤ q
          · have : ¬ q - k < i + 1 := by omega
            simp [hi, this]
          · simp [hk]
theorem cut_crc {l : List Int} (h : Bytes l) (hc : cutOk l = true) : crcL 4294967295 l = stN 32 4294967295 := by
  unfold cutOk at hc
  simp only [Bool.and_eq_true, decide_eq_true_eq, beq_iff_eq] at hc
  obtain ⟨h4, e⟩ := hc
  have hs := sumOf_lt (h.take (l.length - 4))
  have e2 : l = l.take (l.length - 4) ++ tailN (sumOf (l.take (l.length - 4))) 4 := by
    rw [← e]; exact (List.take_append_drop _ _).symm
  rw [e2, crcL_append, crc_num]
  generalize l.take (l.length - 4) = m at *
  unfold sumOf at *
  generalize crcL 4294967295 m = s at *
  rw [Nat.div_eq_of_lt (by omega), Nat.xor_zero]
  congr 1
  rw [← Nat.xor_assoc, Nat.xor_self, Nat.zero_xor]
theorem tailN_Bytes (X n : Nat) : Bytes (tailN X n) := fun c hc => by
  rw [tailN_get] at hc
  obtain ⟨i, _, rfl⟩ := List.mem_map.1 hc
  omega
theorem burst (X n t k : Nat) (hX : X < 256 ^ n) (hk : k + 32 ≤ 8 * n) (ht : t < 4294967296) (h0 : t ≠ 0) (hc : cutOk (tailN X n) = true) : cutOk (tailN (X ^^^ turned t k 32) n) = false := by
  rw [turned_eq, Nat.mod_eq_of_lt (by omega)]
  cases hq : cutOk (tailN (X ^^^ t * 2 ^ k) n) with
  | false => rfl
  | true =>
    exfalso
    have e1 := cut_crc (tailN_Bytes _ _) hc
    have e2 := cut_crc (tailN_Bytes _ _) hq
    have hT : t * 2 ^ k < 256 ^ n := by
      rw [pow256]
      calc t * 2 ^ k < 2 ^ 32 * 2 ^ k := Nat.mul_lt_mul_of_pos_right (by omega) (Nat.pow_pos (by omega))
        _ = 2 ^ (32 + k) := by rw [Nat.pow_add]
        _ ≤ 2 ^ (8 * n) := Nat.pow_le_pow_right (by omega) (by omega)
    have hXT : X ^^^ t * 2 ^ k < 256 ^ n := by rw [pow256] at *; exact Nat.xor_lt_two_pow hX hT
    rw [crc_num, Nat.div_eq_of_lt hX, Nat.xor_zero] at e1
    rw [crc_num, Nat.div_eq_of_lt hXT, Nat.xor_zero, ← Nat.xor_assoc, stN_xorN, e1] at e2
    have e3 : stN (8 * n) (t * 2 ^ k) = 0 := by
      apply Nat.eq_of_testBit_eq; intro i
      have := congrArg (fun n => n.testBit i) e2
      simp only [Nat.testBit_xor] at this
      revert this; rw [Nat.zero_testBit]; cases (stN 32 4294967295).testBit i <;> cases (stN (8 * n) (t * 2 ^ k)).testBit i <;> simp
    have e4 : stN (8 * n) (t * 2 ^ k) = stN (8 * n - k) t := by
      rw [show 8 * n = (8 * n - k) + k by omega, stN_add, stN_shift]; congr 1; omega
    exact stN_ne (8 * n - k) ht h0 (e4 ▸ e3)
end Go.Proofs.Ytcbblgeleboggaa
