
/- Contracts of the document's answers for floats. -/
import Derived.Test.YtcgpmihjodolmaaEdge
namespace Go.Proofs.Ytcgpmihjodolmaa
open Go.RowKit
set_option linter.unusedVariables false
set_option linter.unusedSimpArgs false

theorem parts_bd (n : Nat) : ∃ e m : Nat, e < 2048 ∧ m < 4503599627370496 ∧ n / 4503599627370496 % 2048 = e ∧ n % 4503599627370496 = m ∧ frung n = e * 4503599627370496 + m :=
  ⟨n / 4503599627370496 % 2048, n % 4503599627370496, by omega, by omega, rfl, rfl, by unfold frung; omega⟩
theorem neg_ge (n : Nat) (hn : n < 18446744073709551616) : fneg n = decide (9223372036854775808 ≤ n) := by
  unfold fneg
  by_cases h : 9223372036854775808 ≤ n
  · rw [decide_eq_true h, show n / 9223372036854775808 % 2 = 1 by omega]; rfl
  · rw [decide_eq_false h, show n / 9223372036854775808 % 2 = 0 by omega]; rfl
theorem ref_parts (n e m : Nat) (w : World) (hn : n < 18446744073709551616) (he : n / 4503599627370496 % 2048 = e) (hm : n % 4503599627370496 = m) : Calls Try.prog 57 #[.float .f64 n] w fun r w' => r = .returned (.tuple #[.bool (fneg n), .int .i64 e, .int .u64 m]) ∧ w = w' := by
  have hb := run_bits n
  have hg := neg_ge n hn
  have e1 : ((n : Int) / 4503599627370496 % 2048) = e := by omega
  have e2 : ((n : Int) % 4503599627370496) = m := by omega
  have E1 := Lib.hid e1
  have E2 := Lib.hid e2
  have HG := Lib.hid hg
  clear e1 e2 hg he hm
  go_enter Try.func57, Try.ntmps57
  go_wp2
  go_ret3
  refine ⟨?_, rfl⟩
  rw [HG.out, E1.out, E2.out]
  have h3 : (e : Int) < 2048 := by have := E1.out; omega
  have h4 : wrap64 (e : Int) = e := by unfold wrap64; omega
  have h5 : decide ((9223372036854775808 : Int) ≤ n) = decide (9223372036854775808 ≤ n) := decide_eq_decide.2 (by omega)
  simp [h4, h5]

/-- What a number's kind is, by its parts. -/
theorem ref_Kind (n : Nat) (w : World) (hn : n < 18446744073709551616) : Calls Try.prog 30 #[.float .f64 n] w fun r w' => r = .returned (.int .i64 (kindF n)) ∧ w = w' := by
  obtain ⟨e, m, h1, h2, h3, h4, h5⟩ := parts_bd n
  have CP := Lib.hid (fun w => ref_parts n e m w hn h3 h4)
  have hk : kindF n = if 9218868437227405312 < frung n then 1 else if frung n = 9218868437227405312 then (if fneg n then 2 else 7) else if frung n = 0 then (if fneg n then 4 else 5) else if fneg n then 3 else 6 := rfl
  generalize frung n = r at *
  generalize kindF n = k at *
  have key : (e = 2047 ∧ 0 < m) ∨ (e = 2047 ∧ m = 0) ∨ (e = 0 ∧ m = 0) ∨ (e = 0 ∧ 0 < m) ∨ (¬ e = 2047 ∧ ¬ e = 0) := by omega
  clear h3 h4
  rcases key with ⟨rfl, h⟩ | ⟨rfl, rfl⟩ | ⟨rfl, rfl⟩ | ⟨rfl, h⟩ | ⟨h, h'⟩
  · rw [if_pos (by omega)] at hk
    subst hk
    have hm : (0 : Int) < m := by omega
    clear h1 h2 h5 h
    generalize (m : Int) = M at *
    go_enter Try.func30, Try.ntmps30
    go_wp2_with (first | (go_at_call 57; (with_reducible refine (CP.out _).mono ?_); rintro e w' ⟨rfl, rfl⟩))
    go_ret
    exact ⟨rfl, rfl⟩
  · rw [if_neg (by omega), if_pos (by omega)] at hk
    subst hk
    cases hs : fneg n
    · rw [hs] at CP
      go_enter Try.func30, Try.ntmps30
      go_wp2_with (first | (go_at_call 57; (with_reducible refine (CP.out _).mono ?_); rintro e w' ⟨rfl, rfl⟩))
      go_ret
      exact ⟨rfl, rfl⟩
    · rw [hs] at CP
      go_enter Try.func30, Try.ntmps30
      go_wp2_with (first | (go_at_call 57; (with_reducible refine (CP.out _).mono ?_); rintro e w' ⟨rfl, rfl⟩))
      go_ret
      exact ⟨rfl, rfl⟩
  · rw [if_neg (by omega), if_neg (by omega), if_pos (by omega)] at hk
    subst hk
    cases hs : fneg n
    · rw [hs] at CP
      go_enter Try.func30, Try.ntmps30
      go_wp2_with (first | (go_at_call 57; (with_reducible refine (CP.out _).mono ?_); rintro e w' ⟨rfl, rfl⟩))
      go_ret
      exact ⟨rfl, rfl⟩
    · rw [hs] at CP
      go_enter Try.func30, Try.ntmps30
      go_wp2_with (first | (go_at_call 57; (with_reducible refine (CP.out _).mono ?_); rintro e w' ⟨rfl, rfl⟩))
      go_ret
      exact ⟨rfl, rfl⟩
  · rw [if_neg (by omega), if_neg (by omega), if_neg (by omega)] at hk
    subst hk
    have hm : (0 : Int) < m := by omega
    have hm2 : ((m : Int) == 0) = false := by simp; omega
    clear h1 h2 h5 h
    generalize (m : Int) = M at *
    cases hs : fneg n
    · rw [hs] at CP
      go_enter Try.func30, Try.ntmps30
      go_wp2_with (first | (go_at_call 57; (with_reducible refine (CP.out _).mono ?_); rintro e w' ⟨rfl, rfl⟩))
      go_ret
      exact ⟨rfl, rfl⟩
    · rw [hs] at CP
      go_enter Try.func30, Try.ntmps30
      go_wp2_with (first | (go_at_call 57; (with_reducible refine (CP.out _).mono ?_); rintro e w' ⟨rfl, rfl⟩))
      go_ret
      exact ⟨rfl, rfl⟩
  · rw [if_neg (by omega), if_neg (by omega), if_neg (by omega)] at hk
    subst hk
    have he1 : ((e : Int) == 2047) = false := by simp; omega
    have he2 : ((e : Int) == 0) = false := by simp; omega
    clear h1 h2 h5 h h'
    generalize (m : Int) = M at *
    generalize (e : Int) = E at *
    cases hs : fneg n
    · rw [hs] at CP
      go_enter Try.func30, Try.ntmps30
      go_wp2_with (first | (go_at_call 57; (with_reducible refine (CP.out _).mono ?_); rintro e w' ⟨rfl, rfl⟩))
      go_ret
      exact ⟨rfl, rfl⟩
    · rw [hs] at CP
      go_enter Try.func30, Try.ntmps30
      go_wp2_with (first | (go_at_call 57; (with_reducible refine (CP.out _).mono ?_); rintro e w' ⟨rfl, rfl⟩))
      go_ret
      exact ⟨rfl, rfl⟩
/-- What is read, by the parts. -/
theorem whole_parts (e m : Nat) (h1 : e < 2048) (h2 : m < 4503599627370496) : wholeF (e * 4503599627370496 + m) = if e < 1023 then 0 else if e < 1075 then (4503599627370496 + m) / 2 ^ (1075 - e) else (4503599627370496 + m) * 2 ^ (e - 1075) := by
  have hN := lpN_eq
  unfold wholeF
  rcases Nat.eq_zero_or_pos e with h0 | h0
  · subst h0
    rw [if_pos (by omega), Nat.zero_mul, Nat.zero_add, fval_low m h2]
    refine Nat.div_eq_of_lt (Nat.lt_of_lt_of_le h2 ?_)
    have : 2 ^ 52 ≤ 2 ^ lpN := Nat.pow_le_pow_right (by omega) (by omega)
    rwa [show (2 : Nat) ^ 52 = 4503599627370496 by decide] at this
  · have e1 : e * 4503599627370496 + m = (e - 1) * 4503599627370496 + (4503599627370496 + m) := by omega
    rw [e1, fval_high _ _ (by omega) (by omega)]
    by_cases h3 : e < 1075
    · have e2 : 2 ^ lpN = 2 ^ (1075 - e) * 2 ^ (e - 1) := by rw [← Nat.pow_add]; congr 1; omega
      rw [e2, Nat.mul_div_mul_right _ _ (Nat.two_pow_pos _)]
      by_cases h4 : e < 1023
      · rw [if_pos h4]
        refine Nat.div_eq_of_lt (Nat.lt_of_lt_of_le (show 4503599627370496 + m < 9007199254740992 by omega) ?_)
        have : 2 ^ 53 ≤ 2 ^ (1075 - e) := Nat.pow_le_pow_right (by omega) (by omega)
        rwa [show (2 : Nat) ^ 53 = 9007199254740992 by decide] at this
      · rw [if_neg h4, if_pos h3]
    · rw [if_neg (by omega), if_neg h3]
      have e2 : 2 ^ (e - 1) = 2 ^ (e - 1075) * 2 ^ lpN := by rw [← Nat.pow_add]; congr 1; omega
      rw [e2, ← Nat.mul_assoc, Nat.mul_div_cancel _ (Nat.two_pow_pos _)]

theorem half_step (x j : Nat) : ((x / 2 ^ j : Nat) : Int) / 2 = ((x / 2 ^ (j + 1) : Nat) : Int) := by
  rw [Nat.pow_succ, ← Nat.div_div_eq_div_mul]; omega
set_option maxRecDepth 100000 in
set_option maxHeartbeats 2000000 in
theorem ref_Read (n : Nat) (w : World) (hn : n < 18446744073709551616) : Calls Try.prog 31 #[.float .f64 n] w fun r w' => r = .returned (if kindF n = 1 then .tuple #[.int .i64 0, .bool false] else .tuple #[.int .i64 (readF n), .bool true]) ∧ w = w' := by
  have CK := Lib.hid (fun w => ref_Kind n w hn)
  rcases kinds n hn with ⟨k, hr⟩ | ⟨hr, h⟩
  · rw [if_pos k]
    rw [k] at CK
    go_enter Try.func31, Try.ntmps31
    go_wp2_with (first | (go_at_call 30; (with_reducible refine (CK.out _).mono ?_); rintro e w' ⟨rfl, rfl⟩))
    go_ret2
    exact ⟨rfl, rfl⟩
  · have hk : fkey n = if fneg n then -(frung n : Int) else (frung n : Int) := rfl
    have k1 : ¬ kindF n = 1 := by omega
    have k2 : (kindF n == 1) = false := by simpa using k1
    rw [if_neg k1]
    by_cases h5 : kindF n ≤ 5
    · have hR := Lib.hid (show readF n = 0 by
        unfold readF
        cases hs : fneg n
        · rw [hs] at hk; rw [if_neg (by simp)] at hk ⊢
          have h0 : frung n = 0 := by simp [hs] at h; omega
          rw [if_neg (by omega), h0]; unfold wholeF; rw [fval_zero]; simp
        · rw [if_pos rfl])
      generalize kindF n = k at *
      clear hk h k1
      go_enter Try.func31, Try.ntmps31
      go_wp2_with (first | (go_at_call 30; (with_reducible refine (CK.out _).mono ?_); rintro e w' ⟨rfl, rfl⟩))
      go_ret2
      exact ⟨by rw [hR.out]; rfl, rfl⟩
    · obtain ⟨e, m, h1, h2, h3, h4, h6⟩ := parts_bd n
      have CP := Lib.hid (fun w => ref_parts n e m w hn h3 h4)
      have hs : fneg n = false := by
        cases hs : fneg n
        · rfl
        · simp [hs] at h; omega
      have hR : readF n = if 1086 ≤ e then 9223372036854775807 else (wholeF (frung n) : Int) := by
        unfold readF
        rw [hs, if_neg (by simp)]
        by_cases h7 : 1086 ≤ e
        · rw [if_pos h7, if_pos (by omega)]
        · rw [if_neg h7, if_neg (by omega)]
      rw [hs] at CP
      rw [h6, whole_parts e m h1 h2] at hR
      generalize kindF n = k at *
      clear hk h k1 h3 h4
      by_cases h7 : 1086 ≤ e
      · rw [if_pos h7] at hR
        have HR := Lib.hid hR
        have h8 : (1086 : Int) ≤ e := by omega
        clear hR
        go_enter Try.func31, Try.ntmps31
        go_wp2_with (first | (go_at_call 30; (with_reducible refine (CK.out _).mono ?_); rintro e w' ⟨rfl, rfl⟩) | (go_at_call 57; (with_reducible refine (CP.out _).mono ?_); rintro e w' ⟨rfl, rfl⟩))
        go_ret2
        exact ⟨by rw [HR.out]; rfl, rfl⟩
      · rw [if_neg h7] at hR
        have h8 : ¬ (1086 : Int) ≤ e := by omega
        by_cases h9 : e < 1023
        · rw [if_pos h9] at hR
          have HR := Lib.hid hR
          have h10 : (e : Int) < 1023 := by omega
          clear hR
          go_enter Try.func31, Try.ntmps31
          go_wp2_with (first | (go_at_call 30; (with_reducible refine (CK.out _).mono ?_); rintro e w' ⟨rfl, rfl⟩) | (go_at_call 57; (with_reducible refine (CP.out _).mono ?_); rintro e w' ⟨rfl, rfl⟩))
          go_ret2
          exact ⟨by rw [HR.out]; rfl, rfl⟩
        · rw [if_neg h9] at hR
          have h10 : ¬ (e : Int) < 1023 := by omega
          have hx : (m : Int) + 4503599627370496 = ((4503599627370496 + m : Nat) : Int) := by omega
          obtain ⟨x, ex⟩ : ∃ x : Nat, 4503599627370496 + m = x := ⟨_, rfl⟩
          rw [ex] at hx hR
          have xb : x < 9007199254740992 := by omega
          have HR := Lib.hid hR
          have HX := Lib.hid hx
          have H6 := Lib.hid h6
          clear hR hx h6 ex
          go_enter Try.func31, Try.ntmps31
          go_wp2_with (first | (go_at_call 30; (with_reducible refine (CK.out _).mono ?_); rintro e w' ⟨rfl, rfl⟩) | (go_at_call 57; (with_reducible refine (CP.out _).mono ?_); rintro e w' ⟨rfl, rfl⟩))
          rw [HX.out]
          go_loopw [6, 8] (fun i y wr => ∃ j : Nat, j ≤ 1075 - e ∧ i = .int .i64 (e + j) ∧ y = .int .u64 ((x / 2 ^ j : Nat) : Int) ∧ w = wr) (fun i _ _ => 1075 - (intOf i).toNat)
          case atStart => exact ⟨0, by omega, by simp, by simp, rfl⟩
          case round =>
            obtain ⟨j, hj, rfl, rfl, rfl⟩ := hrel
            have hxj : x / 2 ^ j ≤ x := Nat.div_le_self _ _
            by_cases hlt : e + j < 1075
            · have hlt' : (e : Int) + j < 1075 := by omega
              have hstep := half_step x j
              generalize x / 2 ^ j = y at *
              have HS := Lib.hid hstep
              clear hstep
              go_wp2
              go_roundw
              case rel => exact ⟨j + 1, by omega, by push_cast; congr 1; try omega, by rw [HS.out], by first | rfl | trivial⟩
              case measure => simp [intOf] <;> omega
            · have hlt' : ¬ (e : Int) + j < 1075 := by omega
              obtain ⟨y0, ey⟩ : ∃ y0 : Nat, x / 2 ^ j = y0 := ⟨_, rfl⟩
              rw [ey] at hxj ⊢
              have EY := Lib.hid ey
              clear ey
              go_wp2
              go_loopw [6, 8] (fun i y wr => ∃ q : Nat, q ≤ e + j - 1075 ∧ i = .int .i64 (e + j - q) ∧ y = .int .u64 ((y0 * 2 ^ q : Nat) : Int) ∧ w = wr) (fun i _ _ => (intOf i).toNat)
              case atStart => exact ⟨0, by omega, by simp, by simp, rfl⟩
              case round =>
                obtain ⟨q, hq, rfl, rfl, rfl⟩ := hrel
                have hq11 : 2 ^ q ≤ 2 ^ 10 := Nat.pow_le_pow_right (by omega) (by omega)
                have hyb : y0 * 2 ^ q ≤ 9007199254740991 * 1024 := Nat.mul_le_mul (by omega) (by omega)
                have hys : y0 * 2 ^ q * 2 = y0 * 2 ^ (q + 1) := by rw [Nat.pow_succ, Nat.mul_assoc]
                have HYS := Lib.hid hys
                have HYB := Lib.hid hyb
                by_cases hgt : 1075 < e + j - q
                · have hgt' : (1075 : Int) < (e : Int) + j - q := by omega
                  generalize y0 * 2 ^ q = y at *
                  have hyb' : (y : Int) < 9223372036854775808 := by omega
                  clear hys hyb hq11
                  go_wp2
                  go_roundw
                  case rel => exact ⟨q + 1, by omega, by push_cast; congr 1; try omega, by rw [← HYS.out]; push_cast; simp only [IntKind.wrap_u64]; (try congr 1); (try omega), by first | rfl | trivial⟩
                  case measure => simp [intOf] <;> omega
                · have hgt' : ¬ (1075 : Int) < (e : Int) + j - q := by omega
                  have hfin : readF n = ((y0 * 2 ^ q : Nat) : Int) := by
                    rw [HR.out]
                    by_cases hc : e < 1075
                    · rw [if_pos hc, show 1075 - e = j by omega, EY.out, show q = 0 by omega, Nat.pow_zero, Nat.mul_one]
                    · rw [if_neg hc, show e - 1075 = q by omega, ← EY.out, show j = 0 by omega, Nat.pow_zero, Nat.div_one]
                  have hyb2 : y0 * 2 ^ q < 9223372036854775808 := by
                    rcases Nat.lt_or_ge e 1075 with hc | hc
                    · rw [show q = 0 by omega]; omega
                    · have : 2 ^ q ≤ 2 ^ 10 := hq11
                      have h11 : y0 < 9007199254740992 := by omega
                      have := Nat.mul_lt_mul_of_lt_of_le h11 hq11 (by decide)
                      rw [show (2 : Nat) ^ 10 = 1024 by decide] at this
                      omega
                  have HF := Lib.hid hfin
                  clear hfin hyb hys hq11
                  generalize y0 * 2 ^ q = y at *
                  have hyb' : (y : Int) < 9223372036854775808 := by omega
                  go_wp2
                  go_ret2
                  refine ⟨?_, rfl⟩
                  rw [HF.out]
                  have : wrap64 (y : Int) = y := by unfold wrap64; omega
                  simp [this]
end Go.Proofs.Ytcgpmihjodolmaa
