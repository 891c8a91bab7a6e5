/- EdgeWhole holds for every number and part: a whole number up to 2^53 is read as it is; with a part of one less than the next is; below 0 it is 0. No conditions. -/
import Derived.Test.YtkdkhbeacejamaaAwake03
namespace Go.Proofs.Ytkdkhbeacejamaa.edgeWhole
open Go.ChangeShapes Go.WideShapes Go.ChangeAt Go.RowKit
open Go.ChangeMaps (open_string shut_string)
set_option linter.unusedVariables false
set_option linter.unusedSimpArgs false
open Ieee

theorem readF_of (n K ρ : Nat) (hs : fneg n = false) (hv : fval (frung n) = K * 2 ^ lpN + ρ) (hρ : ρ < 2 ^ lpN) (hK : K < 9223372036854775808) : readF n = K ∧ kindF n ≠ 1 := by
  have hw : wholeF (frung n) = K := by
    unfold wholeF
    rw [hv, Nat.mul_comm, Nat.mul_add_div (Nat.two_pow_pos _), Nat.div_eq_of_lt hρ, Nat.add_zero]
  have hlt : frung n < 4890909195324358656 := by
    rw [← fval_lt_iff]
    have e1 : (2 : Nat) ^ (11 + lpN) = 2 ^ 11 * 2 ^ lpN := Nat.pow_add 2 11 lpN
    have := fval_high (11 + lpN) 4503599627370496 (by omega) (by omega)
    rw [show (11 + lpN) * 4503599627370496 + 4503599627370496 = 4890909195324358656 by decide] at this
    rw [this, e1, hv, ← Nat.mul_assoc, show 4503599627370496 * 2 ^ 11 = 9223372036854775808 by decide]
    have := Nat.mul_le_mul_right (2 ^ lpN) (show K + 1 ≤ 9223372036854775808 by omega)
    rw [Nat.add_mul, Nat.one_mul] at this
    omega
  refine ⟨?_, ?_⟩
  · unfold readF
    rw [hs, if_neg (by simp), if_neg (by omega), hw]
  · unfold kindF
    rw [if_neg (by omega), if_neg (by omega), hs]
    simp only [Bool.false_eq_true, if_false]
    split <;> omega

/-- A whole number as a float. -/
theorem of_nat (k : Nat) (hk : k < 9007199254740992) : fneg (floatOfInt .f64 k) = false ∧ frung (floatOfInt .f64 k) < 9218868437227405312 ∧ fval (frung (floatOfInt .f64 k)) = k * 2 ^ lpN := by
  have e : floatOfInt .f64 (k : Int) = Ieee.double.write (.number false k 0) := by
    show Ieee.double.write (.number (decide ((k : Int) < 0)) (k : Int).natAbs 0) = _
    rw [decide_eq_false (by omega), Int.natAbs_natCast]
  rw [e]
  rcases Nat.eq_zero_or_pos k with h0 | h0
  · subst h0
    rw [write_zero]
    obtain ⟨h1, h2⟩ := word_parts false 0 (by omega)
    rw [h1, h2, Nat.zero_mul]
    exact ⟨rfl, by omega, rfl⟩
  · have := write_exact false k 0 0 (by omega) hk (by omega) (by omega)
    rw [Nat.pow_zero, Nat.mul_one, show (0 + 1074 + ((0 : Nat) : Int)).toNat = lpN from lpN_eq.symm] at this
    exact this
theorem float_lt (d : Ieee.Datum) : Ieee.double.write d < 18446744073709551616 := Ieee.double.write_lt d

theorem nearest_word (s : Bool) (m : Nat) (p : Int) : ∃ R, R ≤ 9218868437227405312 ∧ Ieee.double.nearest s m p = Ieee.double.word s R := by
  unfold Format.nearest
  by_cases h : m = 0
  · rw [if_pos h]; exact ⟨0, by omega, rfl⟩
  · rw [if_neg h]
    simp only [c_inf]
    exact ⟨_, Nat.min_le_right _ _, rfl⟩

/-- A number that isn't above 0, less a half: below 0. -/
theorem sub_half (x : Nat) (hx : x < 18446744073709551616) (hs : fneg x = false) (hr : frung x < 9218868437227405312) :
    ∃ r, floatBits .sub .f64 (Op.negFloat .f64 x) 4602678819172646912 = some r ∧ r < 18446744073709551616 ∧ readF r = 0 ∧ kindF r ≠ 1 := by
  obtain ⟨m, a, e, _⟩ := read_num (Op.negFloat .f64 x) (by rw [neg_rung x hx]; exact hr)
  rw [neg_neg x hx, hs] at e
  have e2 : Ieee.double.read 4602678819172646912 = .number false 4503599627370496 (-53) := by decide +kernel
  have e3 : floatBits .sub .f64 (Op.negFloat .f64 x) 4602678819172646912 = ((Ieee.double.read (Op.negFloat .f64 x)).sum (Ieee.double.read 4602678819172646912).opposite).map Ieee.double.write := rfl
  rw [e3, e, e2]
  unfold Datum.opposite Datum.sum
  simp only [Bool.not_false, Option.map_some]
  generalize hb : min (-1074 + (a : Int)) (-53) = b
  have hneg : signed true m (-1074 + (a : Int) - b).toNat + signed true 4503599627370496 (-53 - b).toNat < 0 := by
    unfold signed
    simp only [if_true]
    have h1 : 0 < 4503599627370496 <<< (-53 - b).toNat := by
      rw [Nat.shiftLeft_eq]; exact Nat.mul_pos (by omega) (Nat.two_pow_pos _)
    generalize 4503599627370496 <<< (-53 - b).toNat = u at *
    generalize m <<< (-1074 + (a : Int) - b).toNat = v at *
    omega
  rw [if_neg (by omega), decide_eq_true hneg]
  obtain ⟨R, hR, eR⟩ := nearest_word true (signed true m (-1074 + (a : Int) - b).toNat + signed true 4503599627370496 (-53 - b).toNat).natAbs b
  refine ⟨_, rfl, float_lt _, ?_⟩
  unfold Format.write
  simp only
  rw [eR]
  obtain ⟨h1, h2⟩ := word_parts true R (by omega)
  refine ⟨by unfold readF; rw [h1]; simp, ?_⟩
  unfold kindF
  rw [h1, h2, if_neg (by omega)]
  simp only [if_true]
  split
  · omega
  · split <;> omega

/-- A number below 2^16, by 2^16. -/
theorem by_65536 (k : Nat) (hk : k < 65536) : ∃ r, floatBits .quo .f64 (floatOfInt .f64 k) 4679240012837945344 = some r ∧ fneg r = false ∧ frung r < 9218868437227405312 ∧ fval (frung r) * 65536 = k * 2 ^ lpN := by
  obtain ⟨hs, hr, hv⟩ := of_nat k (by omega)
  generalize floatOfInt .f64 (k : Int) = x at *
  have e2 : Ieee.double.read 4679240012837945344 = .number false 4503599627370496 (-36) := by decide +kernel
  have e3 : floatBits .quo .f64 x 4679240012837945344 = ((Ieee.double.read x).quotient 54 (Ieee.double.read 4679240012837945344)).map Ieee.double.write := rfl
  obtain ⟨m, a, e, hm, hm53, ha⟩ := read_num' x hr
  rw [e3, e, e2, hs]
  unfold Datum.quotient
  simp only [Bool.bne_false]
  rw [if_neg (by omega)]
  simp only [Option.map_some]
  rcases Nat.eq_zero_or_pos k with h0 | h0
  · subst h0
    rw [hv, Nat.zero_mul] at hm
    have hm0 : m = 0 := by
      rcases Nat.mul_eq_zero.1 hm with q | q
      · exact q
      · exact absurd q (by have := Nat.two_pow_pos a; omega)
    subst hm0
    refine ⟨_, rfl, ?_⟩
    simp only [Nat.zero_shiftLeft, Nat.zero_div, Nat.mul_zero, Nat.zero_mod, bne_self_eq_false, Bool.toNat_false, Nat.add_zero]
    rw [write_zero]
    obtain ⟨h1, h2⟩ := word_parts false 0 (by omega)
    rw [h1, h2, Nat.zero_mul]
    exact ⟨rfl, by omega, rfl⟩
  · -- a normal number
    have hbig : 2 ^ lpN ≤ m * 2 ^ a := by
      rw [hm, hv]
      exact Nat.le_mul_of_pos_left _ h0
    have ha1 : 1000 ≤ a := by
      rcases Nat.lt_or_ge a (lpN - 74) with q | q
      · exfalso
        have h1 : 2 ^ a ≤ 2 ^ (lpN - 74) := Nat.pow_le_pow_right (by omega) (by omega)
        have h2 : m * 2 ^ a < 2 ^ 53 * 2 ^ (lpN - 74) := by
          have h53 : (2 : Nat) ^ 53 = 9007199254740992 := by decide
          rw [h53]
          exact Nat.mul_lt_mul_of_lt_of_le hm53 h1 (Nat.two_pow_pos _)
        rw [← Nat.pow_add] at h2
        have h3 : 2 ^ (53 + (lpN - 74)) ≤ 2 ^ lpN := Nat.pow_le_pow_right (by omega) (by have := lpN_eq; omega)
        omega
      · have := lpN_eq; omega
    have hmn : 4503599627370496 ≤ m := by
      have hr2 : 4503599627370496 ≤ frung x := by omega
      have := read_double x
      rw [e, if_neg (by omega), if_pos hr] at this
      simp at this
      omega
    have hlog : m.log2 = 52 := by
      rw [Nat.log2_eq_iff (by omega), show (2 : Nat) ^ 52 = 4503599627370496 by decide, show (2 : Nat) ^ (52 + 1) = 9007199254740992 by decide]
      omega
    have hlog2 : (4503599627370496 : Nat).log2 = 52 := by decide
    rw [hlog, hlog2, show 54 + 52 - 52 = 54 by rfl, Nat.shiftLeft_eq]
    have hd : m * 2 ^ 54 = m * 4 * 4503599627370496 := by rw [show (2 : Nat) ^ 54 = 4 * 4503599627370496 by decide, Nat.mul_assoc]
    rw [hd, Nat.mul_div_cancel _ (by omega), Nat.mul_mod_left]
    simp only [bne_self_eq_false, Bool.toNat_false, Nat.add_zero]
    rw [show 2 * (m * 4) = m * 2 ^ 3 by omega]
    have hN := lpN_eq
    have ha3 : a ≤ 1100 := by
      rcases Nat.lt_or_ge (lpN + 26) a with q | q
      · exfalso
        have h1 : 2 ^ (lpN + 27) ≤ 2 ^ a := Nat.pow_le_pow_right (by omega) (by omega)
        have h2 : 2 ^ a ≤ m * 2 ^ a := Nat.le_mul_of_pos_left _ (by omega)
        have h16 : (2 : Nat) ^ 16 = 65536 := by decide
        have h3 : k * 2 ^ lpN ≤ 2 ^ 16 * 2 ^ lpN := Nat.mul_le_mul_right _ (by omega)
        rw [← Nat.pow_add] at h3
        have h4 : 2 ^ (16 + lpN) < 2 ^ (lpN + 27) := Nat.pow_lt_pow_right (by omega) (by omega)
        rw [hm, hv] at h2
        omega
      · omega
    obtain ⟨w1, w2, w3⟩ := write_exact false m 3 (-1074 + (a : Int) - -36 - ((54 : Nat) : Int) - 1) (by omega) hm53 (by omega) (by omega)
    refine ⟨_, rfl, w1, w2, ?_⟩
    rw [w3, show (-1074 + (a : Int) - -36 - ((54 : Nat) : Int) - 1 + 1074 + ((3 : Nat) : Int)).toNat = a - 16 by omega, Nat.mul_assoc, show (65536 : Nat) = 2 ^ 16 by decide, ← Nat.pow_add, show a - 16 + 16 = a by omega, hm, hv]

/-- The sum of a whole number and a part of one. -/
theorem sum_part (x y : Nat) (k p : Nat) (hk : k < 68719476736) (hp : p < 65536) (xs : fneg x = false) (xr : frung x < 9218868437227405312) (xv : fval (frung x) = k * 2 ^ lpN)
    (ys : fneg y = false) (yr : frung y < 9218868437227405312) (yv : fval (frung y) * 65536 = p * 2 ^ lpN) :
    ∃ r, floatBits .add .f64 x y = some r ∧ r < 18446744073709551616 ∧ readF r = k ∧ kindF r ≠ 1 := by
  obtain ⟨m, a, e1, hm⟩ := read_num x xr
  obtain ⟨q, b, e2, hq⟩ := read_num y yr
  rw [xs] at e1
  rw [ys] at e2
  have hN := lpN_eq
  obtain ⟨D, eD⟩ : ∃ D, 2 ^ (lpN - 16) = D := ⟨_, rfl⟩
  have hD : 2 ^ lpN = D * 65536 := by rw [← eD, show (65536 : Nat) = 2 ^ 16 by decide, ← Nat.pow_add]; congr 1
  have hDpos : 0 < D := by rw [← eD]; exact Nat.two_pow_pos _
  have yv' : fval (frung y) = p * D := by
    rw [hD, ← Nat.mul_assoc] at yv
    exact Nat.mul_right_cancel (by omega) yv
  have e3 : floatBits .add .f64 x y = ((Ieee.double.read x).sum (Ieee.double.read y)).map Ieee.double.write := rfl
  rw [e3, e1, e2]
  unfold Datum.sum
  simp only [Bool.and_false, Option.map_some]
  rw [show (-1074 + (a : Int) - min (-1074 + (a : Int)) (-1074 + b)).toNat = a - min a b by omega, show (-1074 + (b : Int) - min (-1074 + (a : Int)) (-1074 + b)).toNat = b - min a b by omega, show min (-1074 + (a : Int)) (-1074 + b) = -1074 + ((min a b : Nat) : Int) by omega]
  have hA : (m <<< (a - min a b)) * 2 ^ (min a b) = k * 2 ^ lpN := by
    rw [Nat.shiftLeft_eq, Nat.mul_assoc, ← Nat.pow_add, show a - min a b + min a b = a by omega, hm, xv]
  have hB : (q <<< (b - min a b)) * 2 ^ (min a b) = p * D := by
    rw [Nat.shiftLeft_eq, Nat.mul_assoc, ← Nat.pow_add, show b - min a b + min a b = b by omega, hq, yv']
  unfold signed
  simp only [Bool.false_eq_true, if_false]
  generalize m <<< (a - min a b) = A at *
  generalize q <<< (b - min a b) = B at *
  generalize min a b = c at *
  have hT : (A + B) * 2 ^ c = (k * 65536 + p) * D := by
    rw [Nat.add_mul, hA, hB, hD, Nat.add_mul, Nat.mul_assoc k 65536 D, Nat.mul_comm D 65536]
  have hdec : (if (A : Int) + (B : Int) = 0 then false else decide ((A : Int) + (B : Int) < 0)) = false := by
    split
    · rfl
    · exact decide_eq_false (by omega)
  rw [hdec, show ((A : Int) + (B : Int)).natAbs = A + B by omega]
  generalize A + B = T at *
  have hZ : k * 65536 + p < 4503599627370496 := by omega
  refine ⟨_, rfl, float_lt _, ?_⟩
  have fin : ∀ r, fneg r = false → fval (frung r) = (k * 65536 + p) * D → readF r = k ∧ kindF r ≠ 1 := fun r h1 h2 =>
    readF_of r k (p * D) h1 (by rw [h2, hD, Nat.add_mul, Nat.mul_assoc, Nat.mul_comm D 65536]) (by rw [hD, Nat.mul_comm D]; exact Nat.mul_lt_mul_of_pos_right hp hDpos) (by omega)
  rcases Nat.eq_zero_or_pos (k * 65536 + p) with h0 | h0
  · have hT0 : T = 0 := by
      rw [h0, Nat.zero_mul] at hT
      rcases Nat.mul_eq_zero.1 hT with h | h
      · exact h
      · exact absurd h (by have := Nat.two_pow_pos c; omega)
    subst hT0
    rw [write_zero]
    obtain ⟨h1, h2⟩ := word_parts false 0 (by omega)
    exact fin _ h1 (by rw [h2, h0, Nat.zero_mul]; rfl)
  · have hTpos : 0 < T := Nat.pos_of_ne_zero (fun e => by
      subst e
      rw [Nat.zero_mul] at hT
      have := Nat.mul_pos h0 hDpos
      omega)
    rcases Nat.lt_or_ge (lpN - 16) c with hc | hc
    · have hpc : 2 ^ c = 2 ^ (c - (lpN - 16)) * 2 ^ (lpN - 16) := by
        rw [← Nat.pow_add, Nat.sub_add_cancel (Nat.le_of_lt hc)]
      have hc2 : T * 2 ^ (c - (lpN - 16)) = k * 65536 + p := by
        rw [← eD, hpc, ← Nat.mul_assoc] at hT
        exact Nat.mul_right_cancel (Nat.two_pow_pos _) hT
      have hTle : T ≤ k * 65536 + p := by rw [← hc2]; exact Nat.le_mul_of_pos_right _ (Nat.two_pow_pos _)
      have hcb : c - (lpN - 16) < 52 := by
        have h1 : 2 ^ (c - (lpN - 16)) ≤ T * 2 ^ (c - (lpN - 16)) := Nat.le_mul_of_pos_left _ hTpos
        rw [hc2] at h1
        have h2 : 2 ^ (c - (lpN - 16)) < 2 ^ 52 := by
          rw [show (2 : Nat) ^ 52 = 4503599627370496 by decide]; omega
        exact (Nat.pow_lt_pow_iff_right (by omega : 1 < 2)).1 h2
      have := write_exact false T 0 (-1074 + (c : Int)) (by omega) (by omega) (by omega) (by omega)
      rw [Nat.pow_zero, Nat.mul_one] at this
      obtain ⟨w1, w2, w3⟩ := this
      exact fin _ w1 (by rw [w3, show (-1074 + (c : Int) + 1074 + ((0 : Nat) : Int)).toNat = c by omega, hT])
    · have hpc : 2 ^ (lpN - 16) = 2 ^ (lpN - 16 - c) * 2 ^ c := by
        rw [← Nat.pow_add, Nat.sub_add_cancel hc]
      have hT2 : T = (k * 65536 + p) * 2 ^ (lpN - 16 - c) := by
        rw [← eD, hpc, ← Nat.mul_assoc] at hT
        exact Nat.mul_right_cancel (Nat.two_pow_pos _) hT
      obtain ⟨w1, w2, w3⟩ := write_exact false (k * 65536 + p) (lpN - 16 - c) (-1074 + (c : Int)) (by omega) (by omega) (by omega) (by omega)
      rw [← hT2] at w1 w2 w3
      exact fin _ w1 (by rw [w3, show (-1074 + (c : Int) + 1074 + ((lpN - 16 - c : Nat) : Int)).toNat = lpN - 16 by omega, eD])

set_option maxRecDepth 100000 in
set_option maxHeartbeats 8000000 in
theorem walk (n p : Int) (w : World) (hn : 0 ≤ n ∧ n ≤ 18446744073709551615) (hp : 0 ≤ p ∧ p ≤ 65535) : Calls Try.prog 6 #[.int .u64 n, .int .u16 p] w fun e w' => e = .returned (.bool true) ∧ Below w.heap.size w w' := by
  have hbel : Below w.heap.size w w := Below.refl _ _
  obtain ⟨k, ek⟩ : ∃ k : Nat, n % 9007199254740992 = (k : Int) := ⟨(n % 9007199254740992).toNat, by omega⟩
  obtain ⟨m, em⟩ : ∃ m : Nat, (k : Int) % 68719476736 = (m : Int) := ⟨k % 68719476736, by omega⟩
  obtain ⟨q, rfl⟩ : ∃ q : Nat, p = (q : Int) := ⟨p.toNat, by omega⟩
  have hk : k < 9007199254740992 := by omega
  have hm : m < 68719476736 := by omega
  obtain ⟨a1, a2, a3⟩ := of_nat k hk
  have a4 : floatOfInt .f64 (k : Int) < 18446744073709551616 := Ieee.double.write_lt (.number (decide ((k : Int) < 0)) (k : Int).natAbs 0)
  obtain ⟨b1, b2⟩ := readF_of _ k 0 a1 (by rw [a3, Nat.add_zero]) (Nat.two_pow_pos _) (by omega)
  obtain ⟨c1, c2, c3⟩ := of_nat m (by omega)
  obtain ⟨r, d1, d2, d3, d4⟩ := sub_half _ a4 a1 a2
  obtain ⟨t, e1, e2, e3, e4⟩ := by_65536 q (by omega)
  obtain ⟨g, f1, f2, f3, f4⟩ := sum_part _ t m q hm (by omega) c1 c2 c3 e2 e3 e4
  have R1 := fun v => edge_Read (floatOfInt .f64 (k : Int)) v a4
  have R2 := fun v => edge_Read r v d2
  have R3 := fun v => edge_Read g v f2
  simp only [if_neg b2, b1] at R1
  simp only [if_neg d4, d3] at R2
  simp only [if_neg f4, f3] at R3
  have H1 := Lib.hid R1
  have H2 := Lib.hid R2
  have H3 := Lib.hid R3
  have hu : ∀ w, (Op.unary .neg (.float .f64 (floatOfInt .f64 (k : Int)))).run Try.prog w = .ok (.float .f64 (Op.negFloat .f64 (floatOfInt .f64 (k : Int)))) w := fun w => run_neg _ w
  have hsub : ∀ t w, (binOp .sub t (.float .f64 (Op.negFloat .f64 (floatOfInt .f64 (k : Int)))) (.float .f64 4602678819172646912)).run Try.prog w = .ok (.float .f64 r) w := fun t w => run_float_arith w .sub t .f64 _ _ _ d1
  have hquo : ∀ t' w, (binOp .quo t' (.float .f64 (floatOfInt .f64 (q : Int))) (.float .f64 4679240012837945344)).run Try.prog w = .ok (.float .f64 t) w := fun t' w => run_float_arith w .quo t' .f64 _ _ _ e1
  have hadd : ∀ t' w, (binOp .add t' (.float .f64 (floatOfInt .f64 (m : Int))) (.float .f64 t)).run Try.prog w = .ok (.float .f64 g) w := fun t' w => run_float_arith w .add t' .f64 _ _ _ f1
  have hc1 : ∀ w, (convert 3 24 (.int .i64 (k : Int))).run Try.prog w = .ok (.float .f64 (floatOfInt .f64 (k : Int))) w := fun w => run_convert_int_float w _ _ _ _ _ (by kernel_rfl) Try.underlying24
  have hc2 : ∀ w, (convert 3 24 (.int .i64 (m : Int))).run Try.prog w = .ok (.float .f64 (floatOfInt .f64 (m : Int))) w := fun w => run_convert_int_float w _ _ _ _ _ (by kernel_rfl) Try.underlying24
  have hc3 : ∀ w, (convert 40 24 (.int .u16 (q : Int))).run Try.prog w = .ok (.float .f64 (floatOfInt .f64 (q : Int))) w := fun w => run_convert_int_float w _ _ _ _ _ (by kernel_rfl) Try.underlying24
  have hwk : wrap64 (n % 9007199254740992) = k := by rw [ek]; unfold wrap64; omega
  clear R1 R2 R3 a1 a2 a3 a4 b1 b2 c1 c2 c3 d1 d2 d3 d4 e1 e2 e3 e4 f1 f2 f3 f4
  go_enter Try.func6, Try.ntmps6
  go_wp2_with (first | (go_at_call 9; (with_reducible refine (awake03 _).mono ?_); rintro e w1 ⟨rfl, hb1⟩; replace hbel := belStep hbel hb1; clear hb1) | (go_at_call 11; (with_reducible refine (H1.out _).mono ?_); rintro e w' ⟨rfl, rfl⟩) | (go_at_call 11; (with_reducible refine (H2.out _).mono ?_); rintro e w' ⟨rfl, rfl⟩) | (go_at_call 11; (with_reducible refine (H3.out _).mono ?_); rintro e w' ⟨rfl, rfl⟩))
  go_ret
  exact ⟨rfl, hbel⟩

set_option maxRecDepth 100000 in
theorem lifted (os : Os) (started : os.Started) (H : Type) (enc : TypeId × Value → H) :
    ReturnsInHanded {} Try.checked os 6 .any (Rows.edgeWholeSpec.pre6 enc Try.prog Try.f6 Rows.edgeWholeRow.domain false) (Rows.edgeWholeSpec.post enc Try.prog Try.f6 false true false false) := by
  refine returnsInHanded_of_change (C := Try.checked) own started (by kernel_rfl) Try.func6
    (ChangeSpec.witness6 (enc := enc) (C := Try.checked) false ⟨#[], #[.int .u64 0, .int .u16 0], []⟩ 8 (by kernel_rfl) (by kernel_rfl) (by kernel_rfl) (by kernel_rfl)) ?_
  intro W base args ds gs before hval0 hW hcnd _
  have hval : ∀ (j : Nat) t v, Try.f6.params[j]? = some t → args[j]? = some v → Value.okWide Try.prog W .any base t v := hval0
  have hW' := hW
  obtain ⟨p, q, hA0, hV, rfl, hfz, hnd⟩ := hW
  have hA : DataW.TrodAll enc Try.prog W 0 (fun _ => true) true Try.f6.params.toList args.toList ds p := hA0
  rw [Try.params6] at hA hval
  obtain ⟨v0, vs0, d0, ds0, p0, q0, hargs, rfl, rfl, h0, r0⟩ := trodAll_cons hA
  obtain ⟨v1, vs1, d1, ds1, p1, q1, rfl, rfl, rfl, h1, r1⟩ := trodAll_cons r0
  obtain ⟨rfl, rfl, rfl⟩ := trodAll_nil r1
  obtain rfl : args = #[v0, v1] := by cases args; simp_all
  obtain ⟨rfl, rfl⟩ := trodVars_none hV
  have k0 := h0
  have lt0 : ∀ x ∈ p0, x.block < W.heap.size := by obtain ⟨m, hm⟩ := k0; exact DataW.trod_lt m _ _ _ hm
  have o0 : Value.okWide Try.prog W .any base 22 v0 := hval 0 22 v0 rfl rfl
  obtain ⟨a0, rfl, rfl, rfl, w0⟩ := open_int Try.underlying22 o0 h0
  have k1 := h1
  have lt1 : ∀ x ∈ p1, x.block < W.heap.size := by obtain ⟨m, hm⟩ := k1; exact DataW.trod_lt m _ _ _ hm
  have o1 : Value.okWide Try.prog W .any base 40 v1 := hval 1 40 v1 rfl rfl
  obtain ⟨a1, rfl, rfl, rfl, w1⟩ := open_int Try.underlying40 o1 h1
  clear hA0 hval0
  refine (walk a0 a1 W (in64_of_wf w0) (in16_of_wf w1)).mono fun e W' ⟨he, bel⟩ => ?_
  subst he
  exact ⟨_, rfl, _, _, _, [], _, [], hW', trodAll_mk1 (shut_bool Try.underlying4 _), (trodAll_cons_mk (Below.trod laidOut (by kernel_rfl) (of_decide_eq_true (by kernel_rfl)) k0 bel lt0) (trodAll_cons_mk (Below.trod laidOut (by kernel_rfl) (of_decide_eq_true (by kernel_rfl)) k1 bel lt1) trodAll_mk0)), rfl, bel.frame _, fun h => by cases h⟩

theorem over : Rows.edgeWholeRow.holds Try.pinned (OpenSpec.ofChange Rows.edgeWholeSpec) :=
  OpenClaim.holds_of_wide 6 Try.f6 rfl rfl rfl rfl rfl rfl rfl ⟨rfl, rfl, rfl, rfl, rfl⟩ rfl rfl rfl rfl rfl (by kernel_rfl) Try.func6 (by kernel_rfl)
    (of_decide_eq_true (by kernel_rfl)) (by unfold Func.isWrapper; first | (rw [if_pos (by decide +kernel)]; kernel_rfl) | (rw [if_neg (by decide +kernel)]; exact ⟨rfl, rfl⟩))
    (fun os started H enc _ => lifted os started H enc)

/-- The statement. -/
theorem proved : Rows.EdgeWholeSaid := over
#print axioms proved

end Go.Proofs.Ytkdkhbeacejamaa.edgeWhole
