
/- SampleSigns holds for all its arguments. No conditions. -/
import Derived.Test.YtcgpmihjodolmaaAwake17
namespace Go.Proofs.Ytcgpmihjodolmaa.sampleSigns
open Go.ChangeShapes Go.WideShapes Go.ChangeAt Go.RowKit
open Go.ChangeMaps (open_string shut_string)
set_option linter.unusedVariables false
set_option linter.unusedSimpArgs false
open Ieee
theorem readF_of (n K ρ : Nat) (hs : fneg n = false) (hv : fval (frung n) = K * 2 ^ lpN + ρ) (hρ : ρ < 2 ^ lpN) (hK : K < 9223372036854775808) : readF n = K ∧ kindF n ≠ 1 := by
  have hw : wholeF (frung n) = K := by
    unfold wholeF
    rw [hv, Nat.mul_comm, Nat.mul_add_div (Nat.two_pow_pos _), Nat.div_eq_of_lt hρ, Nat.add_zero]
  have hlt : frung n < 4890909195324358656 := by
    rw [← fval_lt_iff]
    have e1 : (2 : Nat) ^ (11 + lpN) = 2 ^ 11 * 2 ^ lpN := Nat.pow_add 2 11 lpN
    have := fval_high (11 + lpN) 4503599627370496 (by omega) (by omega)
    rw [show (11 + lpN) * 4503599627370496 + 4503599627370496 = 4890909195324358656 by decide] at this
    rw [this, e1, hv, ← Nat.mul_assoc, show 4503599627370496 * 2 ^ 11 = 9223372036854775808 by decide]
    have := Nat.mul_le_mul_right (2 ^ lpN) (show K + 1 ≤ 9223372036854775808 by omega)
    rw [Nat.add_mul, Nat.one_mul] at this
    omega
  refine ⟨?_, ?_⟩
  · unfold readF
    rw [hs, if_neg (by simp), if_neg (by omega), hw]
  · unfold kindF
    rw [if_neg (by omega), if_neg (by omega), hs]
    simp only [Bool.false_eq_true, if_false]
    split <;> omega
/-- A whole number as a float. -/
theorem of_nat (k : Nat) (hk : k < 9007199254740992) : fneg (floatOfInt .f64 k) = false ∧ frung (floatOfInt .f64 k) < 9218868437227405312 ∧ fval (frung (floatOfInt .f64 k)) = k * 2 ^ lpN := by
  have e : floatOfInt .f64 (k : Int) = Ieee.double.write (.number false k 0) := by
    show Ieee.double.write (.number (decide ((k : Int) < 0)) (k : Int).natAbs 0) = _
    rw [decide_eq_false (by omega), Int.natAbs_natCast]
  rw [e]
  rcases Nat.eq_zero_or_pos k with h0 | h0
  · subst h0
    rw [write_zero]
    obtain ⟨h1, h2⟩ := word_parts false 0 (by omega)
    rw [h1, h2, Nat.zero_mul]
    exact ⟨rfl, by omega, rfl⟩
  · have := write_exact false k 0 0 (by omega) hk (by omega) (by omega)
    rw [Nat.pow_zero, Nat.mul_one, show (0 + 1074 + ((0 : Nat) : Int)).toNat = lpN from lpN_eq.symm] at this
    exact this
theorem float_lt (d : Ieee.Datum) : Ieee.double.write d < 18446744073709551616 := Ieee.double.write_lt d
/-- A number below 2^16, by 2^16. -/
theorem by_65536 (k : Nat) (hk : k < 65536) : ∃ r, floatBits .quo .f64 (floatOfInt .f64 k) 4679240012837945344 = some r ∧ fneg r = false ∧ frung r < 9218868437227405312 ∧ fval (frung r) * 65536 = k * 2 ^ lpN := by
  obtain ⟨hs, hr, hv⟩ := of_nat k (by omega)
  generalize floatOfInt .f64 (k : Int) = x at *
  have e2 : Ieee.double.read 4679240012837945344 = .number false 4503599627370496 (-36) := by decide +kernel
  have e3 : floatBits .quo .f64 x 4679240012837945344 = ((Ieee.double.read x).quotient 54 (Ieee.double.read 4679240012837945344)).map Ieee.double.write := rfl
  obtain ⟨m, a, e, hm, hm53, ha⟩ := read_num' x hr
  rw [e3, e, e2, hs]
  unfold Datum.quotient
  simp only [Bool.bne_false]
  rw [if_neg (by omega)]
  simp only [Option.map_some]
  rcases Nat.eq_zero_or_pos k with h0 | h0
  · subst h0
    rw [hv, Nat.zero_mul] at hm
    have hm0 : m = 0 := by
      rcases Nat.mul_eq_zero.1 hm with q | q
      · exact q
      · exact absurd q (by have := Nat.two_pow_pos a; omega)
    subst hm0
    refine ⟨_, rfl, ?_⟩
    simp only [Nat.zero_shiftLeft, Nat.zero_div, Nat.mul_zero, Nat.zero_mod, bne_self_eq_false, Bool.toNat_false, Nat.add_zero]
    rw [write_zero]
    obtain ⟨h1, h2⟩ := word_parts false 0 (by omega)
    rw [h1, h2, Nat.zero_mul]
    exact ⟨rfl, by omega, rfl⟩
  · -- a normal number
    have hbig : 2 ^ lpN ≤ m * 2 ^ a := by
      rw [hm, hv]
      exact Nat.le_mul_of_pos_left _ h0
    have ha1 : 1000 ≤ a := by
      rcases Nat.lt_or_ge a (lpN - 74) with q | q
      · exfalso
        have h1 : 2 ^ a ≤ 2 ^ (lpN - 74) := Nat.pow_le_pow_right (by omega) (by omega)
        have h2 : m * 2 ^ a < 2 ^ 53 * 2 ^ (lpN - 74) := by
          have h53 : (2 : Nat) ^ 53 = 9007199254740992 := by decide
          rw [h53]
          exact Nat.mul_lt_mul_of_lt_of_le hm53 h1 (Nat.two_pow_pos _)
        rw [← Nat.pow_add] at h2
        have h3 : 2 ^ (53 + (lpN - 74)) ≤ 2 ^ lpN := Nat.pow_le_pow_right (by omega) (by have := lpN_eq; omega)
        omega
      · have := lpN_eq; omega
    have hmn : 4503599627370496 ≤ m := by
      have hr2 : 4503599627370496 ≤ frung x := by omega
      have := read_double x
      rw [e, if_neg (by omega), if_pos hr] at this
      simp at this
      omega
    have hlog : m.log2 = 52 := by
      rw [Nat.log2_eq_iff (by omega), show (2 : Nat) ^ 52 = 4503599627370496 by decide, show (2 : Nat) ^ (52 + 1) = 9007199254740992 by decide]
      omega
    have hlog2 : (4503599627370496 : Nat).log2 = 52 := by decide
    rw [hlog, hlog2, show 54 + 52 - 52 = 54 by rfl, Nat.shiftLeft_eq]
    have hd : m * 2 ^ 54 = m * 4 * 4503599627370496 := by rw [show (2 : Nat) ^ 54 = 4 * 4503599627370496 by decide, Nat.mul_assoc]
    rw [hd, Nat.mul_div_cancel _ (by omega), Nat.mul_mod_left]
    simp only [bne_self_eq_false, Bool.toNat_false, Nat.add_zero]
    rw [show 2 * (m * 4) = m * 2 ^ 3 by omega]
    have hN := lpN_eq
    have ha3 : a ≤ 1100 := by
      rcases Nat.lt_or_ge (lpN + 26) a with q | q
      · exfalso
        have h1 : 2 ^ (lpN + 27) ≤ 2 ^ a := Nat.pow_le_pow_right (by omega) (by omega)
        have h2 : 2 ^ a ≤ m * 2 ^ a := Nat.le_mul_of_pos_left _ (by omega)
        have h16 : (2 : Nat) ^ 16 = 65536 := by decide
        have h3 : k * 2 ^ lpN ≤ 2 ^ 16 * 2 ^ lpN := Nat.mul_le_mul_right _ (by omega)
        rw [← Nat.pow_add] at h3
        have h4 : 2 ^ (16 + lpN) < 2 ^ (lpN + 27) := Nat.pow_lt_pow_right (by omega) (by omega)
        rw [hm, hv] at h2
        omega
      · omega
    obtain ⟨w1, w2, w3⟩ := write_exact false m 3 (-1074 + (a : Int) - -36 - ((54 : Nat) : Int) - 1) (by omega) hm53 (by omega) (by omega)
    refine ⟨_, rfl, w1, w2, ?_⟩
    rw [w3, show (-1074 + (a : Int) - -36 - ((54 : Nat) : Int) - 1 + 1074 + ((3 : Nat) : Int)).toNat = a - 16 by omega, Nat.mul_assoc, show (65536 : Nat) = 2 ^ 16 by decide, ← Nat.pow_add, show a - 16 + 16 = a by omega, hm, hv]
/-- The sum of a whole number and a part of one. -/
theorem sum_part (x y : Nat) (k p : Nat) (hk : k < 68719476736) (hp : p < 65536) (xs : fneg x = false) (xr : frung x < 9218868437227405312) (xv : fval (frung x) = k * 2 ^ lpN)
    (ys : fneg y = false) (yr : frung y < 9218868437227405312) (yv : fval (frung y) * 65536 = p * 2 ^ lpN) :
    ∃ r, floatBits .add .f64 x y = some r ∧ r < 18446744073709551616 ∧ readF r = k ∧ kindF r ≠ 1 := by
  obtain ⟨m, a, e1, hm⟩ := read_num x xr
  obtain ⟨q, b, e2, hq⟩ := read_num y yr
  rw [xs] at e1
  rw [ys] at e2
  have hN := lpN_eq
  obtain ⟨D, eD⟩ : ∃ D, 2 ^ (lpN - 16) = D := ⟨_, rfl⟩
  have hD : 2 ^ lpN = D * 65536 := by rw [← eD, show (65536 : Nat) = 2 ^ 16 by decide, ← Nat.pow_add]; congr 1
  have hDpos : 0 < D := by rw [← eD]; exact Nat.two_pow_pos _
  have yv' : fval (frung y) = p * D := by
    rw [hD, ← Nat.mul_assoc] at yv
    exact Nat.mul_right_cancel (by omega) yv
  have e3 : floatBits .add .f64 x y = ((Ieee.double.read x).sum (Ieee.double.read y)).map Ieee.double.write := rfl
  rw [e3, e1, e2]
  unfold Datum.sum
  simp only [Bool.and_false, Option.map_some]
  rw [show (-1074 + (a : Int) - min (-1074 + (a : Int)) (-1074 + b)).toNat = a - min a b by omega, show (-1074 + (b : Int) - min (-1074 + (a : Int)) (-1074 + b)).toNat = b - min a b by omega, show min (-1074 + (a : Int)) (-1074 + b) = -1074 + ((min a b : Nat) : Int) by omega]
  have hA : (m <<< (a - min a b)) * 2 ^ (min a b) = k * 2 ^ lpN := by
    rw [Nat.shiftLeft_eq, Nat.mul_assoc, ← Nat.pow_add, show a - min a b + min a b = a by omega, hm, xv]
  have hB : (q <<< (b - min a b)) * 2 ^ (min a b) = p * D := by
    rw [Nat.shiftLeft_eq, Nat.mul_assoc, ← Nat.pow_add, show b - min a b + min a b = b by omega, hq, yv']
  unfold signed
  simp only [Bool.false_eq_true, if_false]
  generalize m <<< (a - min a b) = A at *
  generalize q <<< (b - min a b) = B at *
  generalize min a b = c at *
  have hT : (A + B) * 2 ^ c = (k * 65536 + p) * D := by
    rw [Nat.add_mul, hA, hB, hD, Nat.add_mul, Nat.mul_assoc k 65536 D, Nat.mul_comm D 65536]
  have hdec : (if (A : Int) + (B : Int) = 0 then false else decide ((A : Int) + (B : Int) < 0)) = false := by
    split
    · rfl
    · exact decide_eq_false (by omega)
  rw [hdec, show ((A : Int) + (B : Int)).natAbs = A + B by omega]
  generalize A + B = T at *
  have hZ : k * 65536 + p < 4503599627370496 := by omega
  refine ⟨_, rfl, float_lt _, ?_⟩
  have fin : ∀ r, fneg r = false → fval (frung r) = (k * 65536 + p) * D → readF r = k ∧ kindF r ≠ 1 := fun r h1 h2 =>
    readF_of r k (p * D) h1 (by rw [h2, hD, Nat.add_mul, Nat.mul_assoc, Nat.mul_comm D 65536]) (by rw [hD, Nat.mul_comm D]; exact Nat.mul_lt_mul_of_pos_right hp hDpos) (by omega)
  rcases Nat.eq_zero_or_pos (k * 65536 + p) with h0 | h0
  · have hT0 : T = 0 := by
      rw [h0, Nat.zero_mul] at hT
      rcases Nat.mul_eq_zero.1 hT with h | h
      · exact h
      · exact absurd h (by have := Nat.two_pow_pos c; omega)
    subst hT0
    rw [write_zero]
    obtain ⟨h1, h2⟩ := word_parts false 0 (by omega)
    exact fin _ h1 (by rw [h2, h0, Nat.zero_mul]; rfl)
  · have hTpos : 0 < T := Nat.pos_of_ne_zero (fun e => by
      subst e
      rw [Nat.zero_mul] at hT
      have := Nat.mul_pos h0 hDpos
      omega)
    rcases Nat.lt_or_ge (lpN - 16) c with hc | hc
    · have hpc : 2 ^ c = 2 ^ (c - (lpN - 16)) * 2 ^ (lpN - 16) := by
        rw [← Nat.pow_add, Nat.sub_add_cancel (Nat.le_of_lt hc)]
      have hc2 : T * 2 ^ (c - (lpN - 16)) = k * 65536 + p := by
        rw [← eD, hpc, ← Nat.mul_assoc] at hT
        exact Nat.mul_right_cancel (Nat.two_pow_pos _) hT
      have hTle : T ≤ k * 65536 + p := by rw [← hc2]; exact Nat.le_mul_of_pos_right _ (Nat.two_pow_pos _)
      have hcb : c - (lpN - 16) < 52 := by
        have h1 : 2 ^ (c - (lpN - 16)) ≤ T * 2 ^ (c - (lpN - 16)) := Nat.le_mul_of_pos_left _ hTpos
        rw [hc2] at h1
        have h2 : 2 ^ (c - (lpN - 16)) < 2 ^ 52 := by
          rw [show (2 : Nat) ^ 52 = 4503599627370496 by decide]; omega
        exact (Nat.pow_lt_pow_iff_right (by omega : 1 < 2)).1 h2
      have := write_exact false T 0 (-1074 + (c : Int)) (by omega) (by omega) (by omega) (by omega)
      rw [Nat.pow_zero, Nat.mul_one] at this
      obtain ⟨w1, w2, w3⟩ := this
      exact fin _ w1 (by rw [w3, show (-1074 + (c : Int) + 1074 + ((0 : Nat) : Int)).toNat = c by omega, hT])
    · have hpc : 2 ^ (lpN - 16) = 2 ^ (lpN - 16 - c) * 2 ^ c := by
        rw [← Nat.pow_add, Nat.sub_add_cancel hc]
      have hT2 : T = (k * 65536 + p) * 2 ^ (lpN - 16 - c) := by
        rw [← eD, hpc, ← Nat.mul_assoc] at hT
        exact Nat.mul_right_cancel (Nat.two_pow_pos _) hT
      obtain ⟨w1, w2, w3⟩ := write_exact false (k * 65536 + p) (lpN - 16 - c) (-1074 + (c : Int)) (by omega) (by omega) (by omega) (by omega)
      rw [← hT2] at w1 w2 w3
      exact fin _ w1 (by rw [w3, show (-1074 + (c : Int) + 1074 + ((lpN - 16 - c : Nat) : Int)).toNat = lpN - 16 by omega, eD])
theorem math_Copysign (w : World) : Calls Try.prog 32 #[.float .f64 0, .float .f64 13830554455654793216] w fun e w' => e = .returned (.float .f64 9223372036854775808) ∧ w = w' := by
  have h1 := run_bits 0
  have h2 := run_bits 13830554455654793216
  have h3 := run_frombits 9223372036854775808
  have b1 : bits .andNot .u64 0 9223372036854775808 = 0 := by decide
  have b2 : bits .and .u64 13830554455654793216 9223372036854775808 = 9223372036854775808 := by decide
  have b3 : bits .or .u64 0 9223372036854775808 = 9223372036854775808 := by decide
  go_enter Try.func32, Try.ntmps32
  go_wp2
  go_ret
  exact ⟨rfl, rfl⟩
theorem math_InfN (w : World) : Calls Try.prog 33 #[.int .i64 (-1)] w fun e w' => e = .returned (.float .f64 18442240474082181120) ∧ w = w' := by
  have hb := run_frombits 18442240474082181120
  go_enter Try.func33, Try.ntmps33
  go_wp2
  go_ret
  exact ⟨rfl, rfl⟩
theorem quo_lt {x y t : Nat} (h : floatBits .quo .f64 x y = some t) : t < 18446744073709551616 := by
  have e : floatBits .quo .f64 x y = ((Ieee.double.read x).quotient 54 (Ieee.double.read y)).map Ieee.double.write := rfl
  rw [e] at h
  obtain ⟨d, _, rfl⟩ := Option.map_eq_some_iff.1 h
  exact float_lt _
theorem nan_not {n : Nat} (h : frung n ≤ 9218868437227405312) : notNaN n = true := by
  have hk : kindF n ≠ 1 := by
    unfold kindF
    rw [if_neg (by omega)]
    repeat (first | omega | split)
  unfold notNaN; simp [hk]
theorem nan_kind {n : Nat} (h : kindF n ≠ 1) : notNaN n = true := by
  unfold notNaN; simp [h]
theorem signs_read {mi t g k : Nat} (h1 : readF mi = 0) (n1 : notNaN mi = true) (h2 : readF t = 0) (n2 : notNaN t = true) (h3 : readF g = k) (n3 : notNaN g = true) :
    readSF ⟨0, 9223372036854775808, mi, 9218868437227405312⟩ [⟨⟨#[112]⟩, 18442240474082181120, t, g⟩] = (⟨0, 0, 0, 9223372036854775807, [⟨⟨#[112]⟩, 0, 0, k⟩]⟩, 0) := by
  have hr : rightR ⟨0, 9223372036854775808, mi, 9218868437227405312⟩ [⟨⟨#[112]⟩, 18442240474082181120, t, g⟩] = true := by
    rw [right_eq]
    have e1 : twiceB [⟨⟨#[112]⟩, 18442240474082181120, t, g⟩] = false := by
      unfold twiceB twinAt hasId; rfl
    have e2 : all3 9223372036854775808 mi 9218868437227405312 = true := by
      unfold all3; rw [n1, show notNaN 9223372036854775808 = true by decide +kernel, show notNaN 9218868437227405312 = true by decide +kernel]; rfl
    have e3 : okU ⟨⟨#[112]⟩, 18442240474082181120, t, g⟩ = true := by
      unfold okU all3
      rw [show notNaN 18442240474082181120 = true by decide +kernel, n2, n3, show nameB ⟨#[112]⟩ = true by decide +kernel]; rfl
    rw [e1, e2]
    simp [e3]
  rw [readSF_yes hr]
  unfold readOK readL sortU
  rw [show readF 9223372036854775808 = 0 by decide +kernel, h1, show readF 9218868437227405312 = 9223372036854775807 by decide +kernel]
  rw [List.map_cons, List.map_nil]
  unfold readU sortBy
  rw [h2, h3, show readF 18442240474082181120 = 0 by decide +kernel, List.mergeSort_singleton]
theorem read_lit {mi t g k : Nat} (u : World) (hs : readSF ⟨0, 9223372036854775808, mi, 9218868437227405312⟩ [⟨⟨#[112]⟩, 18442240474082181120, t, g⟩] = (⟨0, 0, 0, 9223372036854775807, [⟨⟨#[112]⟩, 0, 0, k⟩]⟩, 0)) (b1 : In64 mi) (b2 : In64 t) (b3 : In64 g) :
    Calls Try.prog 20 #[.agg #[.int .i64 0, .float .f64 9223372036854775808, .float .f64 mi, .float .f64 9218868437227405312, .slice (some ⟨u.heap.size, 0, none⟩) 1 1]] (u.alloc (.cells #[.string ⟨#[112]⟩, .float .f64 18442240474082181120, .float .f64 t, .float .f64 g] 47)) fun e w' => (∃ b n, e = .returned (.tuple #[.agg #[.int .i64 0, .int .i64 0, .int .i64 0, .int .i64 9223372036854775807, .slice b 1 n], .int .i64 0]) ∧ OwnR w' u.heap.size 51 4 (.slice b 1 n) 1 [.string ⟨#[112]⟩, .int .i64 0, .int .i64 0, .int .i64 (k : Int)]) ∧ Below u.heap.size u w' := by
  refine (smp_ReadE ⟨0, 9223372036854775808, mi, 9218868437227405312⟩ (some ⟨u.heap.size, 0, none⟩) 1 1 [⟨⟨#[112]⟩, 18442240474082181120, t, g⟩] _ rfl ?_ ?_ (row_new u [.string ⟨#[112]⟩, .float .f64 18442240474082181120, .float .f64 t, .float .f64 g] 47 1 4 rfl (by unfold maxLen; omega)) hs).mono ?_
  · exact ⟨by unfold InI; dsimp only; omega, by unfold In64; dsimp only; omega, b1, by unfold In64; dsimp only; omega⟩
  · intro x hx
    obtain rfl := List.mem_singleton.1 hx
    exact ⟨by show (1 : Nat) ≤ maxLen; unfold maxLen; omega, by unfold In64; dsimp only; omega, b2, b3⟩
  · rintro e w' ⟨⟨b, n, he, ho⟩, hb⟩
    exact ⟨⟨b, n, he, OwnR.mono ho (by simp)⟩, (belAlloc (Below.refl _ _) _).trans (hb.mono (by simp))⟩
set_option maxRecDepth 100000 in
set_option maxHeartbeats 16000000 in
theorem walk (n p : Int) (w : World) (hn : 0 ≤ n ∧ n ≤ 4294967295) (hp : 0 ≤ p ∧ p ≤ 65535) :
    Calls Try.prog 6 #[.int .u32 n, .int .u16 p] w fun e w' => e = .returned (.bool true) ∧ Below w.heap.size w w' := by
  have hw : Below w.heap.size w w := Below.refl _ _
  have hbel := hw
  obtain ⟨k, rfl⟩ : ∃ k : Nat, n = (k : Int) := ⟨n.toNat, by omega⟩
  obtain ⟨q, rfl⟩ : ∃ q : Nat, p = (q : Int) := ⟨p.toNat, by omega⟩
  obtain ⟨hn0, hn1⟩ := hn
  obtain ⟨a1, a2, a3⟩ := of_nat k (by omega)
  have a4 : floatOfInt .f64 (k : Int) < 18446744073709551616 := Ieee.double.write_lt (.number (decide ((k : Int) < 0)) (k : Int).natAbs 0)
  obtain ⟨t, e1, e2, e3, e4⟩ := by_65536 q (by omega)
  obtain ⟨g, f1, f2, f3, f4⟩ := sum_part _ t k q (by omega) (by omega) a1 a2 a3 e2 e3 e4
  have e5 : t < 18446744073709551616 := quo_lt e1
  have hlp : fval (frung t) < 2 ^ lpN := by have h1 : q * 2 ^ lpN ≤ 65535 * 2 ^ lpN := Nat.mul_le_mul_right _ (by omega); have h2 := Nat.two_pow_pos lpN; omega
  obtain ⟨t1, t2⟩ := readF_of t 0 (fval (frung t)) e2 (by omega) hlp (by omega)
  have m1 : readF (Op.negFloat .f64 (floatOfInt .f64 (k : Int))) = 0 := by unfold readF; rw [neg_neg _ a4, a1]; rfl
  have m2 := neg_rung _ a4
  have m3 := neg_lt _ a4
  have hsr := signs_read (k := k) m1 (nan_not (by rw [m2]; omega)) (by simpa using t1) (nan_not (by omega)) f3 (nan_kind f4)
  have CRD := Lib.hid (fun u => read_lit u hsr m3 e5 f2)
  have hu : ∀ w, (Op.unary .neg (.float .f64 (floatOfInt .f64 (k : Int)))).run Try.prog w = .ok (.float .f64 (Op.negFloat .f64 (floatOfInt .f64 (k : Int)))) w := fun w => run_neg _ w
  have hquo : ∀ t' w, (binOp .quo t' (.float .f64 (floatOfInt .f64 (q : Int))) (.float .f64 4679240012837945344)).run Try.prog w = .ok (.float .f64 t) w := fun t' w => run_float_arith w .quo t' .f64 _ _ _ e1
  have hadd : ∀ t' w, (binOp .add t' (.float .f64 (floatOfInt .f64 (k : Int))) (.float .f64 t)).run Try.prog w = .ok (.float .f64 g) w := fun t' w => run_float_arith w .add t' .f64 _ _ _ f1
  have hc2 : ∀ w, (convert 53 22 (.int .u32 (k : Int))).run Try.prog w = .ok (.float .f64 (floatOfInt .f64 (k : Int))) w := fun w => run_convert_int_float w _ _ _ _ _ (by kernel_rfl) Try.underlying22
  have hc3 : ∀ w, (convert 54 22 (.int .u16 (q : Int))).run Try.prog w = .ok (.float .f64 (floatOfInt .f64 (q : Int))) w := fun w => run_convert_int_float w _ _ _ _ _ (by kernel_rfl) Try.underlying22
  generalize Op.negFloat .f64 (floatOfInt .f64 (k : Int)) = mi at *
  clear a1 a2 a3 a4 e1 e2 e3 e4 e5 f1 f2 f3 f4 hlp t1 t2 m1 m2 m3 hsr
  generalize floatOfInt .f64 (k : Int) = fk at *
  generalize floatOfInt .f64 (q : Int) = fq at *
  go_enter Try.func6, Try.ntmps6
  go_upto_region 6 with (first | (go_at_call 18; (with_reducible refine (awake17 _).mono ?_); rintro e w1 ⟨rfl, hb1⟩; replace hbel := belStep hbel hb1; clear hb1) | (go_at_call 32; (with_reducible refine (math_Copysign _).mono ?_); rintro e w' ⟨rfl, rfl⟩) | (go_at_call 33; (with_reducible refine (math_Inf _).mono ?_); rintro e w' ⟨rfl, rfl⟩) | (go_at_call 33; (with_reducible refine (math_InfN _).mono ?_); rintro e w' ⟨rfl, rfl⟩) | (go_at_call 20; (with_reducible refine (CRD.out _).mono ?_); rintro e u1 ⟨⟨b1, n1, rfl, ho1⟩, hb1⟩; replace hbel := belStep hbel hb1))
  have HO1 := Lib.hid (OwnR.alloc ho1 (.cells #[.int .i64 0, .int .i64 0, .int .i64 0, .int .i64 9223372036854775807, .slice b1 1 n1] 32))
  clear ho1 hb1
  have ss0 : (u1.alloc (.cells #[.int .i64 0, .int .i64 0, .int .i64 0, .int .i64 9223372036854775807, .slice b1 1 n1] 32)).cell? ⟨u1.heap.size, 0, none⟩ = some (.int .i64 0) := by first | (simp; done) | (rw [World.cell?_alloc_at _ _ _ _ (by simp)]; rfl) | (rw [World.cell?_alloc_past _ _ _ (by simp <;> omega), World.cell?_alloc_at _ _ _ _ (by simp)]; rfl) | (rw [World.cell?_alloc_past _ _ _ (by simp <;> omega), World.cell?_alloc_past _ _ _ (by simp <;> omega), World.cell?_alloc_at _ _ _ _ (by simp)]; rfl)
  have ss1 : (u1.alloc (.cells #[.int .i64 0, .int .i64 0, .int .i64 0, .int .i64 9223372036854775807, .slice b1 1 n1] 32)).cell? ⟨u1.heap.size, 1, none⟩ = some (.int .i64 0) := by first | (simp; done) | (rw [World.cell?_alloc_at _ _ _ _ (by simp)]; rfl) | (rw [World.cell?_alloc_past _ _ _ (by simp <;> omega), World.cell?_alloc_at _ _ _ _ (by simp)]; rfl) | (rw [World.cell?_alloc_past _ _ _ (by simp <;> omega), World.cell?_alloc_past _ _ _ (by simp <;> omega), World.cell?_alloc_at _ _ _ _ (by simp)]; rfl)
  have ss2 : (u1.alloc (.cells #[.int .i64 0, .int .i64 0, .int .i64 0, .int .i64 9223372036854775807, .slice b1 1 n1] 32)).cell? ⟨u1.heap.size, 2, none⟩ = some (.int .i64 0) := by first | (simp; done) | (rw [World.cell?_alloc_at _ _ _ _ (by simp)]; rfl) | (rw [World.cell?_alloc_past _ _ _ (by simp <;> omega), World.cell?_alloc_at _ _ _ _ (by simp)]; rfl) | (rw [World.cell?_alloc_past _ _ _ (by simp <;> omega), World.cell?_alloc_past _ _ _ (by simp <;> omega), World.cell?_alloc_at _ _ _ _ (by simp)]; rfl)
  have ss3 : (u1.alloc (.cells #[.int .i64 0, .int .i64 0, .int .i64 0, .int .i64 9223372036854775807, .slice b1 1 n1] 32)).cell? ⟨u1.heap.size, 3, none⟩ = some (.int .i64 9223372036854775807) := by first | (simp; done) | (rw [World.cell?_alloc_at _ _ _ _ (by simp)]; rfl) | (rw [World.cell?_alloc_past _ _ _ (by simp <;> omega), World.cell?_alloc_at _ _ _ _ (by simp)]; rfl) | (rw [World.cell?_alloc_past _ _ _ (by simp <;> omega), World.cell?_alloc_past _ _ _ (by simp <;> omega), World.cell?_alloc_at _ _ _ _ (by simp)]; rfl)
  have ss4 : (u1.alloc (.cells #[.int .i64 0, .int .i64 0, .int .i64 0, .int .i64 9223372036854775807, .slice b1 1 n1] 32)).cell? ⟨u1.heap.size, 4, none⟩ = some (.slice b1 1 n1) := by first | (simp; done) | (rw [World.cell?_alloc_at _ _ _ _ (by simp)]; rfl) | (rw [World.cell?_alloc_past _ _ _ (by simp <;> omega), World.cell?_alloc_at _ _ _ _ (by simp)]; rfl) | (rw [World.cell?_alloc_past _ _ _ (by simp <;> omega), World.cell?_alloc_past _ _ _ (by simp <;> omega), World.cell?_alloc_at _ _ _ _ (by simp)]; rfl)
  have hb2 := (by repeat (first | exact hbel | refine belAlloc ?_ _ | refine belDrew ?_ | refine belSet ?_ _ _ (by simp)) : Below w.heap.size w (u1.alloc (.cells #[.int .i64 0, .int .i64 0, .int .i64 0, .int .i64 9223372036854775807, .slice b1 1 n1] 32)))
  replace hw := belStep hw hb2
  clear hb2 hbel
  generalize u1.alloc (.cells #[.int .i64 0, .int .i64 0, .int .i64 0, .int .i64 9223372036854775807, .slice b1 1 n1] 32) = W2 at *
  replace ss0 := keep ss0
  replace ss1 := keep ss1
  replace ss2 := keep ss2
  replace ss3 := keep ss3
  replace ss4 := keep ss4
  generalize u1.heap.size = M1 at *
  have hbel : Below W2.heap.size W2 W2 := Below.refl _ _
  clear u1
  rcases own_shape HO1.out with ⟨_, h0⟩ | ⟨g5, c5, e5, _, hg5, hc5, hc6⟩
  · cases h0
  simp only [Value.slice.injEq, true_and] at e5
  obtain ⟨rfl, rfl⟩ := e5
  have r0 := keep (show W2.cell? ⟨g5, 0, none⟩ = some (.string ⟨#[112]⟩) from by rw [World.ownsRow.cellAt HO1.out 0 (by simp)]; rfl)
  have r1 := keep (show W2.cell? ⟨g5, 1, none⟩ = some (.int .i64 0) from by rw [World.ownsRow.cellAt HO1.out 1 (by simp)]; rfl)
  have r2 := keep (show W2.cell? ⟨g5, 2, none⟩ = some (.int .i64 0) from by rw [World.ownsRow.cellAt HO1.out 2 (by simp)]; rfl)
  have r3 := keep (show W2.cell? ⟨g5, 3, none⟩ = some (.int .i64 (k : Int)) from by rw [World.ownsRow.cellAt HO1.out 3 (by simp)]; rfl)
  clear HO1
  have hE1 : ∀ (v : World), (Op.equalIn 10000 29 (.agg #[.int .i64 0, .int .i64 0, .int .i64 9223372036854775807]) (.agg #[.int .i64 0, .int .i64 0, .int .i64 9223372036854775807])).run Try.prog v = .ok true v := fun v => by rw [eq3_any 9998]; simp
  have hE2 : ∀ (v : World), (Op.equalIn 10000 29 (.agg #[.int .i64 0, .int .i64 0, .int .i64 (k : Int)]) (.agg #[.int .i64 0, .int .i64 0, .int .i64 (k : Int)])).run Try.prog v = .ok true v := fun v => by rw [eq3_any 9998]; simp
  go_wp2
  go_ret
  exact ⟨rfl, belStep hw hbel⟩

set_option maxRecDepth 100000 in
theorem lifted (os : Os) (started : os.Started) (H : Type) (enc : TypeId × Value → H) :
    ReturnsInHanded {} Try.checked os 6 .any (Rows.sampleSignsSpec.pre6 enc Try.prog Try.f6 Rows.sampleSignsRow.domain false) (Rows.sampleSignsSpec.post enc Try.prog Try.f6 false true false false) := by
  refine returnsInHanded_of_change (C := Try.checked) own started (by kernel_rfl) Try.func6
    (ChangeSpec.witness6 (enc := enc) (C := Try.checked) false ⟨#[], #[.int .u32 0, .int .u16 0], []⟩ 8 (by kernel_rfl) (by kernel_rfl) (by kernel_rfl) (by kernel_rfl)) ?_
  intro W base args ds gs before hval0 hW hcnd _
  have hval : ∀ (j : Nat) t v, Try.f6.params[j]? = some t → args[j]? = some v → Value.okWide Try.prog W .any base t v := hval0
  have hW' := hW
  obtain ⟨p, q, hA0, hV, rfl, hfz, hnd⟩ := hW
  have hA : DataW.TrodAll enc Try.prog W 0 (fun _ => true) true Try.f6.params.toList args.toList ds p := hA0
  rw [Try.params6] at hA hval
  obtain ⟨v0, vs0, d0, ds0, p0, q0, hargs, rfl, rfl, h0, r0⟩ := trodAll_cons hA
  obtain ⟨v1, vs1, d1, ds1, p1, q1, rfl, rfl, rfl, h1, r1⟩ := trodAll_cons r0
  obtain ⟨rfl, rfl, rfl⟩ := trodAll_nil r1
  obtain rfl : args = #[v0, v1] := by cases args; simp_all
  obtain ⟨rfl, rfl⟩ := trodVars_none hV
  have k0 := h0
  have lt0 : ∀ x ∈ p0, x.block < W.heap.size := by obtain ⟨m, hm⟩ := k0; exact DataW.trod_lt m _ _ _ hm
  have o0 : Value.okWide Try.prog W .any base 53 v0 := hval 0 53 v0 rfl rfl
  obtain ⟨a0, rfl, rfl, rfl, w0⟩ := open_int Try.underlying53 o0 h0
  have k1 := h1
  have lt1 : ∀ x ∈ p1, x.block < W.heap.size := by obtain ⟨m, hm⟩ := k1; exact DataW.trod_lt m _ _ _ hm
  have o1 : Value.okWide Try.prog W .any base 54 v1 := hval 1 54 v1 rfl rfl
  obtain ⟨a1, rfl, rfl, rfl, w1⟩ := open_int Try.underlying54 o1 h1
  clear hA0 hval0
  refine (walk a0 a1 W (in32_of_wf w0) (in16_of_wf w1)).mono fun e W' ⟨he, bel⟩ => ?_
  subst he
  exact ⟨_, rfl, _, _, _, [], _, [], hW', trodAll_mk1 (shut_bool Try.underlying4 _), (trodAll_cons_mk (Below.trod laidOut (by kernel_rfl) (of_decide_eq_true (by kernel_rfl)) k0 bel lt0) (trodAll_cons_mk (Below.trod laidOut (by kernel_rfl) (of_decide_eq_true (by kernel_rfl)) k1 bel lt1) trodAll_mk0)), rfl, bel.frame _, fun h => by cases h⟩

theorem over : Rows.sampleSignsRow.holds Try.pinned (OpenSpec.ofChange Rows.sampleSignsSpec) :=
  OpenClaim.holds_of_wide 6 Try.f6 rfl rfl rfl rfl rfl rfl rfl ⟨rfl, rfl, rfl, rfl, rfl⟩ rfl rfl rfl rfl rfl (by kernel_rfl) Try.func6 (by kernel_rfl)
    (of_decide_eq_true (by kernel_rfl)) (by unfold Func.isWrapper; first | (rw [if_pos (by decide +kernel)]; kernel_rfl) | (rw [if_neg (by decide +kernel)]; exact ⟨rfl, rfl⟩))
    (fun os started H enc _ => lifted os started H enc)

/-- The statement. -/
theorem proved : Rows.SampleSignsSaid := over
#print axioms proved

end Go.Proofs.Ytcgpmihjodolmaa.sampleSigns
