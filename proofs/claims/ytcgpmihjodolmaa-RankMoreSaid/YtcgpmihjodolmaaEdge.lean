
/- Contracts of package edge, of what it calls of math and cmp, and of its reference, each by one plain function of the bits. -/
import Derived.Test.YtcgpmihjodolmaaEdgeMath
namespace Go.Proofs.Ytcgpmihjodolmaa
open Go.RowKit
set_option linter.unusedVariables false
set_option linter.unusedSimpArgs false

theorem run_bits (n : Nat) (w : World) : (callFunc 58 #[.float .f64 n]).run Try.prog w = .ok (.value (.int .u64 n)) w := by
  rw [run_callFunc_extern Try.func58 (by kernel_rfl) (by kernel_rfl) (by kernel_rfl) (e := Extern.MathFloatBits.float64bits) (by kernel_rfl)]
  rfl
theorem run_frombits (x : Int) (w : World) : (callFunc 29 #[.int .u64 x]).run Try.prog w = .ok (.value (.float .f64 x.toNat)) w := by
  rw [run_callFunc_extern Try.func29 (by kernel_rfl) (by kernel_rfl) (by kernel_rfl) (e := Extern.MathFloatBits.float64frombits) (by kernel_rfl)]
  rfl
theorem toIntegral_num (nm : String) (way : Ieee.Toward) (n : Nat) {s : Bool} {m : Nat} {p : Int} (h : FloatKind.f64.decode n = .number s m p) : Extern.MathFloor.toIntegral nm way #[.float .f64 n] = pure (Value.float .f64 (FloatKind.f64.encode ((FloatKind.f64.decode n).integral way))) := by
  show (match FloatKind.f64.decode n with
    | .nan s t => if FloatKind.f64.format.quiet t = t then pure (Value.float .f64 n) else do
        let kept ← choose (.extern "math.Floor,Ceil,Trunc,RoundToEven.signallingNaN kept" 2)
        pure (Value.float .f64 (if kept == 1 then n else FloatKind.f64.encode (.nan s (FloatKind.f64.format.quiet t))))
    | d => pure (Value.float .f64 (FloatKind.f64.encode (d.integral way)))) = _
  rw [h]
theorem run_floor (n : Nat) (w : World) (h : frung n < 9218868437227405312) : (callFunc 105 #[.float .f64 n]).run Try.prog w = .ok (.value (.float .f64 (FloatKind.f64.encode ((FloatKind.f64.decode n).integral .down)))) w := by
  rw [run_callFunc_extern Try.func105 (by kernel_rfl) (by kernel_rfl) (by kernel_rfl) (e := Extern.MathFloor.toIntegral "math.archFloor" .down) (by kernel_rfl)]
  obtain ⟨m, a, e, _⟩ := read_num n h
  have e' : FloatKind.f64.decode n = .number (fneg n) m (-1074 + a) := e
  rw [toIntegral_num _ _ _ e']
  rfl

theorem run_neg (n : Nat) (w : World) : (Op.unary .neg (.float .f64 n)).run Try.prog w = .ok (.float .f64 (Op.negFloat .f64 n)) w := rfl
theorem ret_float {a b : Nat} (h : a = b) : Ending.returned (.float .f64 a) = .returned (.float .f64 b) := by rw [h]
theorem max_key : fkey 9218868437227405311 = 9218868437227405311 := by decide
theorem key_bd (n : Nat) (hr : frung n ≤ 9218868437227405312) : fkey n ≤ 9218868437227405312 ∧ -9218868437227405312 ≤ fkey n := by unfold fkey; split <;> omega
theorem cmp_gt (a b : Int) : (compare a b == Ordering.gt) = decide (b < a) := by
  simp only [compare, compareOfLessAndEq]
  by_cases h1 : a < b
  · rw [if_pos h1, decide_eq_false (by omega)]; rfl
  · rw [if_neg h1]
    by_cases h2 : a = b
    · rw [if_pos h2, decide_eq_false (by omega)]; rfl
    · rw [if_neg h2, decide_eq_true (by omega)]; rfl
theorem cmp_lt (a b : Int) : (compare a b == Ordering.lt) = decide (a < b) := by
  simp only [compare, compareOfLessAndEq]
  by_cases h1 : a < b
  · rw [if_pos h1, decide_eq_true h1]; rfl
  · rw [if_neg h1, decide_eq_false h1]
    by_cases h2 : a = b
    · rw [if_pos h2]; rfl
    · rw [if_neg h2]; rfl
theorem cmp_eq (a b : Int) : (compare a b == Ordering.eq) = decide (a = b) := by
  simp only [compare, compareOfLessAndEq]
  by_cases h1 : a < b
  · rw [if_pos h1, decide_eq_false (by omega)]; rfl
  · rw [if_neg h1]
    by_cases h2 : a = b
    · rw [if_pos h2, decide_eq_true h2]; rfl
    · rw [if_neg h2, decide_eq_false h2]; rfl

theorem math_IsInf_minus (n : Nat) (w : World) (hn : n < 18446744073709551616) (hr : frung n ≤ 9218868437227405312) : Calls Try.prog 103 #[.float .f64 n, .int .i64 (-1)] w fun e w' => e = .returned (.bool (decide (fkey n = -9218868437227405312))) ∧ w = w' := by
  have ho : FloatKind.f64.format.order (Op.negFloat .f64 n) 9218868437227405311 = some (compare (fkey (Op.negFloat .f64 n)) (fkey 9218868437227405311)) := order_double _ _ (by rw [neg_rung n hn]; exact hr) (by decide)
  rw [neg_key n hn, max_key] at ho
  have hu := run_neg n
  have hk := key_bd n hr
  go_enter Try.func103, Try.ntmps103
  go_wp2
  go_ret
  exact ⟨ret_bool (by rw [cmp_gt]; exact decide_eq_decide.2 (by omega)), rfl⟩
theorem math_IsInf_plus (n : Nat) (w : World) (hn : n < 18446744073709551616) (hr : frung n ≤ 9218868437227405312) : Calls Try.prog 103 #[.float .f64 n, .int .i64 1] w fun e w' => e = .returned (.bool (decide (fkey n = 9218868437227405312))) ∧ w = w' := by
  have ho : FloatKind.f64.format.order n 9218868437227405311 = some (compare (fkey n) (fkey 9218868437227405311)) := order_double _ _ hr (by decide)
  rw [max_key] at ho
  have hk := key_bd n hr
  go_enter Try.func103, Try.ntmps103
  go_wp2
  go_ret
  exact ⟨ret_bool (by rw [cmp_gt]; exact decide_eq_decide.2 (by omega)), rfl⟩
theorem math_Signbit (n : Nat) (w : World) (hn : n < 18446744073709551616) : Calls Try.prog 104 #[.float .f64 n] w fun e w' => e = .returned (.bool (fneg n)) ∧ w = w' := by
  have hb := run_bits n
  go_enter Try.func104, Try.ntmps104
  go_wp2
  go_ret
  refine ⟨ret_bool ?_, rfl⟩
  unfold fneg
  by_cases h : n < 9223372036854775808
  · rw [show n / 9223372036854775808 % 2 = 0 by omega, decide_eq_false (by unfold wrap64; omega)]; rfl
  · rw [show n / 9223372036854775808 % 2 = 1 by omega, decide_eq_true (by unfold wrap64; omega)]; rfl
set_option maxRecDepth 100000 in
theorem math_Floor (n : Nat) (w : World) (h : frung n < 9218868437227405312) : Calls Try.prog 88 #[.float .f64 n] w fun e w' => e = .returned (.float .f64 (FloatKind.f64.encode ((FloatKind.f64.decode n).integral .down))) ∧ w = w' := by
  have hb := run_floor n w h
  generalize FloatKind.f64.encode ((FloatKind.f64.decode n).integral .down) = m at *
  go_enter Try.func88, Try.ntmps88
  go_wp2
  go_ret
  exact ⟨rfl, rfl⟩
/-- 'order' of two numbers, in the walk's words. -/
theorem ord_num (x y : Nat) (hx : frung x ≤ 9218868437227405312) (hy : frung y ≤ 9218868437227405312) : FloatKind.f64.format.order x y = some (compare (fkey x) (fkey y)) := order_double x y hx hy
theorem ord_nan (x y : Nat) (h : 9218868437227405312 < frung x ∨ 9218868437227405312 < frung y) : FloatKind.f64.format.order x y = none := order_nan x y h
theorem cmp_Compare_int (a b : Int) (w : World) : Calls Try.prog 68 #[.int .i64 a, .int .i64 b] w fun e w' => e = .returned (.int .i64 (cmpI a b)) ∧ w = w' := by
  have C1 : ∀ a w, Calls Try.prog 75 #[.int .i64 a] w fun e w' => e = .returned (.bool false) ∧ w = w' := by
    intro a w
    go_enter Try.func75, Try.ntmps75
    go_wp2
    go_ret
    exact ⟨ret_bool (by simp), rfl⟩
  go_enter Try.func68, Try.ntmps68
  go_wp2_with (first | (go_at_call 75; (with_reducible refine (C1 _ _).mono ?_); rintro e w' ⟨rfl, rfl⟩))
  all_goals (go_ret; exact ⟨ret_i64 (by unfold cmpI; omega), rfl⟩)

/-- All that the order says of a number against 0, by its kind. -/
theorem kinds (n : Nat) (hn : n < 18446744073709551616) :
    (kindF n = 1 ∧ 9218868437227405312 < frung n) ∨ (frung n ≤ 9218868437227405312 ∧
      ((kindF n = 2 ∧ fkey n = -9218868437227405312 ∧ fneg n = true) ∨ (kindF n = 7 ∧ fkey n = 9218868437227405312 ∧ fneg n = false) ∨
       (kindF n = 3 ∧ -9218868437227405312 < fkey n ∧ fkey n < 0 ∧ fneg n = true) ∨ (kindF n = 6 ∧ fkey n < 9218868437227405312 ∧ 0 < fkey n ∧ fneg n = false) ∨
       (kindF n = 4 ∧ fkey n = 0 ∧ fneg n = true) ∨ (kindF n = 5 ∧ fkey n = 0 ∧ fneg n = false))) := by
  unfold kindF fkey
  by_cases h1 : 9218868437227405312 < frung n
  · left; rw [if_pos h1]; exact ⟨rfl, h1⟩
  · right
    refine ⟨by omega, ?_⟩
    rw [if_neg h1]
    cases hs : fneg n <;> simp only [Bool.false_eq_true, if_true, if_false, and_true, and_false, or_false, false_or, reduceCtorEq]
    · by_cases h2 : frung n = 9218868437227405312
      · rw [if_pos h2]; left; omega
      · rw [if_neg h2]
        by_cases h3 : frung n = 0
        · rw [if_pos h3]; right; right; omega
        · rw [if_neg h3]; right; left; omega
    · by_cases h2 : frung n = 9218868437227405312
      · rw [if_pos h2]; left; omega
      · rw [if_neg h2]
        by_cases h3 : frung n = 0
        · rw [if_pos h3]; right; right; omega
        · rw [if_neg h3]; right; left; omega
theorem ord_zero (n : Nat) (h : frung n ≤ 9218868437227405312) : FloatKind.f64.format.order n 0 = some (compare (fkey n) 0) := ord_num n 0 h (by decide)
theorem cmp_lt_of {a b : Int} (h : a < b) : compare a b = .lt := by simp only [compare, compareOfLessAndEq]; rw [if_pos h]
theorem cmp_gt_of {a b : Int} (h : b < a) : compare a b = .gt := by simp only [compare, compareOfLessAndEq]; rw [if_neg (by omega), if_neg (by omega)]
theorem cmp_eq_of {a b : Int} (h : a = b) : compare a b = .eq := by simp only [compare, compareOfLessAndEq]; rw [if_neg (by omega), if_pos h]

theorem edge_Kind (n : Nat) (w : World) (hn : n < 18446744073709551616) : Calls Try.prog 87 #[.float .f64 n] w fun e w' => e = .returned (.int .i64 (kindF n)) ∧ w = w' := by
  rcases kinds n hn with ⟨k, hr⟩ | ⟨hr, h⟩
  · have ho := ord_nan n n (.inl hr)
    rw [k]
    go_enter Try.func87, Try.ntmps87
    go_wp2
    go_ret
    exact ⟨rfl, rfl⟩
  · have ho := ord_num n n hr hr
    rw [cmp_eq_of rfl] at ho
    have CM := Lib.hid (fun w => math_IsInf_minus n w hn hr)
    have CP := Lib.hid (fun w => math_IsInf_plus n w hn hr)
    have CS := Lib.hid (fun w => math_Signbit n w hn)
    have hz := ord_zero n hr
    rcases h with ⟨k, h1, h2⟩ | ⟨k, h1, h2⟩ | ⟨k, h1, h2, h3⟩ | ⟨k, h1, h2, h3⟩ | ⟨k, h1, h2⟩ | ⟨k, h1, h2⟩ <;> rw [k]
    · rw [decide_eq_true h1] at CM
      clear h1 h2
      go_enter Try.func87, Try.ntmps87
      go_wp2_with (first | (go_at_call 103; (with_reducible refine (CM.out _).mono ?_); rintro e w' ⟨rfl, rfl⟩) | (go_at_call 103; (with_reducible refine (CP.out _).mono ?_); rintro e w' ⟨rfl, rfl⟩) | (go_at_call 104; (with_reducible refine (CS.out _).mono ?_); rintro e w' ⟨rfl, rfl⟩))
      go_ret
      exact ⟨rfl, rfl⟩
    · rw [decide_eq_false (by omega)] at CM
      rw [decide_eq_true h1] at CP
      clear h1 h2
      go_enter Try.func87, Try.ntmps87
      go_wp2_with (first | (go_at_call 103; (with_reducible refine (CM.out _).mono ?_); rintro e w' ⟨rfl, rfl⟩) | (go_at_call 103; (with_reducible refine (CP.out _).mono ?_); rintro e w' ⟨rfl, rfl⟩) | (go_at_call 104; (with_reducible refine (CS.out _).mono ?_); rintro e w' ⟨rfl, rfl⟩))
      go_ret
      exact ⟨rfl, rfl⟩
    · rw [decide_eq_false (by omega)] at CM CP
      rw [cmp_lt_of h2] at hz
      clear h1 h2 h3
      go_enter Try.func87, Try.ntmps87
      go_wp2_with (first | (go_at_call 103; (with_reducible refine (CM.out _).mono ?_); rintro e w' ⟨rfl, rfl⟩) | (go_at_call 103; (with_reducible refine (CP.out _).mono ?_); rintro e w' ⟨rfl, rfl⟩) | (go_at_call 104; (with_reducible refine (CS.out _).mono ?_); rintro e w' ⟨rfl, rfl⟩))
      go_ret
      exact ⟨rfl, rfl⟩
    · rw [decide_eq_false (by omega)] at CM CP
      rw [cmp_gt_of h2] at hz
      clear h1 h2 h3
      go_enter Try.func87, Try.ntmps87
      go_wp2_with (first | (go_at_call 103; (with_reducible refine (CM.out _).mono ?_); rintro e w' ⟨rfl, rfl⟩) | (go_at_call 103; (with_reducible refine (CP.out _).mono ?_); rintro e w' ⟨rfl, rfl⟩) | (go_at_call 104; (with_reducible refine (CS.out _).mono ?_); rintro e w' ⟨rfl, rfl⟩))
      go_ret
      exact ⟨rfl, rfl⟩
    · rw [decide_eq_false (by omega)] at CM CP
      rw [cmp_eq_of h1] at hz
      rw [h2] at CS
      clear h1 h2
      go_enter Try.func87, Try.ntmps87
      go_wp2_with (first | (go_at_call 103; (with_reducible refine (CM.out _).mono ?_); rintro e w' ⟨rfl, rfl⟩) | (go_at_call 103; (with_reducible refine (CP.out _).mono ?_); rintro e w' ⟨rfl, rfl⟩) | (go_at_call 104; (with_reducible refine (CS.out _).mono ?_); rintro e w' ⟨rfl, rfl⟩))
      go_ret
      exact ⟨rfl, rfl⟩
    · rw [decide_eq_false (by omega)] at CM CP
      rw [cmp_eq_of h1] at hz
      rw [h2] at CS
      clear h1 h2
      go_enter Try.func87, Try.ntmps87
      go_wp2_with (first | (go_at_call 103; (with_reducible refine (CM.out _).mono ?_); rintro e w' ⟨rfl, rfl⟩) | (go_at_call 103; (with_reducible refine (CP.out _).mono ?_); rintro e w' ⟨rfl, rfl⟩) | (go_at_call 104; (with_reducible refine (CS.out _).mono ?_); rintro e w' ⟨rfl, rfl⟩))
      go_ret
      exact ⟨rfl, rfl⟩
/-- The place in the order, by rank and key. -/
theorem place_rank (a b : Nat) (ha : a < 18446744073709551616) (hb : b < 18446744073709551616) :
    (rankF a = rankF b ∧ (rankF a = 3 ∨ rankF a = 6) ∧ frung a ≤ 9218868437227405312 ∧ frung b ≤ 9218868437227405312 ∧ cmpI (fplace a) (fplace b) = cmpI (fkey a) (fkey b)) ∨
    (¬ (rankF a = rankF b ∧ (rankF a = 3 ∨ rankF a = 6)) ∧ cmpI (fplace a) (fplace b) = cmpI (rankF a) (rankF b)) := by
  have e1 : ∀ n, n < 18446744073709551616 → (fneg n = true → 9223372036854775808 ≤ n) ∧ frung n < 9223372036854775808 := by
    intro n hn
    unfold fneg frung
    refine ⟨fun h => ?_, by omega⟩
    simp at h; omega
  have e : ∀ n, n < 18446744073709551616 → (rankF n = 8 ∧ fplace n = 18446744073709551615) ∨ (frung n ≤ 9218868437227405312 ∧ ((rankF n = 2 ∧ fkey n = -9218868437227405312 ∧ fplace n = 4503599627370495) ∨ (rankF n = 7 ∧ fkey n = 9218868437227405312 ∧ fplace n = 18442240474082181120) ∨ (rankF n = 3 ∧ -9218868437227405312 < fkey n ∧ fkey n < 0 ∧ fplace n = 9223372036854775807 + fkey n) ∨ (rankF n = 6 ∧ fkey n < 9218868437227405312 ∧ 0 < fkey n ∧ fplace n = 9223372036854775808 + fkey n) ∨ (rankF n = 4 ∧ fkey n = 0 ∧ fplace n = 9223372036854775807) ∨ (rankF n = 5 ∧ fkey n = 0 ∧ fplace n = 9223372036854775808))) := by
    intro n hn
    have hk : fkey n = if fneg n then -(frung n : Int) else (frung n : Int) := rfl
    have hp : fplace n = if 9218868437227405312 < frung n then 18446744073709551615 else if fneg n then 9223372036854775807 - (frung n : Int) else (frung n : Int) + 9223372036854775808 := rfl
    rcases kinds n hn with ⟨k, hr⟩ | ⟨hr, h⟩
    · left
      refine ⟨by unfold rankF; rw [if_pos k], by rw [hp, if_pos hr]⟩
    · right
      refine ⟨hr, ?_⟩
      rw [if_neg (by omega)] at hp
      unfold rankF
      rcases h with ⟨k, h1, h2⟩ | ⟨k, h1, h2⟩ | ⟨k, h1, h2, h3⟩ | ⟨k, h1, h2, h3⟩ | ⟨k, h1, h2⟩ | ⟨k, h1, h2⟩
      · rw [h2] at hk hp; rw [if_pos rfl] at hk hp; rw [k, if_neg (by omega)]; omega
      · rw [h2] at hk hp; rw [if_neg (by simp)] at hk hp; rw [k, if_neg (by omega)]; omega
      · rw [h3] at hk hp; rw [if_pos rfl] at hk hp; rw [k, if_neg (by omega)]; omega
      · rw [h3] at hk hp; rw [if_neg (by simp)] at hk hp; rw [k, if_neg (by omega)]; omega
      · rw [h2] at hk hp; rw [if_pos rfl] at hk hp; rw [k, if_neg (by omega)]; omega
      · rw [h2] at hk hp; rw [if_neg (by simp)] at hk hp; rw [k, if_neg (by omega)]; omega
  have ea := e a ha
  have eb := e b hb
  clear e e1
  unfold cmpI
  generalize rankF a = ra at *
  generalize rankF b = rb at *
  generalize fplace a = pa at *
  generalize fplace b = pb at *
  generalize fkey a = ka at *
  generalize fkey b = kb at *
  generalize frung a = xa at *
  generalize frung b = xb at *
  by_cases h : ra = rb ∧ (ra = 3 ∨ ra = 6)
  · left
    refine ⟨h.1, h.2, by omega, by omega, ?_⟩
    omega
  · right
    refine ⟨h, ?_⟩
    omega

theorem edge_Read (n : Nat) (w : World) (hn : n < 18446744073709551616) : Calls Try.prog 72 #[.float .f64 n] w fun e w' => e = .returned (if kindF n = 1 then .tuple #[.int .i64 0, .bool false] else .tuple #[.int .i64 (readF n), .bool true]) ∧ w = w' := by
  have CK := Lib.hid (fun w => edge_Kind n w hn)
  rcases kinds n hn with ⟨k, hr⟩ | ⟨hr, h⟩
  · rw [if_pos k]
    rw [k] at CK
    go_enter Try.func72, Try.ntmps72
    go_wp2_with (first | (go_at_call 87; (with_reducible refine (CK.out _).mono ?_); rintro e w' ⟨rfl, rfl⟩))
    go_ret2
    exact ⟨rfl, rfl⟩
  · have hz := ord_zero n hr
    have hm := ord_num n 4890909195324358656 hr (by decide)
    rw [show fkey 4890909195324358656 = 4890909195324358656 by decide] at hm
    have hk : fkey n = if fneg n then -(frung n : Int) else (frung n : Int) := rfl
    have k1 : ¬ kindF n = 1 := by omega
    have k2 : (kindF n == 1) = false := by simpa using k1
    rw [if_neg k1]
    by_cases hs : fneg n = true
    · have hR := Lib.hid (show readF n = 0 by unfold readF; rw [if_pos hs])
      rw [if_pos hs] at hk
      have : fkey n < 0 ∨ fkey n = 0 := by omega
      generalize kindF n = k at *
      rcases this with h0 | h0
      · rw [cmp_lt_of h0] at hz
        clear hk h hm h0
        go_enter Try.func72, Try.ntmps72
        go_wp2_with (first | (go_at_call 87; (with_reducible refine (CK.out _).mono ?_); rintro e w' ⟨rfl, rfl⟩))
        go_ret2
        exact ⟨by rw [hR.out]; rfl, rfl⟩
      · rw [cmp_eq_of h0] at hz
        clear hk h hm h0
        go_enter Try.func72, Try.ntmps72
        go_wp2_with (first | (go_at_call 87; (with_reducible refine (CK.out _).mono ?_); rintro e w' ⟨rfl, rfl⟩))
        go_ret2
        exact ⟨by rw [hR.out]; rfl, rfl⟩
    · have hs' : fneg n = false := by simpa using hs
      rw [if_neg hs] at hk
      by_cases h0 : frung n = 0
      · have hR := Lib.hid (show readF n = 0 by unfold readF; rw [if_neg hs, if_neg (by omega), h0]; unfold wholeF; rw [fval_zero]; simp)
        rw [cmp_eq_of (by omega)] at hz
        generalize kindF n = k at *
        clear hk h hm h0
        go_enter Try.func72, Try.ntmps72
        go_wp2_with (first | (go_at_call 87; (with_reducible refine (CK.out _).mono ?_); rintro e w' ⟨rfl, rfl⟩))
        go_ret2
        exact ⟨by rw [hR.out]; rfl, rfl⟩
      · rw [cmp_gt_of (by omega)] at hz
        by_cases h1 : 4890909195324358656 ≤ frung n
        · have hR := Lib.hid (show readF n = 9223372036854775807 by unfold readF; rw [if_neg hs, if_pos h1])
          have : fkey n = 4890909195324358656 ∨ 4890909195324358656 < fkey n := by omega
          generalize kindF n = k at *
          rcases this with h2 | h2
          · rw [cmp_eq_of h2] at hm
            clear hk h h0 h1 h2
            go_enter Try.func72, Try.ntmps72
            go_wp2_with (first | (go_at_call 87; (with_reducible refine (CK.out _).mono ?_); rintro e w' ⟨rfl, rfl⟩))
            go_ret2
            exact ⟨by rw [hR.out]; rfl, rfl⟩
          · rw [cmp_gt_of h2] at hm
            clear hk h h0 h1 h2
            go_enter Try.func72, Try.ntmps72
            go_wp2_with (first | (go_at_call 87; (with_reducible refine (CK.out _).mono ?_); rintro e w' ⟨rfl, rfl⟩))
            go_ret2
            exact ⟨by rw [hR.out]; rfl, rfl⟩
        · have hR := Lib.hid (show readF n = wholeF (frung n) by unfold readF; rw [if_neg hs, if_neg h1])
          rw [cmp_lt_of (by omega)] at hm
          have CF := Lib.hid (fun w => math_Floor n w (by omega))
          have hF := floor_int n hs' (by omega)
          generalize FloatKind.f64.encode ((FloatKind.f64.decode n).integral .down) = m at *
          generalize (wholeF (frung n) : Int) = q at *
          have hc : ∀ w, (convert 22 3 (.float .f64 m)).run Try.prog w = .ok (.int .i64 q) w := fun w => run_convert_float_int w _ _ _ _ _ _ (by kernel_rfl) Try.underlying3 hF
          generalize kindF n = k at *
          clear hk h h0 h1 hF
          go_enter Try.func72, Try.ntmps72
          go_wp2_with (first | (go_at_call 87; (with_reducible refine (CK.out _).mono ?_); rintro e w' ⟨rfl, rfl⟩) | (go_at_call 88; (with_reducible refine (CF.out _).mono ?_); rintro e w' ⟨rfl, rfl⟩))
          go_ret2
          exact ⟨by rw [hR.out]; rfl, rfl⟩
end Go.Proofs.Ytcgpmihjodolmaa
