
/- Contracts of package sat and of its reference, each by one plain function. -/
import Derived.Test.YtcaenbobfneejaaGreatDoorBase
namespace Go.Proofs.YtcaenbobfneejaaGreatDoor
open Go.RowKit
set_option linter.unusedVariables false

def satAdd (a b : Int) : Int := min (max a 0 + max b 0) 9223372036854775807
def satMul (a b : Int) : Int := min (max a 0 * max b 0) 9223372036854775807
def satLess (a b : Int) : Int := max (max a 0 - max b 0) 0
def satSum (l : List Int) : Int := l.foldl satAdd 0
def satHeld (a : Int) : Int := min a 9223372036854775807
theorem satAdd_bd (a b : Int) : 0 ≤ satAdd a b ∧ satAdd a b ≤ 9223372036854775807 := by unfold satAdd; omega
theorem satLess_bd (a b : Int) (h : InI a) : 0 ≤ satLess a b ∧ satLess a b ≤ 9223372036854775807 := by unfold satLess; unfold InI at h; omega

theorem inI_add (a b : Int) : InI (satAdd a b) := by have := satAdd_bd a b; unfold InI; omega
theorem inI_0 : InI 0 := by unfold InI; omega
theorem satAdd_comm (a b : Int) : satAdd a b = satAdd b a := by unfold satAdd; rw [Int.add_comm]
theorem satAdd_assoc (a b c : Int) : satAdd (satAdd a b) c = satAdd a (satAdd b c) := by unfold satAdd; omega
theorem satMul_comm (a b : Int) : satMul a b = satMul b a := by unfold satMul; rw [Int.mul_comm]

set_option maxHeartbeats 400000 in
theorem sat_number (a : Int) (w : World) :
    Calls Tryz.prog 70 #[.int .i64 a] w fun e w' => e = .returned (.int .i64 (satNum a)) ∧ w = w' := by
  go_enter Tryz.func70, Tryz.ntmps70
  go_wp2
  all_goals (go_ret; exact ⟨ret_i64 (by unfold satNum; omega), rfl⟩)

set_option maxHeartbeats 400000 in
theorem ref_number (a : Int) (w : World) (h : InI a) :
    Calls Tryz.prog 59 #[.int .i64 a] w fun e w' => e = .returned (.int .u64 (satNum a)) ∧ w = w' := by
  obtain ⟨h0, h1⟩ := h
  go_enter Tryz.func59, Tryz.ntmps59
  go_wp2
  all_goals (go_ret; exact ⟨ret_u64 (by unfold satNum; omega), rfl⟩)

set_option maxHeartbeats 400000 in
theorem ref_held (a : Int) (w : World) (h0 : 0 ≤ a) (h1 : a < 18446744073709551616) :
    Calls Tryz.prog 58 #[.int .u64 a] w fun e w' => e = .returned (.int .i64 (satHeld a)) ∧ w = w' := by
  go_enter Tryz.func58, Tryz.ntmps58
  go_wp2
  all_goals (go_ret; exact ⟨ret_i64 (by unfold satHeld; omega), rfl⟩)

set_option maxHeartbeats 400000 in
theorem sat_Add (a b : Int) (w : World) (ha : InI a) (hb : InI b) :
    Calls Tryz.prog 55 #[.int .i64 a, .int .i64 b] w fun e w' => e = .returned (.int .i64 (satAdd a b)) ∧ w = w' := by
  have a1 := satNum_bd a ha
  have b1 := satNum_bd b hb
  go_enter Tryz.func55, Tryz.ntmps55
  go_wp2_with (go_at_call 70; refine (sat_number _ _).mono ?_; rintro e w' ⟨rfl, rfl⟩)
  all_goals (go_ret; exact ⟨ret_i64 (by unfold satNum at *; unfold satAdd; omega), rfl⟩)

set_option maxHeartbeats 400000 in
theorem ref_Add (a b : Int) (w : World) (ha : InI a) (hb : InI b) :
    Calls Tryz.prog 39 #[.int .i64 a, .int .i64 b] w fun e w' => e = .returned (.int .i64 (satAdd a b)) ∧ w = w' := by
  have a1 := satNum_bd a ha
  have b1 := satNum_bd b hb
  go_enter Tryz.func39, Tryz.ntmps39
  go_wp2_with (first | (go_at_call 59; refine (ref_number _ _ (by assumption)).mono ?_; rintro e w' ⟨rfl, rfl⟩) | (go_at_call 58; refine (ref_held _ _ (by omega) (by omega)).mono ?_; rintro e w' ⟨rfl, rfl⟩))
  all_goals (go_ret; exact ⟨ret_i64 (by unfold satNum at *; unfold satAdd satHeld; omega), rfl⟩)




theorem mul_fits (x y : Int) (hx : 0 ≤ x) (hy : 1 ≤ y) : (9223372036854775807 / y < x) ↔ 9223372036854775807 < x * y := by
  constructor
  · intro h
    exact (Int.ediv_lt_iff_lt_mul (by omega)).1 h
  · intro h
    exact (Int.ediv_lt_iff_lt_mul (by omega)).2 h

set_option maxHeartbeats 400000 in
theorem sat_Mul (a b : Int) (w : World) (ha : InI a) (hb : InI b) :
    Calls Tryz.prog 56 #[.int .i64 a, .int .i64 b] w fun e w' => e = .returned (.int .i64 (satMul a b)) ∧ w = w' := by
  obtain ⟨a0, a1⟩ := satNum_bd a ha
  obtain ⟨b0, b1⟩ := satNum_bd b hb
  by_cases h : b ≤ 0
  · have hz : (satNum b == 0) = true := by unfold satNum; simp; omega
    go_enter Tryz.func56, Tryz.ntmps56
    go_wp2_with (go_at_call 70; refine (sat_number _ _).mono ?_; rintro e w' ⟨rfl, rfl⟩)
    go_ret
    refine ⟨ret_i64 ?_, rfl⟩
    unfold satMul
    rw [show max b 0 = 0 by omega]; simp; omega
  · have hz : (satNum b == 0) = false := by unfold satNum; simp; omega
    have h2 : 1 ≤ satNum b := by unfold satNum; omega
    have hq := (mul_fits (satNum a) (satNum b) a0 h2)
    have hp := Int.mul_nonneg a0 b0
    have hd := IntWalk.tdiv_le 9223372036854775807 (satNum b) (by omega) h2
    have H := Lib.hid hq
    clear hq
    go_enter Tryz.func56, Tryz.ntmps56
    by_cases ht : 9223372036854775807 / satNum b < satNum a
    · go_wp2_with (go_at_call 70; refine (sat_number _ _).mono ?_; rintro e w' ⟨rfl, rfl⟩)
      go_ret
      refine ⟨ret_i64 ?_, rfl⟩
      have := H.out.1 ht
      unfold satMul
      unfold satNum at *; omega
    · have h10 : satNum a * satNum b ≤ 9223372036854775807 := Int.not_lt.1 fun h' => ht (H.out.2 h')
      go_wp2_with (go_at_call 70; refine (sat_number _ _).mono ?_; rintro e w' ⟨rfl, rfl⟩)
      go_ret
      refine ⟨ret_i64 ?_, rfl⟩
      unfold satMul
      unfold satNum at *; omega

theorem mul_round (o x y m : Int) (ho : 0 ≤ o) (hx : 0 ≤ x) (hy : 0 < y) (ho1 : o ≤ 9223372036854775807) (hx1 : x ≤ 9223372036854775807)
    (h : min (o + x * y) 9223372036854775807 = m) :
    (y % 2 = 1 → min (satAdd o x + satAdd x x * (y / 2)) 9223372036854775807 = m) ∧ (y % 2 ≠ 1 → min (o + satAdd x x * (y / 2)) 9223372036854775807 = m) := by
  have e : x * y = x * (y / 2) + x * (y / 2) + x * (y % 2) := by
    rw [← Int.mul_add, ← Int.mul_add]; congr 1; omega
  have hd : 0 ≤ y / 2 := by omega
  have hp : 0 ≤ x * (y / 2) := Int.mul_nonneg hx hd
  have hs : satAdd x x = min (x + x) 9223372036854775807 := by unfold satAdd; omega
  have hso : satAdd o x = min (o + x) 9223372036854775807 := by unfold satAdd; omega
  rw [hs, hso]
  have e2 : (x + x) * (y / 2) = x * (y / 2) + x * (y / 2) := by rw [Int.add_mul]
  have r : y % 2 = 0 ∨ y % 2 = 1 := by omega
  have hxr : x * (y % 2) = if y % 2 = 1 then x else 0 := by rcases r with r | r <;> simp [r]
  rw [hxr] at e
  by_cases hc : x + x ≤ 9223372036854775807
  · rw [show min (x + x) 9223372036854775807 = x + x by omega, e2]
    refine ⟨fun hr => ?_, fun hr => ?_⟩
    · rw [if_pos hr] at e; omega
    · rw [if_neg hr] at e; omega
  · rw [show min (x + x) 9223372036854775807 = 9223372036854775807 by omega]
    by_cases hy2 : y / 2 = 0
    · rw [hy2] at e e2 hp ⊢
      refine ⟨fun hr => ?_, fun hr => ?_⟩
      · rw [if_pos hr] at e; omega
      · omega
    · have hge : x ≤ x * (y / 2) := by
        have := Int.mul_le_mul_of_nonneg_left (show (1 : Int) ≤ y / 2 by omega) hx
        omega
      refine ⟨fun hr => ?_, fun hr => ?_⟩
      · rw [if_pos hr] at e; omega
      · rw [if_neg hr] at e; omega

set_option maxHeartbeats 400000 in
theorem ref_Mul (a b : Int) (w : World) (ha : InI a) (hb : InI b) :
    Calls Tryz.prog 40 #[.int .i64 a, .int .i64 b] w fun e w' => e = .returned (.int .i64 (satMul a b)) ∧ w = w' := by
  obtain ⟨a0, a1⟩ := satNum_bd a ha
  obtain ⟨b0, b1⟩ := satNum_bd b hb
  go_enter Tryz.func40, Tryz.ntmps40
  go_wp2_with (first | (go_at_call 59; refine (ref_number _ _ (by assumption)).mono ?_; rintro e w' ⟨rfl, rfl⟩) | (go_at_call 58; refine (ref_held _ _ (by omega) (by omega)).mono ?_; rintro e w' ⟨rfl, rfl⟩))
  go_loop [5, 6, 7] (fun x y o => ∃ X Y O : Int, 0 ≤ X ∧ X ≤ 9223372036854775807 ∧ 0 ≤ Y ∧ Y ≤ 9223372036854775807 ∧ 0 ≤ O ∧ O ≤ 9223372036854775807 ∧ min (O + X * Y) 9223372036854775807 = satMul a b ∧ x = .int .i64 X ∧ y = .int .u64 Y ∧ o = .int .i64 O) (fun _ y _ => (intOf y).toNat)
  case atStart =>
    refine ⟨satHeld (satNum a), satNum b, 0, ?_, ?_, b0, b1, by omega, by omega, ?_, rfl, rfl, rfl⟩
    · unfold satHeld; omega
    · unfold satHeld; omega
    · unfold satHeld satMul satNum at *
      rw [show min (max a 0) 9223372036854775807 = max a 0 by omega]; omega
  case round =>
    obtain ⟨X, Y, O, x0, x1, y0, y1, o0, o1, hm, rfl, rfl, rfl⟩ := hrel
    by_cases hy : 0 < Y
    · have hr := mul_round O X Y _ o0 x0 hy o1 x1 hm
      have HR := Lib.hid hr
      have HM := Lib.hid hm
      clear hr hm
      have iX : InI X := by unfold InI; omega
      have iO : InI O := by unfold InI; omega
      have bX := satAdd_bd X X
      have bO := satAdd_bd O X
      by_cases hp : Y % 2 = 1
      · have hp' : (Y % 2 == 1) = true := by simpa using hp
        have HP := Lib.hid hp
        clear hp
        go_wp2_with (go_at_call 39; refine (ref_Add _ _ _ (by assumption) (by assumption)).mono ?_; rintro e w' ⟨rfl, rfl⟩)
        go_round
        case rel => exact ⟨_, _, _, bX.1, bX.2, by omega, by omega, bO.1, bO.2, HR.out.1 HP.out, rfl, rfl, rfl⟩
        case measure => simp [intOf]; omega
      · have hp' : (Y % 2 == 1) = false := by simpa using hp
        have HP := Lib.hid hp
        clear hp
        go_wp2_with (go_at_call 39; refine (ref_Add _ _ _ (by assumption) (by assumption)).mono ?_; rintro e w' ⟨rfl, rfl⟩)
        go_round
        case rel => exact ⟨_, _, _, bX.1, bX.2, by omega, by omega, o0, o1, HR.out.2 HP.out, rfl, rfl, rfl⟩
        case measure => simp [intOf]; omega
    · have HM := Lib.hid hm
      clear hm
      go_wp2
      go_ret
      refine ⟨ret_i64 ?_, rfl⟩
      have h := HM.out
      have : Y = 0 := by omega
      subst this
      omega
theorem satSum_bd (l : List Int) : 0 ≤ satSum l ∧ satSum l ≤ 9223372036854775807 := by
  unfold satSum
  rcases List.eq_nil_or_concat l with rfl | ⟨m, x, rfl⟩
  · simp
  · rw [List.concat_eq_append, List.foldl_append]; exact satAdd_bd _ _
theorem satSum_snoc (l : List Int) (x : Int) : satSum (l ++ [x]) = satAdd (satSum l) x := by
  unfold satSum; rw [List.foldl_append]; rfl



end Go.Proofs.YtcaenbobfneejaaGreatDoor
