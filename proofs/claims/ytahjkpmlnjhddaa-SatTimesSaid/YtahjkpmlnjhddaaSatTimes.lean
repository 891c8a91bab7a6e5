/- SatTimes holds for every two ints and every uint8: a number times another is that often its sum with itself, and what goes with it. No conditions. -/
import Derived.Test.YtahjkpmlnjhddaaAwake01
namespace Go.Proofs.Ytahjkpmlnjhddaa.satTimes
open Go.ChangeShapes Go.WideShapes Go.ChangeAt Go.RowKit
open Go.ChangeMaps (open_string shut_string)
set_option linter.unusedVariables false

theorem mul_0 (a : Int) : satMul a 0 = 0 := by unfold satMul; simp; omega
theorem mul_succ (a i : Int) (ha : InI a) (hi : 0 ≤ i) : satMul a (i + 1) = satAdd (satMul a i) a := by
  unfold satMul satAdd InI at *
  rw [show max (i + 1) 0 = i + 1 by omega, show max i 0 = i by omega, Int.mul_add]
  have : 0 ≤ max a 0 * i := Int.mul_nonneg (by omega) hi
  omega
theorem mul_bd (a b : Int) : 0 ≤ satMul a b ∧ satMul a b ≤ 9223372036854775807 := by
  unfold satMul
  have : 0 ≤ max a 0 * max b 0 := Int.mul_nonneg (by omega) (by omega)
  omega
theorem mul_ge (a b : Int) (ha : InI a) (hb : InI b) (h1 : 0 < a) (h2 : 0 < b) : a ≤ satMul a b ∧ b ≤ satMul a b := by
  unfold satMul InI at *
  rw [show max a 0 = a by omega, show max b 0 = b by omega]
  have x := Int.mul_le_mul_of_nonneg_left (show (1 : Int) ≤ b by omega) (show 0 ≤ a by omega)
  have y := Int.mul_le_mul_of_nonneg_right (show (1 : Int) ≤ a by omega) (show 0 ≤ b by omega)
  omega

set_option maxHeartbeats 2000000 in
theorem walk (a k b : Int) (w : World) (ha : InI a) (hk : 0 ≤ k ∧ k ≤ 255) (hb : InI b) :
    Calls Try.prog 7 #[.int .i64 a, .int .u8 k, .int .i64 b] w fun e w' => e = .returned (.bool true) ∧ Below w.heap.size w w' := by
  obtain ⟨k0, k1⟩ := hk
  have ik : InI k := by unfold InI; omega
  have e2 : (satMul a 0 != 0) = false := by rw [mul_0]; rfl
  have e5 : satLess (satAdd a b) a ≤ satAdd b 0 := by unfold satLess satAdd InI at *; omega
  have e6 : (satLess a (satAdd a b) == 0) = true := by simp; unfold satLess satAdd InI at *; omega
  have key : (¬ 0 < a) ∨ (0 < a ∧ ¬ 0 < b) ∨ (0 < a ∧ 0 < b ∧ ¬ satMul a b < a ∧ ¬ satMul a b < b) := by
    by_cases h1 : 0 < a
    · by_cases h2 : 0 < b
      · have := mul_ge a b ha hb h1 h2
        exact .inr (.inr ⟨h1, h2, by omega, by omega⟩)
      · exact .inr (.inl ⟨h1, h2⟩)
    · exact .inl h1
  go_enter Try.func7, Try.ntmps7
  go_wp2_with (go_at_call 13; refine (awake01 _).mono ?_; rintro e w1 ⟨rfl, hb1⟩)
  go_loop [7, 8] (fun n i => ∃ I : Int, 0 ≤ I ∧ I ≤ k ∧ i = .int .i64 I ∧ n = .int .i64 (satMul a I)) (fun _ i => (k - intOf i).toNat)
  case atStart => exact ⟨0, by omega, by omega, rfl, by rw [mul_0]⟩
  case round =>
    obtain ⟨I, i0, i1, rfl, rfl⟩ := hrel
    by_cases hlt : I < k
    · have HS : Hid (satMul a (I + 1) = satAdd (satMul a I) a) := mul_succ a I ha i0
      have hm : InI (satMul a I) := by have := mul_bd a I; unfold InI; omega
      clear key e2 e5 e6
      go_wp2_with (go_at_call 14; refine (sat_Add _ _ _ (by assumption) (by assumption)).mono ?_; rintro e w' ⟨rfl, rfl⟩)
      go_round
      case rel => exact ⟨I + 1, by omega, by omega, rfl, by rw [HS.out]⟩
      case measure => simp [intOf]; omega
    · obtain rfl : I = k := by omega
      rcases key with h1 | ⟨h1, h2⟩ | ⟨h1, h2, h3, h4⟩
      all_goals
        go_wp2_with (first
          | (go_at_call 14; refine (sat_Add _ _ _ (by first | assumption | exact inI_add _ _ | exact inI_0) (by first | assumption | exact inI_add _ _ | exact inI_0)).mono ?_; rintro e w' ⟨rfl, rfl⟩)
          | (go_at_call 16; refine (sat_Mul _ _ _ (by first | assumption | exact inI_add _ _ | exact inI_0) (by first | assumption | exact inI_add _ _ | exact inI_0)).mono ?_; rintro e w' ⟨rfl, rfl⟩)
          | (go_at_call 18; refine (sat_Less _ _ _ (by first | assumption | exact inI_add _ _) (by first | assumption | exact inI_add _ _)).mono ?_; rintro e w' ⟨rfl, rfl⟩))
        go_ret
        exact ⟨rfl, by assumption⟩

set_option maxRecDepth 100000 in
theorem lifted (os : Os) (started : os.Started) (H : Type) (enc : TypeId × Value → H) :
    ReturnsInHanded {} Try.checked os 7 .any (Rows.satTimesSpec.pre6 enc Try.prog Try.f7 Rows.satTimesRow.domain false) (Rows.satTimesSpec.post enc Try.prog Try.f7 false true false false) := by
  refine returnsInHanded_of_change (C := Try.checked) own started (by kernel_rfl) Try.func7
    (ChangeSpec.witness6 (enc := enc) (C := Try.checked) false ⟨#[], #[.int .i64 0, .int .u8 0, .int .i64 0], []⟩ 8 (by kernel_rfl) (by kernel_rfl) (by kernel_rfl) (by kernel_rfl)) ?_
  intro W base args ds gs before hval0 hW hcnd _
  have hval : ∀ (j : Nat) t v, Try.f7.params[j]? = some t → args[j]? = some v → Value.okWide Try.prog W .any base t v := hval0
  have hW' := hW
  obtain ⟨p, q, hA0, hV, rfl, hfz, hnd⟩ := hW
  have hA : DataW.TrodAll enc Try.prog W 0 (fun _ => true) true Try.f7.params.toList args.toList ds p := hA0
  rw [Try.params7] at hA hval
  obtain ⟨v0, vs0, d0, ds0, p0, q0, hargs, rfl, rfl, h0, r0⟩ := trodAll_cons hA
  obtain ⟨v1, vs1, d1, ds1, p1, q1, rfl, rfl, rfl, h1, r1⟩ := trodAll_cons r0
  obtain ⟨v2, vs2, d2, ds2, p2, q2, rfl, rfl, rfl, h2, r2⟩ := trodAll_cons r1
  obtain ⟨rfl, rfl, rfl⟩ := trodAll_nil r2
  obtain rfl : args = #[v0, v1, v2] := by cases args; simp_all
  obtain ⟨rfl, rfl⟩ := trodVars_none hV
  have k0 := h0
  have lt0 : ∀ x ∈ p0, x.block < W.heap.size := by obtain ⟨m, hm⟩ := k0; exact DataW.trod_lt m _ _ _ hm
  have o0 : Value.okWide Try.prog W .any base 3 v0 := hval 0 3 v0 rfl rfl
  obtain ⟨a0, rfl, rfl, rfl, w0⟩ := open_int Try.underlying3 o0 h0
  have k1 := h1
  have lt1 : ∀ x ∈ p1, x.block < W.heap.size := by obtain ⟨m, hm⟩ := k1; exact DataW.trod_lt m _ _ _ hm
  have o1 : Value.okWide Try.prog W .any base 5 v1 := hval 1 5 v1 rfl rfl
  obtain ⟨a1, rfl, rfl, rfl, w1⟩ := open_int Try.underlying5 o1 h1
  have k2 := h2
  have lt2 : ∀ x ∈ p2, x.block < W.heap.size := by obtain ⟨m, hm⟩ := k2; exact DataW.trod_lt m _ _ _ hm
  have o2 : Value.okWide Try.prog W .any base 3 v2 := hval 2 3 v2 rfl rfl
  obtain ⟨a2, rfl, rfl, rfl, w2⟩ := open_int Try.underlying3 o2 h2
  clear hA0 hval0
  refine (walk a0 a1 a2 W (inI_of_wf w0) (in8_of_wf w1) (inI_of_wf w2)).mono fun e W' ⟨he, bel⟩ => ?_
  subst he
  exact ⟨_, rfl, _, _, _, [], _, [], hW', trodAll_mk1 (shut_bool Try.underlying4 _), (trodAll_cons_mk (Below.trod laidOut (by kernel_rfl) (of_decide_eq_true (by kernel_rfl)) k0 bel lt0) (trodAll_cons_mk (Below.trod laidOut (by kernel_rfl) (of_decide_eq_true (by kernel_rfl)) k1 bel lt1) (trodAll_cons_mk (Below.trod laidOut (by kernel_rfl) (of_decide_eq_true (by kernel_rfl)) k2 bel lt2) trodAll_mk0))), rfl, bel.frame _, fun h => by cases h⟩

theorem over : Rows.satTimesRow.holds Try.pinned (OpenSpec.ofChange Rows.satTimesSpec) :=
  OpenClaim.holds_of_wide 7 Try.f7 rfl rfl rfl rfl rfl rfl rfl ⟨rfl, rfl, rfl, rfl, rfl⟩ rfl rfl rfl rfl rfl (by kernel_rfl) Try.func7 (by kernel_rfl)
    (of_decide_eq_true (by kernel_rfl)) (by unfold Func.isWrapper; first | (rw [if_pos (by decide +kernel)]; kernel_rfl) | (rw [if_neg (by decide +kernel)]; exact ⟨rfl, rfl⟩))
    (fun os started H enc _ => lifted os started H enc)

/-- The statement. -/
theorem proved : Rows.SatTimesSaid := over
#print axioms proved

end Go.Proofs.Ytahjkpmlnjhddaa.satTimes
