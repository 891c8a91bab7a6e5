/- WideRatios holds for every four ints and every uint16: quotients stand as crosswise products. No conditions. -/
import Derived.Test.YtahjkpmlnjhddaaAwake02
namespace Go.Proofs.Ytahjkpmlnjhddaa.wideRatios
open Go.ChangeShapes Go.WideShapes Go.ChangeAt Go.RowKit
open Go.ChangeMaps (open_string shut_string)
set_option linter.unusedVariables false

theorem cmp_turn (x y : Int) : cmpI x y = -cmpI y x := by unfold cmpI; split <;> split <;> (try split) <;> omega
theorem cmp_times (x y n : Int) (hn : 0 < n) : cmpI (x * n) (y * n) = cmpI x y := by
  have h1 : (x * n < y * n) = (x < y) := by rw [eq_iff_iff]; exact Int.mul_lt_mul_right hn
  have h2 : (y * n < x * n) = (y < x) := by rw [eq_iff_iff]; exact Int.mul_lt_mul_right hn
  unfold cmpI; simp only [h1, h2]

set_option maxHeartbeats 4000000 in
theorem walk (a b c d k : Int) (w : World) (ha : InI a) (hb : InI b) (hc : InI c) (hd : InI d) (hk : 0 ≤ k ∧ k ≤ 65535) :
    Calls Try.prog 10 #[.int .i64 a, .int .i64 b, .int .i64 c, .int .i64 d, .int .u16 k] w fun e w' => e = .returned (.bool true) ∧ Below w.heap.size w w' := by
  obtain ⟨k0, k1⟩ := hk
  have key : (b ≤ 0 ∧ d ≤ 0 ∧ ratI a b c d = 0 ∧ ratI c d a b = 0) ∨ (b ≤ 0 ∧ 0 < d ∧ ratI a b c d = 1 ∧ ratI c d a b = -1) ∨ (0 < b ∧ d ≤ 0 ∧ ratI a b c d = -1 ∧ ratI c d a b = 1) ∨
      (0 < b ∧ 0 < d ∧ ratI a b c d = cmpI (satNum a * satNum d) (satNum c * satNum b) ∧ ratI c d a b = cmpI (satNum c * satNum b) (satNum a * satNum d) ∧
        (cmpI (satNum a * satNum d) (satNum c * satNum b) != -cmpI (satNum c * satNum b) (satNum a * satNum d)) = false ∧
        (a < 0 ∨ (¬ a < 0 ∧ 140737488355327 < a) ∨ (¬ a < 0 ∧ ¬ 140737488355327 < a ∧ 140737488355327 < b) ∨
          (0 ≤ a ∧ a ≤ 140737488355327 ∧ b ≤ 140737488355327 ∧ 0 ≤ a * (1 + k) ∧ a * (1 + k) ≤ 9223372036854775807 ∧ 0 ≤ b * (1 + k) ∧ b * (1 + k) ≤ 9223372036854775807 ∧
            ratI (a * (1 + k)) (b * (1 + k)) c d = cmpI (satNum a * satNum d) (satNum c * satNum b)))) := by
    have h : (b ≤ 0 ∧ d ≤ 0) ∨ (b ≤ 0 ∧ 0 < d) ∨ (0 < b ∧ d ≤ 0) ∨ (0 < b ∧ 0 < d) := by omega
    rcases h with ⟨h1, h2⟩ | ⟨h1, h2⟩ | ⟨h1, h2⟩ | ⟨h1, h2⟩
    · exact .inl ⟨h1, h2, by unfold ratI; rw [if_pos h1, if_pos h2], by unfold ratI; rw [if_pos h2, if_pos h1]⟩
    · exact .inr (.inl ⟨h1, h2, by unfold ratI; rw [if_pos h1, if_neg (by omega)], by unfold ratI; rw [if_neg (by omega), if_pos h1]⟩)
    · exact .inr (.inr (.inl ⟨h1, h2, by unfold ratI; rw [if_neg (by omega), if_pos h2], by unfold ratI; rw [if_pos h2, if_neg (by omega)]⟩))
    · refine .inr (.inr (.inr ⟨h1, h2, by unfold ratI; rw [if_neg (by omega), if_neg (by omega)], by unfold ratI; rw [if_neg (by omega), if_neg (by omega)], by rw [cmp_turn]; simp, ?_⟩))
      by_cases g1 : a < 0
      · exact .inl g1
      · by_cases g2 : 140737488355327 < a
        · exact .inr (.inl ⟨g1, g2⟩)
        · by_cases g3 : 140737488355327 < b
          · exact .inr (.inr (.inl ⟨g1, g2, g3⟩))
          · have m1 := Int.mul_nonneg (show 0 ≤ a by omega) (show 0 ≤ 1 + k by omega)
            have m2 := Int.mul_le_mul (show a ≤ 140737488355327 by omega) (show 1 + k ≤ 65536 by omega) (by omega) (by omega)
            have m3 := Int.mul_pos h1 (show 0 < 1 + k by omega)
            have m4 := Int.mul_le_mul (show b ≤ 140737488355327 by omega) (show 1 + k ≤ 65536 by omega) (by omega) (by omega)
            refine .inr (.inr (.inr ⟨by omega, by omega, by omega, m1, by omega, by omega, by omega, ?_⟩))
            unfold ratI
            rw [if_neg (by omega), if_neg (by omega)]
            rw [show satNum (a * (1 + k)) = a * (1 + k) by unfold satNum; omega, show satNum (b * (1 + k)) = b * (1 + k) by unfold satNum; omega, show satNum a = a by unfold satNum; omega, show satNum b = b by unfold satNum; omega]
            rw [show a * (1 + k) * satNum d = a * satNum d * (1 + k) by rw [Int.mul_right_comm], show satNum c * (b * (1 + k)) = satNum c * b * (1 + k) by rw [Int.mul_assoc]]
            exact cmp_times _ _ _ (by omega)
  have hbel : Below w.heap.size w w := Below.refl _ _
  have c1 := cmpI_bd (satNum c * satNum b) (satNum a * satNum d)
  rcases key with ⟨h1, h2, h3, h4⟩ | ⟨h1, h2, h3, h4⟩ | ⟨h1, h2, h3, h4⟩ | ⟨h1, h2, h3, h4, h5, g1 | ⟨g1, g2⟩ | ⟨g1, g2, g3⟩ | ⟨g1, g2, g3, g4, g5, g6, g7, g8⟩⟩
  all_goals
    go_enter Try.func10, Try.ntmps10
    go_wp2_with (first
      | (go_at_call 23; refine (awake02 _).mono ?_; rintro e w1 ⟨rfl, hb1⟩; replace hbel := belStep hbel hb1; clear hb1)
      | (go_at_call 27; refine (wide_Ratio _ _ _ _ _ (by first | assumption | exact inI_of (by omega) (by omega)) (by first | assumption | exact inI_of (by omega) (by omega)) (by first | assumption | exact inI_of (by omega) (by omega)) (by first | assumption | exact inI_of (by omega) (by omega))).mono ?_; rintro e w1 ⟨rfl, hb1⟩; replace hbel := belStep hbel hb1; clear hb1)
      | (go_at_call 25; refine (wref_Compare _ _ _ _ _ (by assumption) (by assumption) (by assumption) (by assumption)).mono ?_; rintro e w1 ⟨rfl, rfl⟩))
    go_ret
    exact ⟨rfl, hbel⟩

set_option maxRecDepth 100000 in
theorem lifted (os : Os) (started : os.Started) (H : Type) (enc : TypeId × Value → H) :
    ReturnsInHanded {} Try.checked os 10 .any (Rows.wideRatiosSpec.pre6 enc Try.prog Try.f10 Rows.wideRatiosRow.domain false) (Rows.wideRatiosSpec.post enc Try.prog Try.f10 false true false false) := by
  refine returnsInHanded_of_change (C := Try.checked) own started (by kernel_rfl) Try.func10
    (ChangeSpec.witness6 (enc := enc) (C := Try.checked) false ⟨#[], #[.int .i64 0, .int .i64 0, .int .i64 0, .int .i64 0, .int .u16 0], []⟩ 8 (by kernel_rfl) (by kernel_rfl) (by kernel_rfl) (by kernel_rfl)) ?_
  intro W base args ds gs before hval0 hW hcnd _
  have hval : ∀ (j : Nat) t v, Try.f10.params[j]? = some t → args[j]? = some v → Value.okWide Try.prog W .any base t v := hval0
  have hW' := hW
  obtain ⟨p, q, hA0, hV, rfl, hfz, hnd⟩ := hW
  have hA : DataW.TrodAll enc Try.prog W 0 (fun _ => true) true Try.f10.params.toList args.toList ds p := hA0
  rw [Try.params10] at hA hval
  obtain ⟨v0, vs0, d0, ds0, p0, q0, hargs, rfl, rfl, h0, r0⟩ := trodAll_cons hA
  obtain ⟨v1, vs1, d1, ds1, p1, q1, rfl, rfl, rfl, h1, r1⟩ := trodAll_cons r0
  obtain ⟨v2, vs2, d2, ds2, p2, q2, rfl, rfl, rfl, h2, r2⟩ := trodAll_cons r1
  obtain ⟨v3, vs3, d3, ds3, p3, q3, rfl, rfl, rfl, h3, r3⟩ := trodAll_cons r2
  obtain ⟨v4, vs4, d4, ds4, p4, q4, rfl, rfl, rfl, h4, r4⟩ := trodAll_cons r3
  obtain ⟨rfl, rfl, rfl⟩ := trodAll_nil r4
  obtain rfl : args = #[v0, v1, v2, v3, v4] := by cases args; simp_all
  obtain ⟨rfl, rfl⟩ := trodVars_none hV
  have k0 := h0
  have lt0 : ∀ x ∈ p0, x.block < W.heap.size := by obtain ⟨m, hm⟩ := k0; exact DataW.trod_lt m _ _ _ hm
  have o0 : Value.okWide Try.prog W .any base 3 v0 := hval 0 3 v0 rfl rfl
  obtain ⟨a0, rfl, rfl, rfl, w0⟩ := open_int Try.underlying3 o0 h0
  have k1 := h1
  have lt1 : ∀ x ∈ p1, x.block < W.heap.size := by obtain ⟨m, hm⟩ := k1; exact DataW.trod_lt m _ _ _ hm
  have o1 : Value.okWide Try.prog W .any base 3 v1 := hval 1 3 v1 rfl rfl
  obtain ⟨a1, rfl, rfl, rfl, w1⟩ := open_int Try.underlying3 o1 h1
  have k2 := h2
  have lt2 : ∀ x ∈ p2, x.block < W.heap.size := by obtain ⟨m, hm⟩ := k2; exact DataW.trod_lt m _ _ _ hm
  have o2 : Value.okWide Try.prog W .any base 3 v2 := hval 2 3 v2 rfl rfl
  obtain ⟨a2, rfl, rfl, rfl, w2⟩ := open_int Try.underlying3 o2 h2
  have k3 := h3
  have lt3 : ∀ x ∈ p3, x.block < W.heap.size := by obtain ⟨m, hm⟩ := k3; exact DataW.trod_lt m _ _ _ hm
  have o3 : Value.okWide Try.prog W .any base 3 v3 := hval 3 3 v3 rfl rfl
  obtain ⟨a3, rfl, rfl, rfl, w3⟩ := open_int Try.underlying3 o3 h3
  have k4 := h4
  have lt4 : ∀ x ∈ p4, x.block < W.heap.size := by obtain ⟨m, hm⟩ := k4; exact DataW.trod_lt m _ _ _ hm
  have o4 : Value.okWide Try.prog W .any base 35 v4 := hval 4 35 v4 rfl rfl
  obtain ⟨a4, rfl, rfl, rfl, w4⟩ := open_int Try.underlying35 o4 h4
  clear hA0 hval0
  refine (walk a0 a1 a2 a3 a4 W (inI_of_wf w0) (inI_of_wf w1) (inI_of_wf w2) (inI_of_wf w3) (in16_of_wf w4)).mono fun e W' ⟨he, bel⟩ => ?_
  subst he
  exact ⟨_, rfl, _, _, _, [], _, [], hW', trodAll_mk1 (shut_bool Try.underlying4 _), (trodAll_cons_mk (Below.trod laidOut (by kernel_rfl) (of_decide_eq_true (by kernel_rfl)) k0 bel lt0) (trodAll_cons_mk (Below.trod laidOut (by kernel_rfl) (of_decide_eq_true (by kernel_rfl)) k1 bel lt1) (trodAll_cons_mk (Below.trod laidOut (by kernel_rfl) (of_decide_eq_true (by kernel_rfl)) k2 bel lt2) (trodAll_cons_mk (Below.trod laidOut (by kernel_rfl) (of_decide_eq_true (by kernel_rfl)) k3 bel lt3) (trodAll_cons_mk (Below.trod laidOut (by kernel_rfl) (of_decide_eq_true (by kernel_rfl)) k4 bel lt4) trodAll_mk0))))), rfl, bel.frame _, fun h => by cases h⟩

theorem over : Rows.wideRatiosRow.holds Try.pinned (OpenSpec.ofChange Rows.wideRatiosSpec) :=
  OpenClaim.holds_of_wide 10 Try.f10 rfl rfl rfl rfl rfl rfl rfl ⟨rfl, rfl, rfl, rfl, rfl⟩ rfl rfl rfl rfl rfl (by kernel_rfl) Try.func10 (by kernel_rfl)
    (of_decide_eq_true (by kernel_rfl)) (by unfold Func.isWrapper; first | (rw [if_pos (by decide +kernel)]; kernel_rfl) | (rw [if_neg (by decide +kernel)]; exact ⟨rfl, rfl⟩))
    (fun os started H enc _ => lifted os started H enc)

/-- The statement. -/
theorem proved : Rows.WideRatiosSaid := over
#print axioms proved

end Go.Proofs.Ytahjkpmlnjhddaa.wideRatios
