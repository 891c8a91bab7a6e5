/- WideRules holds for every six ints and two int32: how products stand keeps its rules. No conditions. -/
import Derived.Test.YtahjkpmlnjhddaaAwake02
namespace Go.Proofs.Ytahjkpmlnjhddaa.wideRules
open Go.ChangeShapes Go.WideShapes Go.ChangeAt Go.RowKit
open Go.ChangeMaps (open_string shut_string)
set_option linter.unusedVariables false

theorem cmp_turn (x y : Int) : cmpI x y = -cmpI y x := by unfold cmpI; split <;> split <;> (try split) <;> omega
theorem cmp_trans (x y z : Int) (h : cmpI x y ≤ 0) (k : cmpI y z ≤ 0) : ¬ 0 < cmpI x z := by
  unfold cmpI at *; split at h <;> split at k <;> split <;> (try split) <;> (try split at h) <;> (try split at k) <;> omega

set_option maxHeartbeats 4000000 in
theorem walk (a b c d e f p q : Int) (w : World) (ha : InI a) (hb : InI b) (hc : InI c) (hd : InI d) (he : InI e) (hf : InI f) (hp : -2147483648 ≤ p ∧ p ≤ 2147483647) (hq : -2147483648 ≤ q ∧ q ≤ 2147483647) :
    Calls Try.prog 9 #[.int .i64 a, .int .i64 b, .int .i64 c, .int .i64 d, .int .i64 e, .int .i64 f, .int .i32 p, .int .i32 q] w fun e w' => e = .returned (.bool true) ∧ Below w.heap.size w w' := by
  have e1 : (cmpI (satNum a * satNum b) (satNum c * satNum d) != -cmpI (satNum c * satNum d) (satNum a * satNum b)) = false := by rw [cmp_turn]; simp
  have e2 : (cmpI (satNum a * satNum b) (satNum c * satNum d) != cmpI (satNum b * satNum a) (satNum d * satNum c)) = false := by rw [Int.mul_comm (satNum b), Int.mul_comm (satNum d)]; simp
  have c1 := cmpI_bd (satNum c * satNum d) (satNum a * satNum b)
  have key1 : (¬ cmpI (satNum a * satNum b) (satNum c * satNum d) ≤ 0) ∨ (cmpI (satNum a * satNum b) (satNum c * satNum d) ≤ 0 ∧ ¬ cmpI (satNum c * satNum d) (satNum e * satNum f) ≤ 0) ∨
      (cmpI (satNum a * satNum b) (satNum c * satNum d) ≤ 0 ∧ cmpI (satNum c * satNum d) (satNum e * satNum f) ≤ 0 ∧ ¬ 0 < cmpI (satNum a * satNum b) (satNum e * satNum f)) := by
    by_cases h1 : cmpI (satNum a * satNum b) (satNum c * satNum d) ≤ 0
    · by_cases h2 : cmpI (satNum c * satNum d) (satNum e * satNum f) ≤ 0
      · exact .inr (.inr ⟨h1, h2, cmp_trans _ _ _ h1 h2⟩)
      · exact .inr (.inl ⟨h1, h2⟩)
    · exact .inl h1
  have key2 : p < 0 ∨ (¬ p < 0 ∧ q < 0) ∨ (0 ≤ p ∧ 0 ≤ q ∧ 0 ≤ p * q ∧ p * q ≤ 4611686014132420609 ∧
      (cmpI (satNum p * satNum q) (satNum (p * q) * satNum 1) == 0) = true ∧ (cmpI (satNum p * satNum q) (satNum (p * q + 1) * satNum 1) == -1) = true) := by
    by_cases h1 : p < 0
    · exact .inl h1
    · by_cases h2 : q < 0
      · exact .inr (.inl ⟨h1, h2⟩)
      · have h3 := Int.mul_nonneg (show 0 ≤ p by omega) (show 0 ≤ q by omega)
        have h4 := Int.mul_le_mul hp.2 hq.2 (by omega) (by omega)
        refine .inr (.inr ⟨by omega, by omega, h3, by omega, ?_, ?_⟩)
        · rw [show satNum p = p by unfold satNum; omega, show satNum q = q by unfold satNum; omega, show satNum (p * q) = p * q by unfold satNum; omega, show satNum 1 = 1 from rfl]
          simp [cmpI]
        · rw [show satNum p = p by unfold satNum; omega, show satNum q = q by unfold satNum; omega, show satNum (p * q + 1) = p * q + 1 by unfold satNum; omega, show satNum 1 = 1 from rfl]
          simp [cmpI]; omega
  have hbel : Below w.heap.size w w := Below.refl _ _
  obtain ⟨p0, p1⟩ := hp
  obtain ⟨q0, q1⟩ := hq
  rcases key1 with h1 | ⟨h1, h2⟩ | ⟨h1, h2, h3⟩ <;> rcases key2 with k1 | ⟨k1, k2⟩ | ⟨k1, k2, k3, k4, k5, k6⟩
  all_goals
    go_enter Try.func9, Try.ntmps9
    go_wp2_with (first
      | (go_at_call 23; refine (awake02 _).mono ?_; rintro e w1 ⟨rfl, hb1⟩; replace hbel := belStep hbel hb1; clear hb1)
      | (go_at_call 24; refine (wide_Compare _ _ _ _ _ (by first | assumption | exact inI_of (by omega) (by omega)) (by first | assumption | exact inI_of (by omega) (by omega)) (by first | assumption | exact inI_of (by omega) (by omega)) (by first | assumption | exact inI_of (by omega) (by omega))).mono ?_; rintro e w1 ⟨rfl, hb1⟩; replace hbel := belStep hbel hb1; clear hb1))
    go_ret
    exact ⟨rfl, hbel⟩

set_option maxRecDepth 100000 in
theorem lifted (os : Os) (started : os.Started) (H : Type) (enc : TypeId × Value → H) :
    ReturnsInHanded {} Try.checked os 9 .any (Rows.wideRulesSpec.pre6 enc Try.prog Try.f9 Rows.wideRulesRow.domain false) (Rows.wideRulesSpec.post enc Try.prog Try.f9 false true false false) := by
  refine returnsInHanded_of_change (C := Try.checked) own started (by kernel_rfl) Try.func9
    (ChangeSpec.witness6 (enc := enc) (C := Try.checked) false ⟨#[], #[.int .i64 0, .int .i64 0, .int .i64 0, .int .i64 0, .int .i64 0, .int .i64 0, .int .i32 0, .int .i32 0], []⟩ 8 (by kernel_rfl) (by kernel_rfl) (by kernel_rfl) (by kernel_rfl)) ?_
  intro W base args ds gs before hval0 hW hcnd _
  have hval : ∀ (j : Nat) t v, Try.f9.params[j]? = some t → args[j]? = some v → Value.okWide Try.prog W .any base t v := hval0
  have hW' := hW
  obtain ⟨p, q, hA0, hV, rfl, hfz, hnd⟩ := hW
  have hA : DataW.TrodAll enc Try.prog W 0 (fun _ => true) true Try.f9.params.toList args.toList ds p := hA0
  rw [Try.params9] at hA hval
  obtain ⟨v0, vs0, d0, ds0, p0, q0, hargs, rfl, rfl, h0, r0⟩ := trodAll_cons hA
  obtain ⟨v1, vs1, d1, ds1, p1, q1, rfl, rfl, rfl, h1, r1⟩ := trodAll_cons r0
  obtain ⟨v2, vs2, d2, ds2, p2, q2, rfl, rfl, rfl, h2, r2⟩ := trodAll_cons r1
  obtain ⟨v3, vs3, d3, ds3, p3, q3, rfl, rfl, rfl, h3, r3⟩ := trodAll_cons r2
  obtain ⟨v4, vs4, d4, ds4, p4, q4, rfl, rfl, rfl, h4, r4⟩ := trodAll_cons r3
  obtain ⟨v5, vs5, d5, ds5, p5, q5, rfl, rfl, rfl, h5, r5⟩ := trodAll_cons r4
  obtain ⟨v6, vs6, d6, ds6, p6, q6, rfl, rfl, rfl, h6, r6⟩ := trodAll_cons r5
  obtain ⟨v7, vs7, d7, ds7, p7, q7, rfl, rfl, rfl, h7, r7⟩ := trodAll_cons r6
  obtain ⟨rfl, rfl, rfl⟩ := trodAll_nil r7
  obtain rfl : args = #[v0, v1, v2, v3, v4, v5, v6, v7] := by cases args; simp_all
  obtain ⟨rfl, rfl⟩ := trodVars_none hV
  have k0 := h0
  have lt0 : ∀ x ∈ p0, x.block < W.heap.size := by obtain ⟨m, hm⟩ := k0; exact DataW.trod_lt m _ _ _ hm
  have o0 : Value.okWide Try.prog W .any base 3 v0 := hval 0 3 v0 rfl rfl
  obtain ⟨a0, rfl, rfl, rfl, w0⟩ := open_int Try.underlying3 o0 h0
  have k1 := h1
  have lt1 : ∀ x ∈ p1, x.block < W.heap.size := by obtain ⟨m, hm⟩ := k1; exact DataW.trod_lt m _ _ _ hm
  have o1 : Value.okWide Try.prog W .any base 3 v1 := hval 1 3 v1 rfl rfl
  obtain ⟨a1, rfl, rfl, rfl, w1⟩ := open_int Try.underlying3 o1 h1
  have k2 := h2
  have lt2 : ∀ x ∈ p2, x.block < W.heap.size := by obtain ⟨m, hm⟩ := k2; exact DataW.trod_lt m _ _ _ hm
  have o2 : Value.okWide Try.prog W .any base 3 v2 := hval 2 3 v2 rfl rfl
  obtain ⟨a2, rfl, rfl, rfl, w2⟩ := open_int Try.underlying3 o2 h2
  have k3 := h3
  have lt3 : ∀ x ∈ p3, x.block < W.heap.size := by obtain ⟨m, hm⟩ := k3; exact DataW.trod_lt m _ _ _ hm
  have o3 : Value.okWide Try.prog W .any base 3 v3 := hval 3 3 v3 rfl rfl
  obtain ⟨a3, rfl, rfl, rfl, w3⟩ := open_int Try.underlying3 o3 h3
  have k4 := h4
  have lt4 : ∀ x ∈ p4, x.block < W.heap.size := by obtain ⟨m, hm⟩ := k4; exact DataW.trod_lt m _ _ _ hm
  have o4 : Value.okWide Try.prog W .any base 3 v4 := hval 4 3 v4 rfl rfl
  obtain ⟨a4, rfl, rfl, rfl, w4⟩ := open_int Try.underlying3 o4 h4
  have k5 := h5
  have lt5 : ∀ x ∈ p5, x.block < W.heap.size := by obtain ⟨m, hm⟩ := k5; exact DataW.trod_lt m _ _ _ hm
  have o5 : Value.okWide Try.prog W .any base 3 v5 := hval 5 3 v5 rfl rfl
  obtain ⟨a5, rfl, rfl, rfl, w5⟩ := open_int Try.underlying3 o5 h5
  have k6 := h6
  have lt6 : ∀ x ∈ p6, x.block < W.heap.size := by obtain ⟨m, hm⟩ := k6; exact DataW.trod_lt m _ _ _ hm
  have o6 : Value.okWide Try.prog W .any base 21 v6 := hval 6 21 v6 rfl rfl
  obtain ⟨a6, rfl, rfl, rfl, w6⟩ := open_int Try.underlying21 o6 h6
  have k7 := h7
  have lt7 : ∀ x ∈ p7, x.block < W.heap.size := by obtain ⟨m, hm⟩ := k7; exact DataW.trod_lt m _ _ _ hm
  have o7 : Value.okWide Try.prog W .any base 21 v7 := hval 7 21 v7 rfl rfl
  obtain ⟨a7, rfl, rfl, rfl, w7⟩ := open_int Try.underlying21 o7 h7
  clear hA0 hval0
  refine (walk a0 a1 a2 a3 a4 a5 a6 a7 W (inI_of_wf w0) (inI_of_wf w1) (inI_of_wf w2) (inI_of_wf w3) (inI_of_wf w4) (inI_of_wf w5) (inI32_of_wf w6) (inI32_of_wf w7)).mono fun e W' ⟨he, bel⟩ => ?_
  subst he
  exact ⟨_, rfl, _, _, _, [], _, [], hW', trodAll_mk1 (shut_bool Try.underlying4 _), (trodAll_cons_mk (Below.trod laidOut (by kernel_rfl) (of_decide_eq_true (by kernel_rfl)) k0 bel lt0) (trodAll_cons_mk (Below.trod laidOut (by kernel_rfl) (of_decide_eq_true (by kernel_rfl)) k1 bel lt1) (trodAll_cons_mk (Below.trod laidOut (by kernel_rfl) (of_decide_eq_true (by kernel_rfl)) k2 bel lt2) (trodAll_cons_mk (Below.trod laidOut (by kernel_rfl) (of_decide_eq_true (by kernel_rfl)) k3 bel lt3) (trodAll_cons_mk (Below.trod laidOut (by kernel_rfl) (of_decide_eq_true (by kernel_rfl)) k4 bel lt4) (trodAll_cons_mk (Below.trod laidOut (by kernel_rfl) (of_decide_eq_true (by kernel_rfl)) k5 bel lt5) (trodAll_cons_mk (Below.trod laidOut (by kernel_rfl) (of_decide_eq_true (by kernel_rfl)) k6 bel lt6) (trodAll_cons_mk (Below.trod laidOut (by kernel_rfl) (of_decide_eq_true (by kernel_rfl)) k7 bel lt7) trodAll_mk0)))))))), rfl, bel.frame _, fun h => by cases h⟩

theorem over : Rows.wideRulesRow.holds Try.pinned (OpenSpec.ofChange Rows.wideRulesSpec) :=
  OpenClaim.holds_of_wide 9 Try.f9 rfl rfl rfl rfl rfl rfl rfl ⟨rfl, rfl, rfl, rfl, rfl⟩ rfl rfl rfl rfl rfl (by kernel_rfl) Try.func9 (by kernel_rfl)
    (of_decide_eq_true (by kernel_rfl)) (by unfold Func.isWrapper; first | (rw [if_pos (by decide +kernel)]; kernel_rfl) | (rw [if_neg (by decide +kernel)]; exact ⟨rfl, rfl⟩))
    (fun os started H enc _ => lifted os started H enc)

/-- The statement. -/
theorem proved : Rows.WideRulesSaid := over
#print axioms proved

end Go.Proofs.Ytahjkpmlnjhddaa.wideRules
