/- SatRules holds for every three ints: sums and products keep their rules. No conditions. -/
import Derived.Test.YtahjkpmlnjhddaaAwake01
namespace Go.Proofs.Ytahjkpmlnjhddaa.satRules
open Go.ChangeShapes Go.WideShapes Go.ChangeAt Go.RowKit
open Go.ChangeMaps (open_string shut_string)
set_option linter.unusedVariables false

set_option maxHeartbeats 2000000 in
theorem walk (a b c : Int) (w : World) (ha : InI a) (hb : InI b) (hc : InI c) :
    Calls Try.prog 5 #[.int .i64 a, .int .i64 b, .int .i64 c] w fun e w' => e = .returned (.bool true) ∧ Below w.heap.size w w' := by
  have e1 : (satAdd a b != satAdd b a) = false := by rw [satAdd_comm b a]; simp
  have e2 : (satAdd (satAdd a b) c != satAdd a (satAdd b c)) = false := by rw [satAdd_assoc]; simp
  have e3 : (satMul a b != satMul b a) = false := by rw [satMul_comm b a]; simp
  have bs := satAdd_bd a b
  have e4 : ¬ satAdd a b < a := by unfold satAdd InI at *; omega
  have e5 : ¬ satAdd a b < b := by unfold satAdd InI at *; omega
  have e6 : ¬ satAdd a b < 0 := by omega
  have bz := satAdd_bd a 0
  have e7 : 0 ≤ satAdd a 0 := bz.1
  have key : a < 0 ∨ (¬ a < 0 ∧ b < 0) ∨ (¬ a < 0 ∧ ¬ b < 0 ∧ (satAdd a b == 9223372036854775807) = true)
      ∨ (¬ a < 0 ∧ ¬ b < 0 ∧ (satAdd a b == 9223372036854775807) = false ∧ (satLess (satAdd a b) b == a) = true ∧ (satLess (satAdd a b) a == b) = true) := by
    by_cases h1 : a < 0
    · exact .inl h1
    · by_cases h2 : b < 0
      · exact .inr (.inl ⟨h1, h2⟩)
      · cases hf : (satAdd a b == 9223372036854775807)
        · refine .inr (.inr (.inr ⟨h1, h2, rfl, ?_, ?_⟩)) <;> (simp at hf; simp; unfold satLess satAdd at *; omega)
        · exact .inr (.inr (.inl ⟨h1, h2, rfl⟩))
  rcases key with h1 | ⟨h1, h2⟩ | ⟨h1, h2, h3⟩ | ⟨h1, h2, h3, h4, h5⟩
  all_goals
    go_enter Try.func5, Try.ntmps5
    go_wp2_with (first
      | (go_at_call 13; refine (awake01 _).mono ?_; rintro e w1 ⟨rfl, hb1⟩)
      | (go_at_call 14; refine (sat_Add _ _ _ (by first | assumption | exact inI_add _ _ | exact inI_0) (by first | assumption | exact inI_add _ _ | exact inI_0)).mono ?_; rintro e w' ⟨rfl, rfl⟩)
      | (go_at_call 16; refine (sat_Mul _ _ _ (by assumption) (by assumption)).mono ?_; rintro e w' ⟨rfl, rfl⟩)
      | (go_at_call 18; refine (sat_Less _ _ _ (by first | assumption | exact inI_add _ _) (by assumption)).mono ?_; rintro e w' ⟨rfl, rfl⟩)
      | (go_at_call 20; refine (sat_Full _ _).mono ?_; rintro e w' ⟨rfl, rfl⟩))
    go_ret
    exact ⟨rfl, by assumption⟩

set_option maxRecDepth 100000 in
theorem lifted (os : Os) (started : os.Started) (H : Type) (enc : TypeId × Value → H) :
    ReturnsInHanded {} Try.checked os 5 .any (Rows.satRulesSpec.pre6 enc Try.prog Try.f5 Rows.satRulesRow.domain false) (Rows.satRulesSpec.post enc Try.prog Try.f5 false true false false) := by
  refine returnsInHanded_of_change (C := Try.checked) own started (by kernel_rfl) Try.func5
    (ChangeSpec.witness6 (enc := enc) (C := Try.checked) false ⟨#[], #[.int .i64 0, .int .i64 0, .int .i64 0], []⟩ 8 (by kernel_rfl) (by kernel_rfl) (by kernel_rfl) (by kernel_rfl)) ?_
  intro W base args ds gs before hval0 hW hcnd _
  have hval : ∀ (j : Nat) t v, Try.f5.params[j]? = some t → args[j]? = some v → Value.okWide Try.prog W .any base t v := hval0
  have hW' := hW
  obtain ⟨p, q, hA0, hV, rfl, hfz, hnd⟩ := hW
  have hA : DataW.TrodAll enc Try.prog W 0 (fun _ => true) true Try.f5.params.toList args.toList ds p := hA0
  rw [Try.params5] at hA hval
  obtain ⟨v0, vs0, d0, ds0, p0, q0, hargs, rfl, rfl, h0, r0⟩ := trodAll_cons hA
  obtain ⟨v1, vs1, d1, ds1, p1, q1, rfl, rfl, rfl, h1, r1⟩ := trodAll_cons r0
  obtain ⟨v2, vs2, d2, ds2, p2, q2, rfl, rfl, rfl, h2, r2⟩ := trodAll_cons r1
  obtain ⟨rfl, rfl, rfl⟩ := trodAll_nil r2
  obtain rfl : args = #[v0, v1, v2] := by cases args; simp_all
  obtain ⟨rfl, rfl⟩ := trodVars_none hV
  have k0 := h0
  have lt0 : ∀ x ∈ p0, x.block < W.heap.size := by obtain ⟨m, hm⟩ := k0; exact DataW.trod_lt m _ _ _ hm
  have o0 : Value.okWide Try.prog W .any base 3 v0 := hval 0 3 v0 rfl rfl
  obtain ⟨a0, rfl, rfl, rfl, w0⟩ := open_int Try.underlying3 o0 h0
  have k1 := h1
  have lt1 : ∀ x ∈ p1, x.block < W.heap.size := by obtain ⟨m, hm⟩ := k1; exact DataW.trod_lt m _ _ _ hm
  have o1 : Value.okWide Try.prog W .any base 3 v1 := hval 1 3 v1 rfl rfl
  obtain ⟨a1, rfl, rfl, rfl, w1⟩ := open_int Try.underlying3 o1 h1
  have k2 := h2
  have lt2 : ∀ x ∈ p2, x.block < W.heap.size := by obtain ⟨m, hm⟩ := k2; exact DataW.trod_lt m _ _ _ hm
  have o2 : Value.okWide Try.prog W .any base 3 v2 := hval 2 3 v2 rfl rfl
  obtain ⟨a2, rfl, rfl, rfl, w2⟩ := open_int Try.underlying3 o2 h2
  clear hA0 hval0
  refine (walk a0 a1 a2 W (inI_of_wf w0) (inI_of_wf w1) (inI_of_wf w2)).mono fun e W' ⟨he, bel⟩ => ?_
  subst he
  exact ⟨_, rfl, _, _, _, [], _, [], hW', trodAll_mk1 (shut_bool Try.underlying4 _), (trodAll_cons_mk (Below.trod laidOut (by kernel_rfl) (of_decide_eq_true (by kernel_rfl)) k0 bel lt0) (trodAll_cons_mk (Below.trod laidOut (by kernel_rfl) (of_decide_eq_true (by kernel_rfl)) k1 bel lt1) (trodAll_cons_mk (Below.trod laidOut (by kernel_rfl) (of_decide_eq_true (by kernel_rfl)) k2 bel lt2) trodAll_mk0))), rfl, bel.frame _, fun h => by cases h⟩

theorem over : Rows.satRulesRow.holds Try.pinned (OpenSpec.ofChange Rows.satRulesSpec) :=
  OpenClaim.holds_of_wide 5 Try.f5 rfl rfl rfl rfl rfl rfl rfl ⟨rfl, rfl, rfl, rfl, rfl⟩ rfl rfl rfl rfl rfl (by kernel_rfl) Try.func5 (by kernel_rfl)
    (of_decide_eq_true (by kernel_rfl)) (by unfold Func.isWrapper; first | (rw [if_pos (by decide +kernel)]; kernel_rfl) | (rw [if_neg (by decide +kernel)]; exact ⟨rfl, rfl⟩))
    (fun os started H enc _ => lifted os started H enc)

/-- The statement. -/
theorem proved : Rows.SatRulesSaid := over
#print axioms proved

end Go.Proofs.Ytahjkpmlnjhddaa.satRules
