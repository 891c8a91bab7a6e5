/- QosParts holds for every int as a part and as a whole. No conditions. -/
import Derived.Test.YtnfblpiapendeaaAwake13
namespace Go.Proofs.Ytnfblpiapendeaa.qosParts
open Go.ChangeShapes Go.WideShapes Go.ChangeAt Go.RowKit
open Go.ChangeMaps (open_string shut_string)
set_option linter.unusedVariables false

set_option maxRecDepth 100000 in
set_option maxHeartbeats 4000000 in
theorem walk (part whole : Int) (w : World) (ip : InI part) (iw : InI whole) :
    Calls Try.prog 10 #[.int .i64 part, .int .i64 whole] w fun e w' => e = .returned (.bool true) ∧ Below w.heap.size w w' := by
  have hw : Below w.heap.size w w := Below.refl _ _
  have hbel := hw
  have key : part < 0 ∨ (¬ part < 0 ∧ whole < 1) ∨ (¬ part < 0 ∧ ¬ whole < 1) := by omega
  rcases key with k1 | ⟨k1, k2⟩ | ⟨k1, k2⟩
  · go_enter Try.func10, Try.ntmps10
    go_wp2_with (first | (go_at_call 28; (with_reducible refine (awake13 _).mono ?_); rintro e w1 ⟨rfl, hb1⟩; replace hbel := belStep hbel hb1; clear hb1))
    go_ret
    exact ⟨rfl, hbel⟩
  · go_enter Try.func10, Try.ntmps10
    go_wp2_with (first | (go_at_call 28; (with_reducible refine (awake13 _).mono ?_); rintro e w1 ⟨rfl, hb1⟩; replace hbel := belStep hbel hb1; clear hb1))
    go_ret
    exact ⟨rfl, hbel⟩
  · have hp : 0 ≤ part := by omega
    have hwh : 1 ≤ whole := by omega
    have bd := thouI_bd part whole hp hwh
    have cq := fun v => qos_Thousandths part whole v hp ip hwh iw
    have cr := fun v => qref_Thousandths part whole v hp ip hwh iw
    have h1 := thouI_le part whole 999 hwh (by omega)
    have hd : part ≤ 1000000000 → whole ≤ 1000000000 → thouI part whole ≠ 1000 → thouI part whole = 1000 * part / whole := fun _ _ h => by unfold thouI at h ⊢; omega
    obtain ⟨n, en⟩ : ∃ n, thouI part whole = n := ⟨_, rfl⟩
    rw [en] at h1 hd bd
    simp only [en] at cq cr
    have key2 : (whole ≤ part ∧ n = 1000) ∨ (part < whole ∧ n ≤ 999) := by
      rcases Int.lt_or_le part whole with q | q
      · right; exact ⟨q, h1.2 (by omega)⟩
      · left; refine ⟨q, ?_⟩
        have : ¬ n ≤ 999 := fun h => by have := h1.1 h; omega
        omega
    have key3 : 1000000000 < whole ∨ (¬ 1000000000 < whole ∧ 1000000000 < part) ∨ (¬ 1000000000 < whole ∧ ¬ 1000000000 < part ∧ (n == 1000) = true) ∨ (¬ 1000000000 < whole ∧ ¬ 1000000000 < part ∧ (n == 1000) = false ∧ 1000 * part / whole = n) := by
      rcases Int.lt_or_le 1000000000 whole with q | q
      · exact .inl q
      · rcases Int.lt_or_le 1000000000 part with q2 | q2
        · exact .inr (.inl ⟨by omega, q2⟩)
        · rcases Int.decEq n 1000 with q3 | q3
          · exact .inr (.inr (.inr ⟨by omega, by omega, by simpa using q3, (hd q2 q q3).symm⟩))
          · exact .inr (.inr (.inl ⟨by omega, by omega, by simpa using q3⟩))
    clear h1 hd en
    have CQ := Lib.hid cq
    have CR := Lib.hid cr
    clear cq cr
    rcases key2 with ⟨m1, m2⟩ | ⟨m1, m2⟩ <;> rcases key3 with m3 | ⟨m3, m4⟩ | ⟨m3, m4, m5⟩ | ⟨m3, m4, m5, m6⟩
    all_goals first
      | (exfalso; simp at *; omega)
      | (go_enter Try.func10, Try.ntmps10
         go_wp2_with (first | (go_at_call 28; (with_reducible refine (awake13 _).mono ?_); rintro e w1 ⟨rfl, hb1⟩; replace hbel := belStep hbel hb1; clear hb1) | (go_at_call 33; (with_reducible refine (CQ.out _).mono ?_); rintro e w1 ⟨rfl, hb1⟩; replace hbel := belStep hbel hb1; clear hb1) | (go_at_call 34; (with_reducible refine (CR.out _).mono ?_); rintro e w' ⟨rfl, rfl⟩))
         go_ret
         exact ⟨ret_bool (by first | rfl | simp [*]), hbel⟩)

set_option maxRecDepth 100000 in
theorem lifted (os : Os) (started : os.Started) (H : Type) (enc : TypeId × Value → H) :
    ReturnsInHanded {} Try.checked os 10 .any (Rows.qosPartsSpec.pre6 enc Try.prog Try.f10 Rows.qosPartsRow.domain false) (Rows.qosPartsSpec.post enc Try.prog Try.f10 false true false false) := by
  refine returnsInHanded_of_change (C := Try.checked) own started (by kernel_rfl) Try.func10
    (ChangeSpec.witness6 (enc := enc) (C := Try.checked) false ⟨#[], #[.int .i64 0, .int .i64 0], []⟩ 8 (by kernel_rfl) (by kernel_rfl) (by kernel_rfl) (by kernel_rfl)) ?_
  intro W base args ds gs before hval0 hW hcnd _
  have hval : ∀ (j : Nat) t v, Try.f10.params[j]? = some t → args[j]? = some v → Value.okWide Try.prog W .any base t v := hval0
  have hW' := hW
  obtain ⟨p, q, hA0, hV, rfl, hfz, hnd⟩ := hW
  have hA : DataW.TrodAll enc Try.prog W 0 (fun _ => true) true Try.f10.params.toList args.toList ds p := hA0
  rw [Try.params10] at hA hval
  obtain ⟨v0, vs0, d0, ds0, p0, q0, hargs, rfl, rfl, h0, r0⟩ := trodAll_cons hA
  obtain ⟨v1, vs1, d1, ds1, p1, q1, rfl, rfl, rfl, h1, r1⟩ := trodAll_cons r0
  obtain ⟨rfl, rfl, rfl⟩ := trodAll_nil r1
  obtain rfl : args = #[v0, v1] := by cases args; simp_all
  obtain ⟨rfl, rfl⟩ := trodVars_none hV
  have k0 := h0
  have lt0 : ∀ x ∈ p0, x.block < W.heap.size := by obtain ⟨m, hm⟩ := k0; exact DataW.trod_lt m _ _ _ hm
  have o0 : Value.okWide Try.prog W .any base 3 v0 := hval 0 3 v0 rfl rfl
  obtain ⟨a0, rfl, rfl, rfl, w0⟩ := open_int Try.underlying3 o0 h0
  have k1 := h1
  have lt1 : ∀ x ∈ p1, x.block < W.heap.size := by obtain ⟨m, hm⟩ := k1; exact DataW.trod_lt m _ _ _ hm
  have o1 : Value.okWide Try.prog W .any base 3 v1 := hval 1 3 v1 rfl rfl
  obtain ⟨a1, rfl, rfl, rfl, w1⟩ := open_int Try.underlying3 o1 h1
  clear hA0 hval0
  refine (walk a0 a1 W (inI_of_wf w0) (inI_of_wf w1)).mono fun e W' ⟨he, bel⟩ => ?_
  subst he
  exact ⟨_, rfl, _, _, _, [], _, [], hW', trodAll_mk1 (shut_bool Try.underlying4 _), (trodAll_cons_mk (Below.trod laidOut (by kernel_rfl) (of_decide_eq_true (by kernel_rfl)) k0 bel lt0) (trodAll_cons_mk (Below.trod laidOut (by kernel_rfl) (of_decide_eq_true (by kernel_rfl)) k1 bel lt1) trodAll_mk0)), rfl, bel.frame _, fun h => by cases h⟩

theorem over : Rows.qosPartsRow.holds Try.pinned (OpenSpec.ofChange Rows.qosPartsSpec) :=
  OpenClaim.holds_of_wide 10 Try.f10 rfl rfl rfl rfl rfl rfl rfl ⟨rfl, rfl, rfl, rfl, rfl⟩ rfl rfl rfl rfl rfl (by kernel_rfl) Try.func10 (by kernel_rfl)
    (of_decide_eq_true (by kernel_rfl)) (by unfold Func.isWrapper; first | (rw [if_pos (by decide +kernel)]; kernel_rfl) | (rw [if_neg (by decide +kernel)]; exact ⟨rfl, rfl⟩))
    (fun os started H enc _ => lifted os started H enc)

/-- The statement. -/
theorem proved : Rows.QosPartsSaid := over
#print axioms proved

end Go.Proofs.Ytnfblpiapendeaa.qosParts
