/- EdgeSigns holds for whatever bits: turned about its sign a number stands the other way round; the noughts stand apart. No conditions. -/
import Derived.Test.YtkdkhbeacejamaaAwake03
namespace Go.Proofs.Ytkdkhbeacejamaa.edgeSigns
open Go.ChangeShapes Go.WideShapes Go.ChangeAt Go.RowKit
open Go.ChangeMaps (open_string shut_string)
set_option linter.unusedVariables false
set_option linter.unusedSimpArgs false

theorem place_of (n : Nat) (hn : n < 18446744073709551616) : (kindF n = 1 ∧ fplace n = 18446744073709551615) ∨ (¬ kindF n = 1 ∧ fplace n ≤ 18446744073709551614 ∧ frung n ≤ 9218868437227405312 ∧ fplace (Op.negFloat .f64 n) = 18446744073709551615 - fplace n ∧
    ((kindF n < 6 ∧ 3 < kindF n ∧ readF n = 0) ∨ (6 ≤ kindF n ∧ 9223372036854775808 < fplace n ∧ 0 ≤ readF n) ∨ (kindF n ≤ 3 ∧ fplace n < 9223372036854775807 ∧ readF n = 0))) := by
  have hk : fkey n = if fneg n then -(frung n : Int) else (frung n : Int) := rfl
  rcases kinds n hn with ⟨k, hr⟩ | ⟨hr, h⟩
  · exact .inl ⟨k, by unfold fplace; rw [if_pos hr]⟩
  · have hp : fplace n = if fneg n then 9223372036854775807 - (frung n : Int) else (frung n : Int) + 9223372036854775808 := by unfold fplace; rw [if_neg (by omega)]
    have hq : fplace (Op.negFloat .f64 n) = if !fneg n then 9223372036854775807 - (frung n : Int) else (frung n : Int) + 9223372036854775808 := by unfold fplace; rw [neg_rung n hn, neg_neg n hn, if_neg (by omega)]
    have rneg : fneg n = true → readF n = 0 := fun q => by unfold readF; rw [if_pos q]
    have rz : fneg n = false → frung n = 0 → readF n = 0 := fun q q2 => by unfold readF; rw [q, q2, if_neg (by simp), if_neg (by omega)]; unfold wholeF; rw [fval_zero]; simp
    have rp : 0 ≤ readF n := by unfold readF; split; · omega
                                split <;> omega
    right
    cases hs : fneg n
    · rw [hs] at hk hp hq h
      simp only [Bool.false_eq_true, if_false, Bool.not_false, if_true, and_false, or_false, false_or, and_true, reduceCtorEq] at hk hp hq h
      have rz' := rz hs
      refine ⟨by omega, by omega, hr, by omega, ?_⟩
      rcases h with ⟨k, h1⟩ | ⟨k, h1, h2⟩ | ⟨k, h1⟩
      · right; left; omega
      · right; left; omega
      · left; have := rz' (by omega); omega
    · rw [hs] at hk hp hq h
      simp only [Bool.false_eq_true, if_false, Bool.not_true, if_true, and_false, or_false, false_or, and_true, reduceCtorEq] at hk hp hq h
      have rz' := rneg hs
      refine ⟨by omega, by omega, hr, by omega, ?_⟩
      rcases h with ⟨k, h1⟩ | ⟨k, h1, h2⟩ | ⟨k, h1⟩
      · right; right; omega
      · right; right; omega
      · left; omega

theorem cmp_0m (w : World) : Calls Try.prog 15 #[.float .f64 0, .float .f64 9223372036854775808] w fun e w' => e = .returned (.int .i64 1) ∧ w = w' := by
  have h := edge_Compare 0 9223372036854775808 w (by omega) (by omega)
  rw [show cmpI (fplace 0) (fplace 9223372036854775808) = 1 by decide +kernel] at h
  exact h

set_option maxRecDepth 100000 in
set_option maxHeartbeats 8000000 in
theorem walk (a b : Int) (w : World) (ha : 0 ≤ a ∧ a ≤ 18446744073709551615) (hb : 0 ≤ b ∧ b ≤ 18446744073709551615) : Calls Try.prog 8 #[.int .u64 a, .int .u64 b] w fun e w' => e = .returned (.bool true) ∧ Below w.heap.size w w' := by
  have hbel : Below w.heap.size w w := Below.refl _ _
  have hx : a.toNat < 18446744073709551616 := by omega
  have hy : b.toNat < 18446744073709551616 := by omega
  have fa := run_frombits a
  have fb := run_frombits b
  generalize a.toNat = x at *
  generalize b.toNat = y at *
  clear ha hb
  have hu := fun n => run_neg n
  have px := place_of x hx
  have py := place_of y hy
  have C1 := Lib.hid (fun v => edge_Compare x y v hx hy)
  have C2 := Lib.hid (fun v => edge_Compare y x v hy hx)
  have C3 := Lib.hid (fun v => edge_Compare (Op.negFloat .f64 x) (Op.negFloat .f64 y) v (neg_lt x hx) (neg_lt y hy))
  have C4 := Lib.hid (fun v => edge_Compare x 0 v hx (by omega))
  have C5 := Lib.hid (fun v => edge_Compare x 9223372036854775808 v hx (by omega))
  have K1 := Lib.hid (fun v => ref_Kind x v hx)
  have K2 := Lib.hid (fun v => ref_Kind y v hy)
  have K3 := Lib.hid (fun v => edge_Kind x v hx)
  have R1 := Lib.hid (fun v => edge_Read x v hx)
  rw [show fplace 0 = 9223372036854775808 by decide +kernel] at C4
  rw [show fplace 9223372036854775808 = 9223372036854775807 by decide +kernel] at C5
  have NX := Lib.hid (show Op.negFloat .f64 x = Op.negFloat .f64 x from rfl)
  clear hx hy
  generalize fplace (Op.negFloat .f64 x) = nx at *
  generalize fplace (Op.negFloat .f64 y) = ny at *
  generalize fplace x = X at *
  generalize fplace y = Y at *
  generalize kindF x = k at *
  generalize kindF y = l at *
  generalize readF x = n at *
  rcases px with ⟨rfl, rfl⟩ | ⟨hk, h1, _, rfl, hkk⟩
  · rcases py with ⟨rfl, rfl⟩ | ⟨hl, h2, _, rfl, _⟩
    · rw [show cmpI 18446744073709551615 18446744073709551615 = 0 by decide] at C1
      go_enter Try.func8, Try.ntmps8
      go_wp2_with (first | (go_at_call 9; (with_reducible refine (awake03 _).mono ?_); rintro e w1 ⟨rfl, hb1⟩; replace hbel := belStep hbel hb1; clear hb1) | (go_at_call 20; (with_reducible refine (math_Copysign _).mono ?_); rintro e w' ⟨rfl, rfl⟩) | (go_at_call 15; (with_reducible refine (cmp_m0 _).mono ?_); rintro e w' ⟨rfl, rfl⟩) | (go_at_call 15; (with_reducible refine (cmp_0m _).mono ?_); rintro e w' ⟨rfl, rfl⟩) | (go_at_call 15; (with_reducible refine (C1.out _).mono ?_); rintro e w' ⟨rfl, rfl⟩) | (go_at_call 14; (with_reducible refine (K1.out _).mono ?_); rintro e w' ⟨rfl, rfl⟩) | (go_at_call 14; (with_reducible refine (K2.out _).mono ?_); rintro e w' ⟨rfl, rfl⟩))
      go_ret
      exact ⟨rfl, hbel⟩
    · rw [show cmpI 18446744073709551615 Y = 1 by unfold cmpI; omega] at C1
      have hl' : (l == 1) = false := by simpa using hl
      go_enter Try.func8, Try.ntmps8
      go_wp2_with (first | (go_at_call 9; (with_reducible refine (awake03 _).mono ?_); rintro e w1 ⟨rfl, hb1⟩; replace hbel := belStep hbel hb1; clear hb1) | (go_at_call 20; (with_reducible refine (math_Copysign _).mono ?_); rintro e w' ⟨rfl, rfl⟩) | (go_at_call 15; (with_reducible refine (cmp_m0 _).mono ?_); rintro e w' ⟨rfl, rfl⟩) | (go_at_call 15; (with_reducible refine (cmp_0m _).mono ?_); rintro e w' ⟨rfl, rfl⟩) | (go_at_call 15; (with_reducible refine (C1.out _).mono ?_); rintro e w' ⟨rfl, rfl⟩) | (go_at_call 14; (with_reducible refine (K1.out _).mono ?_); rintro e w' ⟨rfl, rfl⟩) | (go_at_call 14; (with_reducible refine (K2.out _).mono ?_); rintro e w' ⟨rfl, rfl⟩))
      go_ret
      exact ⟨rfl, hbel⟩
  · have hk' : (k == 1) = false := by simpa using hk
    rcases py with ⟨rfl, rfl⟩ | ⟨hl, h2, _, rfl, _⟩
    · rw [show cmpI X 18446744073709551615 = -1 by unfold cmpI; omega] at C1
      clear hk hkk
      go_enter Try.func8, Try.ntmps8
      go_wp2_with (first | (go_at_call 9; (with_reducible refine (awake03 _).mono ?_); rintro e w1 ⟨rfl, hb1⟩; replace hbel := belStep hbel hb1; clear hb1) | (go_at_call 20; (with_reducible refine (math_Copysign _).mono ?_); rintro e w' ⟨rfl, rfl⟩) | (go_at_call 15; (with_reducible refine (cmp_m0 _).mono ?_); rintro e w' ⟨rfl, rfl⟩) | (go_at_call 15; (with_reducible refine (cmp_0m _).mono ?_); rintro e w' ⟨rfl, rfl⟩) | (go_at_call 15; (with_reducible refine (C1.out _).mono ?_); rintro e w' ⟨rfl, rfl⟩) | (go_at_call 14; (with_reducible refine (K1.out _).mono ?_); rintro e w' ⟨rfl, rfl⟩) | (go_at_call 14; (with_reducible refine (K2.out _).mono ?_); rintro e w' ⟨rfl, rfl⟩))
      go_ret
      exact ⟨rfl, hbel⟩
    · have hl' : (l == 1) = false := by simpa using hl
      rw [show cmpI (18446744073709551615 - X) (18446744073709551615 - Y) = cmpI Y X by unfold cmpI; omega] at C3
      generalize cmpI Y X = p at *
      simp only [if_neg hk] at R1
      clear hk hl h2
      rcases hkk with ⟨g1, g2, rfl⟩ | ⟨g1, g2, g3⟩ | ⟨g1, g2, rfl⟩
      · clear C4 C5
        go_enter Try.func8, Try.ntmps8
        go_wp2_with (first | (go_at_call 9; (with_reducible refine (awake03 _).mono ?_); rintro e w1 ⟨rfl, hb1⟩; replace hbel := belStep hbel hb1; clear hb1) | (go_at_call 20; (with_reducible refine (math_Copysign _).mono ?_); rintro e w' ⟨rfl, rfl⟩) | (go_at_call 15; (with_reducible refine (cmp_m0 _).mono ?_); rintro e w' ⟨rfl, rfl⟩) | (go_at_call 15; (with_reducible refine (cmp_0m _).mono ?_); rintro e w' ⟨rfl, rfl⟩) | (go_at_call 15; (with_reducible refine (C3.out _).mono ?_); rintro e w' ⟨rfl, rfl⟩) | (go_at_call 15; (with_reducible refine (C2.out _).mono ?_); rintro e w' ⟨rfl, rfl⟩) | (go_at_call 14; (with_reducible refine (K1.out _).mono ?_); rintro e w' ⟨rfl, rfl⟩) | (go_at_call 14; (with_reducible refine (K2.out _).mono ?_); rintro e w' ⟨rfl, rfl⟩) | (go_at_call 13; (with_reducible refine (K3.out _).mono ?_); rintro e w' ⟨rfl, rfl⟩) | (go_at_call 11; (with_reducible refine (R1.out _).mono ?_); rintro e w' ⟨rfl, rfl⟩))
        go_ret
        exact ⟨rfl, hbel⟩
      · rw [show cmpI X 9223372036854775808 = 1 by unfold cmpI; omega] at C4
        have g4 : 3 < k := by omega
        have g5 : ¬ k < 6 := by omega
        go_enter Try.func8, Try.ntmps8
        go_wp2_with (first | (go_at_call 9; (with_reducible refine (awake03 _).mono ?_); rintro e w1 ⟨rfl, hb1⟩; replace hbel := belStep hbel hb1; clear hb1) | (go_at_call 20; (with_reducible refine (math_Copysign _).mono ?_); rintro e w' ⟨rfl, rfl⟩) | (go_at_call 15; (with_reducible refine (cmp_m0 _).mono ?_); rintro e w' ⟨rfl, rfl⟩) | (go_at_call 15; (with_reducible refine (cmp_0m _).mono ?_); rintro e w' ⟨rfl, rfl⟩) | (go_at_call 15; (with_reducible refine (C3.out _).mono ?_); rintro e w' ⟨rfl, rfl⟩) | (go_at_call 15; (with_reducible refine (C2.out _).mono ?_); rintro e w' ⟨rfl, rfl⟩) | (go_at_call 15; (with_reducible refine (C4.out _).mono ?_); rintro e w' ⟨rfl, rfl⟩) | (go_at_call 14; (with_reducible refine (K1.out _).mono ?_); rintro e w' ⟨rfl, rfl⟩) | (go_at_call 14; (with_reducible refine (K2.out _).mono ?_); rintro e w' ⟨rfl, rfl⟩) | (go_at_call 13; (with_reducible refine (K3.out _).mono ?_); rintro e w' ⟨rfl, rfl⟩) | (go_at_call 11; (with_reducible refine (R1.out _).mono ?_); rintro e w' ⟨rfl, rfl⟩))
        go_ret
        exact ⟨rfl, hbel⟩
      · rw [show cmpI X 9223372036854775807 = -1 by unfold cmpI; omega] at C5
        have g4 : ¬ 3 < k := by omega
        have g5 : k < 6 := by omega
        have g6 : ¬ 6 ≤ k := by omega
        go_enter Try.func8, Try.ntmps8
        go_wp2_with (first | (go_at_call 9; (with_reducible refine (awake03 _).mono ?_); rintro e w1 ⟨rfl, hb1⟩; replace hbel := belStep hbel hb1; clear hb1) | (go_at_call 20; (with_reducible refine (math_Copysign _).mono ?_); rintro e w' ⟨rfl, rfl⟩) | (go_at_call 15; (with_reducible refine (cmp_m0 _).mono ?_); rintro e w' ⟨rfl, rfl⟩) | (go_at_call 15; (with_reducible refine (cmp_0m _).mono ?_); rintro e w' ⟨rfl, rfl⟩) | (go_at_call 15; (with_reducible refine (C3.out _).mono ?_); rintro e w' ⟨rfl, rfl⟩) | (go_at_call 15; (with_reducible refine (C2.out _).mono ?_); rintro e w' ⟨rfl, rfl⟩) | (go_at_call 15; (with_reducible refine (C5.out _).mono ?_); rintro e w' ⟨rfl, rfl⟩) | (go_at_call 14; (with_reducible refine (K1.out _).mono ?_); rintro e w' ⟨rfl, rfl⟩) | (go_at_call 14; (with_reducible refine (K2.out _).mono ?_); rintro e w' ⟨rfl, rfl⟩) | (go_at_call 13; (with_reducible refine (K3.out _).mono ?_); rintro e w' ⟨rfl, rfl⟩) | (go_at_call 11; (with_reducible refine (R1.out _).mono ?_); rintro e w' ⟨rfl, rfl⟩))
        go_ret
        exact ⟨rfl, hbel⟩

set_option maxRecDepth 100000 in
theorem lifted (os : Os) (started : os.Started) (H : Type) (enc : TypeId × Value → H) :
    ReturnsInHanded {} Try.checked os 8 .any (Rows.edgeSignsSpec.pre6 enc Try.prog Try.f8 Rows.edgeSignsRow.domain false) (Rows.edgeSignsSpec.post enc Try.prog Try.f8 false true false false) := by
  refine returnsInHanded_of_change (C := Try.checked) own started (by kernel_rfl) Try.func8
    (ChangeSpec.witness6 (enc := enc) (C := Try.checked) false ⟨#[], #[.int .u64 0, .int .u64 0], []⟩ 8 (by kernel_rfl) (by kernel_rfl) (by kernel_rfl) (by kernel_rfl)) ?_
  intro W base args ds gs before hval0 hW hcnd _
  have hval : ∀ (j : Nat) t v, Try.f8.params[j]? = some t → args[j]? = some v → Value.okWide Try.prog W .any base t v := hval0
  have hW' := hW
  obtain ⟨p, q, hA0, hV, rfl, hfz, hnd⟩ := hW
  have hA : DataW.TrodAll enc Try.prog W 0 (fun _ => true) true Try.f8.params.toList args.toList ds p := hA0
  rw [Try.params8] at hA hval
  obtain ⟨v0, vs0, d0, ds0, p0, q0, hargs, rfl, rfl, h0, r0⟩ := trodAll_cons hA
  obtain ⟨v1, vs1, d1, ds1, p1, q1, rfl, rfl, rfl, h1, r1⟩ := trodAll_cons r0
  obtain ⟨rfl, rfl, rfl⟩ := trodAll_nil r1
  obtain rfl : args = #[v0, v1] := by cases args; simp_all
  obtain ⟨rfl, rfl⟩ := trodVars_none hV
  have k0 := h0
  have lt0 : ∀ x ∈ p0, x.block < W.heap.size := by obtain ⟨m, hm⟩ := k0; exact DataW.trod_lt m _ _ _ hm
  have o0 : Value.okWide Try.prog W .any base 22 v0 := hval 0 22 v0 rfl rfl
  obtain ⟨a0, rfl, rfl, rfl, w0⟩ := open_int Try.underlying22 o0 h0
  have k1 := h1
  have lt1 : ∀ x ∈ p1, x.block < W.heap.size := by obtain ⟨m, hm⟩ := k1; exact DataW.trod_lt m _ _ _ hm
  have o1 : Value.okWide Try.prog W .any base 22 v1 := hval 1 22 v1 rfl rfl
  obtain ⟨a1, rfl, rfl, rfl, w1⟩ := open_int Try.underlying22 o1 h1
  clear hA0 hval0
  refine (walk a0 a1 W (in64_of_wf w0) (in64_of_wf w1)).mono fun e W' ⟨he, bel⟩ => ?_
  subst he
  exact ⟨_, rfl, _, _, _, [], _, [], hW', trodAll_mk1 (shut_bool Try.underlying4 _), (trodAll_cons_mk (Below.trod laidOut (by kernel_rfl) (of_decide_eq_true (by kernel_rfl)) k0 bel lt0) (trodAll_cons_mk (Below.trod laidOut (by kernel_rfl) (of_decide_eq_true (by kernel_rfl)) k1 bel lt1) trodAll_mk0)), rfl, bel.frame _, fun h => by cases h⟩

theorem over : Rows.edgeSignsRow.holds Try.pinned (OpenSpec.ofChange Rows.edgeSignsSpec) :=
  OpenClaim.holds_of_wide 8 Try.f8 rfl rfl rfl rfl rfl rfl rfl ⟨rfl, rfl, rfl, rfl, rfl⟩ rfl rfl rfl rfl rfl (by kernel_rfl) Try.func8 (by kernel_rfl)
    (of_decide_eq_true (by kernel_rfl)) (by unfold Func.isWrapper; first | (rw [if_pos (by decide +kernel)]; kernel_rfl) | (rw [if_neg (by decide +kernel)]; exact ⟨rfl, rfl⟩))
    (fun os started H enc _ => lifted os started H enc)

/-- The statement. -/
theorem proved : Rows.EdgeSignsSaid := over
#print axioms proved

end Go.Proofs.Ytkdkhbeacejamaa.edgeSigns
