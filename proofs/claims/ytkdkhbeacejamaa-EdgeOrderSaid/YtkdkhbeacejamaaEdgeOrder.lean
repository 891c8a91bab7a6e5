/- EdgeOrder holds for whatever bits: the order is the document's, turned the contrary, goes over, and what is read of a greater number is no less. No conditions. -/
import Derived.Test.YtkdkhbeacejamaaAwake03
namespace Go.Proofs.Ytkdkhbeacejamaa.edgeOrder
open Go.ChangeShapes Go.WideShapes Go.ChangeAt Go.RowKit
open Go.ChangeMaps (open_string shut_string)
set_option linter.unusedVariables false
set_option linter.unusedSimpArgs false

theorem read_mono (x y : Nat) (hx : x < 18446744073709551616) (hy : y < 18446744073709551616) (kx : ¬ kindF x = 1) (ky : ¬ kindF y = 1) (h : cmpI (fplace x) (fplace y) ≤ 0) : readF x ≤ readF y := by
  have hp : ∀ n, ¬ kindF n = 1 → frung n ≤ 9218868437227405312 ∧ fplace n = if fneg n then 9223372036854775807 - (frung n : Int) else (frung n : Int) + 9223372036854775808 := by
    intro n k
    have : frung n ≤ 9218868437227405312 := by
      rcases Nat.lt_or_ge 9218868437227405312 (frung n) with q | q
      · exact absurd (by unfold kindF; rw [if_pos q]) k
      · exact q
    exact ⟨this, by unfold fplace; rw [if_neg (by omega)]⟩
  obtain ⟨bx, px⟩ := hp x kx
  obtain ⟨byy, py⟩ := hp y ky
  have hle : fplace x ≤ fplace y := by unfold cmpI at h; omega
  have w0 : ∀ r, frung r < 4890909195324358656 → wholeF (frung r) < 9223372036854775808 := fun r hr => whole_lt _ hr
  have nn : ∀ n, 0 ≤ readF n := by
    intro n; unfold readF
    split
    · omega
    · split <;> omega
  by_cases sx : fneg x = true
  · have : readF x = 0 := by unfold readF; rw [if_pos sx]
    rw [this]; exact nn y
  · rw [if_neg sx] at px
    by_cases sy : fneg y = true
    · rw [if_pos sy] at py
      omega
    · rw [if_neg sy] at py
      have hr : frung x ≤ frung y := by omega
      unfold readF
      rw [if_neg sx, if_neg sy]
      by_cases gy : 4890909195324358656 ≤ frung y
      · rw [if_pos gy]
        by_cases gx : 4890909195324358656 ≤ frung x
        · rw [if_pos gx]; omega
        · rw [if_neg gx]
          have := w0 x (by omega)
          omega
      · rw [if_neg gy, if_neg (by omega)]
        have := whole_mono hr
        omega
theorem three (P Q R : Int) : ∃ p q r : Int, cmpI P Q = p ∧ cmpI Q P = -p ∧ cmpI Q R = q ∧ cmpI P R = r ∧ -1 ≤ p ∧ p ≤ 1 ∧ (p ≤ 0 → q ≤ 0 → r ≤ 0) := ⟨_, _, _, rfl, by unfold cmpI; omega, rfl, rfl, by unfold cmpI; omega, by unfold cmpI; omega, by unfold cmpI; omega⟩

set_option maxRecDepth 100000 in
set_option maxHeartbeats 8000000 in
theorem walk (a b c : Int) (w : World) (ha : 0 ≤ a ∧ a ≤ 18446744073709551615) (hb : 0 ≤ b ∧ b ≤ 18446744073709551615) (hc : 0 ≤ c ∧ c ≤ 18446744073709551615) : Calls Try.prog 4 #[.int .u64 a, .int .u64 b, .int .u64 c] w fun e w' => e = .returned (.bool true) ∧ Below w.heap.size w w' := by
  have hbel : Below w.heap.size w w := Below.refl _ _
  have hx : a.toNat < 18446744073709551616 := by omega
  have hy : b.toNat < 18446744073709551616 := by omega
  have hz : c.toNat < 18446744073709551616 := by omega
  have fa := run_frombits a
  have fb := run_frombits b
  have fc := run_frombits c
  generalize a.toNat = x at *
  generalize b.toNat = y at *
  generalize c.toNat = z at *
  clear ha hb hc
  have hm := read_mono x y hx hy
  have C1 := Lib.hid (fun v => edge_Compare x y v hx hy)
  have C2 := Lib.hid (fun v => edge_Compare y x v hy hx)
  have C3 := Lib.hid (fun v => edge_Compare y z v hy hz)
  have C4 := Lib.hid (fun v => edge_Compare x z v hx hz)
  have C5 := Lib.hid (fun v => ref_Compare x y v hx hy)
  have R1 := Lib.hid (fun v => edge_Read x v hx)
  have R2 := Lib.hid (fun v => edge_Read y v hy)
  clear hx hy hz
  obtain ⟨p, q, r, e1, e2, e3, e4, p1, p2, hpq⟩ := three (fplace x) (fplace y) (fplace z)
  rw [e1] at C1 C5 hm
  rw [e2] at C2
  rw [e3] at C3
  rw [e4] at C4
  clear e1 e2 e3 e4
  have reads : (kindF x = 1 ∧ True) ∨ (¬ kindF x = 1 ∧ kindF y = 1) ∨ (¬ kindF x = 1 ∧ ¬ kindF y = 1 ∧ (0 < p ∨ readF x ≤ readF y)) := by
    by_cases kx : kindF x = 1
    · exact .inl ⟨kx, trivial⟩
    · by_cases ky : kindF y = 1
      · exact .inr (.inl ⟨kx, ky⟩)
      · exact .inr (.inr ⟨kx, ky, by
          by_cases hp : p ≤ 0
          · exact .inr (hm kx ky hp)
          · exact .inl (by omega)⟩)
  clear hm
  have cases3 : (0 < p) ∨ (p ≤ 0 ∧ 0 < q) ∨ (p ≤ 0 ∧ q ≤ 0 ∧ r ≤ 0) := by omega
  clear hpq
  have hneg : IntKind.i64.wrap (0 - p) = -p := by simp only [IntKind.wrap_i64]; omega
  generalize readF x = n at *
  generalize readF y = m at *
  rcases reads with ⟨kx, _⟩ | ⟨kx, ky⟩ | ⟨kx, ky, hnm⟩
  · simp only [if_pos kx] at R1
    rcases (Classical.em (kindF y = 1)) with ky | ky
    all_goals
      first | simp only [if_pos ky] at R2 | simp only [if_neg ky] at R2
      clear kx ky
      rcases cases3 with h1 | ⟨h1, h2⟩ | ⟨h1, h2, h3⟩
      all_goals
        go_enter Try.func4, Try.ntmps4
        go_wp2_with (first | (go_at_call 9; (with_reducible refine (awake03 _).mono ?_); rintro e w1 ⟨rfl, hb1⟩; replace hbel := belStep hbel hb1; clear hb1) | (go_at_call 15; (with_reducible refine (C1.out _).mono ?_); rintro e w' ⟨rfl, rfl⟩) | (go_at_call 15; (with_reducible refine (C2.out _).mono ?_); rintro e w' ⟨rfl, rfl⟩) | (go_at_call 15; (with_reducible refine (C3.out _).mono ?_); rintro e w' ⟨rfl, rfl⟩) | (go_at_call 15; (with_reducible refine (C4.out _).mono ?_); rintro e w' ⟨rfl, rfl⟩) | (go_at_call 16; (with_reducible refine (C5.out _).mono ?_); rintro e w' ⟨rfl, rfl⟩) | (go_at_call 11; (with_reducible refine (R1.out _).mono ?_); rintro e w' ⟨rfl, rfl⟩) | (go_at_call 11; (with_reducible refine (R2.out _).mono ?_); rintro e w' ⟨rfl, rfl⟩))
        go_ret
        exact ⟨rfl, hbel⟩
  · simp only [if_neg kx] at R1
    simp only [if_pos ky] at R2
    clear kx ky
    rcases cases3 with h1 | ⟨h1, h2⟩ | ⟨h1, h2, h3⟩
    all_goals
      go_enter Try.func4, Try.ntmps4
      go_wp2_with (first | (go_at_call 9; (with_reducible refine (awake03 _).mono ?_); rintro e w1 ⟨rfl, hb1⟩; replace hbel := belStep hbel hb1; clear hb1) | (go_at_call 15; (with_reducible refine (C1.out _).mono ?_); rintro e w' ⟨rfl, rfl⟩) | (go_at_call 15; (with_reducible refine (C2.out _).mono ?_); rintro e w' ⟨rfl, rfl⟩) | (go_at_call 15; (with_reducible refine (C3.out _).mono ?_); rintro e w' ⟨rfl, rfl⟩) | (go_at_call 15; (with_reducible refine (C4.out _).mono ?_); rintro e w' ⟨rfl, rfl⟩) | (go_at_call 16; (with_reducible refine (C5.out _).mono ?_); rintro e w' ⟨rfl, rfl⟩) | (go_at_call 11; (with_reducible refine (R1.out _).mono ?_); rintro e w' ⟨rfl, rfl⟩) | (go_at_call 11; (with_reducible refine (R2.out _).mono ?_); rintro e w' ⟨rfl, rfl⟩))
      go_ret
      exact ⟨rfl, hbel⟩
  · simp only [if_neg kx] at R1
    simp only [if_neg ky] at R2
    clear kx ky
    have cases4 : (0 < p) ∨ (p ≤ 0 ∧ 0 < q ∧ n ≤ m) ∨ (p ≤ 0 ∧ q ≤ 0 ∧ r ≤ 0 ∧ n ≤ m) := by omega
    clear hnm cases3
    rcases cases4 with h1 | ⟨h1, h2, h4⟩ | ⟨h1, h2, h3, h4⟩
    all_goals
      go_enter Try.func4, Try.ntmps4
      go_wp2_with (first | (go_at_call 9; (with_reducible refine (awake03 _).mono ?_); rintro e w1 ⟨rfl, hb1⟩; replace hbel := belStep hbel hb1; clear hb1) | (go_at_call 15; (with_reducible refine (C1.out _).mono ?_); rintro e w' ⟨rfl, rfl⟩) | (go_at_call 15; (with_reducible refine (C2.out _).mono ?_); rintro e w' ⟨rfl, rfl⟩) | (go_at_call 15; (with_reducible refine (C3.out _).mono ?_); rintro e w' ⟨rfl, rfl⟩) | (go_at_call 15; (with_reducible refine (C4.out _).mono ?_); rintro e w' ⟨rfl, rfl⟩) | (go_at_call 16; (with_reducible refine (C5.out _).mono ?_); rintro e w' ⟨rfl, rfl⟩) | (go_at_call 11; (with_reducible refine (R1.out _).mono ?_); rintro e w' ⟨rfl, rfl⟩) | (go_at_call 11; (with_reducible refine (R2.out _).mono ?_); rintro e w' ⟨rfl, rfl⟩))
      go_ret
      exact ⟨rfl, hbel⟩

set_option maxRecDepth 100000 in
theorem lifted (os : Os) (started : os.Started) (H : Type) (enc : TypeId × Value → H) :
    ReturnsInHanded {} Try.checked os 4 .any (Rows.edgeOrderSpec.pre6 enc Try.prog Try.f4 Rows.edgeOrderRow.domain false) (Rows.edgeOrderSpec.post enc Try.prog Try.f4 false true false false) := by
  refine returnsInHanded_of_change (C := Try.checked) own started (by kernel_rfl) Try.func4
    (ChangeSpec.witness6 (enc := enc) (C := Try.checked) false ⟨#[], #[.int .u64 0, .int .u64 0, .int .u64 0], []⟩ 8 (by kernel_rfl) (by kernel_rfl) (by kernel_rfl) (by kernel_rfl)) ?_
  intro W base args ds gs before hval0 hW hcnd _
  have hval : ∀ (j : Nat) t v, Try.f4.params[j]? = some t → args[j]? = some v → Value.okWide Try.prog W .any base t v := hval0
  have hW' := hW
  obtain ⟨p, q, hA0, hV, rfl, hfz, hnd⟩ := hW
  have hA : DataW.TrodAll enc Try.prog W 0 (fun _ => true) true Try.f4.params.toList args.toList ds p := hA0
  rw [Try.params4] at hA hval
  obtain ⟨v0, vs0, d0, ds0, p0, q0, hargs, rfl, rfl, h0, r0⟩ := trodAll_cons hA
  obtain ⟨v1, vs1, d1, ds1, p1, q1, rfl, rfl, rfl, h1, r1⟩ := trodAll_cons r0
  obtain ⟨v2, vs2, d2, ds2, p2, q2, rfl, rfl, rfl, h2, r2⟩ := trodAll_cons r1
  obtain ⟨rfl, rfl, rfl⟩ := trodAll_nil r2
  obtain rfl : args = #[v0, v1, v2] := by cases args; simp_all
  obtain ⟨rfl, rfl⟩ := trodVars_none hV
  have k0 := h0
  have lt0 : ∀ x ∈ p0, x.block < W.heap.size := by obtain ⟨m, hm⟩ := k0; exact DataW.trod_lt m _ _ _ hm
  have o0 : Value.okWide Try.prog W .any base 22 v0 := hval 0 22 v0 rfl rfl
  obtain ⟨a0, rfl, rfl, rfl, w0⟩ := open_int Try.underlying22 o0 h0
  have k1 := h1
  have lt1 : ∀ x ∈ p1, x.block < W.heap.size := by obtain ⟨m, hm⟩ := k1; exact DataW.trod_lt m _ _ _ hm
  have o1 : Value.okWide Try.prog W .any base 22 v1 := hval 1 22 v1 rfl rfl
  obtain ⟨a1, rfl, rfl, rfl, w1⟩ := open_int Try.underlying22 o1 h1
  have k2 := h2
  have lt2 : ∀ x ∈ p2, x.block < W.heap.size := by obtain ⟨m, hm⟩ := k2; exact DataW.trod_lt m _ _ _ hm
  have o2 : Value.okWide Try.prog W .any base 22 v2 := hval 2 22 v2 rfl rfl
  obtain ⟨a2, rfl, rfl, rfl, w2⟩ := open_int Try.underlying22 o2 h2
  clear hA0 hval0
  refine (walk a0 a1 a2 W (in64_of_wf w0) (in64_of_wf w1) (in64_of_wf w2)).mono fun e W' ⟨he, bel⟩ => ?_
  subst he
  exact ⟨_, rfl, _, _, _, [], _, [], hW', trodAll_mk1 (shut_bool Try.underlying4 _), (trodAll_cons_mk (Below.trod laidOut (by kernel_rfl) (of_decide_eq_true (by kernel_rfl)) k0 bel lt0) (trodAll_cons_mk (Below.trod laidOut (by kernel_rfl) (of_decide_eq_true (by kernel_rfl)) k1 bel lt1) (trodAll_cons_mk (Below.trod laidOut (by kernel_rfl) (of_decide_eq_true (by kernel_rfl)) k2 bel lt2) trodAll_mk0))), rfl, bel.frame _, fun h => by cases h⟩

theorem over : Rows.edgeOrderRow.holds Try.pinned (OpenSpec.ofChange Rows.edgeOrderSpec) :=
  OpenClaim.holds_of_wide 4 Try.f4 rfl rfl rfl rfl rfl rfl rfl ⟨rfl, rfl, rfl, rfl, rfl⟩ rfl rfl rfl rfl rfl (by kernel_rfl) Try.func4 (by kernel_rfl)
    (of_decide_eq_true (by kernel_rfl)) (by unfold Func.isWrapper; first | (rw [if_pos (by decide +kernel)]; kernel_rfl) | (rw [if_neg (by decide +kernel)]; exact ⟨rfl, rfl⟩))
    (fun os started H enc _ => lifted os started H enc)

/-- The statement. -/
theorem proved : Rows.EdgeOrderSaid := over
#print axioms proved

end Go.Proofs.Ytkdkhbeacejamaa.edgeOrder
