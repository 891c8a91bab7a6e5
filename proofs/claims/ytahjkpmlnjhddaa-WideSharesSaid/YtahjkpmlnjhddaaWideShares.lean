/- WideShares holds for every three ints: a share isn't below, one less is, and a part is below just if it is less than the share. No conditions. -/
import Derived.Test.YtahjkpmlnjhddaaAwake02
namespace Go.Proofs.Ytahjkpmlnjhddaa.wideShares
open Go.ChangeShapes Go.WideShapes Go.ChangeAt Go.RowKit
open Go.ChangeMaps (open_string shut_string)
set_option linter.unusedVariables false

theorem share_facts (a p : Int) (ha : InI a) (p0 : 0 ≤ p) (p1 : p ≤ 100) (S : Int) (hS : S = (satNum a * p + 99) / 100) :
    0 ≤ S ∧ S ≤ 9223372036854775807 ∧ ¬ S * 100 < satNum a * p ∧ (0 < S → (S - 1) * 100 < satNum a * p) ∧ (0 ≤ a → S ≤ a) ∧ (a < 0 → S = 0) ∧ ∀ x, (0 ≤ x → (x * 100 < satNum a * p ↔ x < S)) := by
  have h := satNum_bd a ha
  have m0 := Int.mul_nonneg h.1 p0
  have m1 := Int.mul_le_mul_of_nonneg_left p1 h.1
  have hn : a < 0 → satNum a = 0 := fun q => by unfold satNum; omega
  have hp : 0 ≤ a → satNum a = a := fun q => by unfold satNum; omega
  refine ⟨by omega, by omega, by omega, fun _ => by omega, fun q => by have := hp q; omega, fun q => ?_, fun x hx => by omega⟩
  rw [hn q] at hS; omega

set_option maxHeartbeats 8000000 in
theorem walk (a r x : Int) (w : World) (ha : InI a) (hr : InI r) (hx : InI x) :
    Calls Try.prog 11 #[.int .i64 a, .int .i64 r, .int .i64 x] w fun e w' => e = .returned (.bool true) ∧ Below w.heap.size w w' := by
  obtain ⟨p, hp⟩ : ∃ p, p = max (min r 100) 0 := ⟨_, rfl⟩
  have p0 : 0 ≤ p := by omega
  have p1 : p ≤ 100 := by omega
  obtain ⟨S, hS⟩ : ∃ S, S = (satNum a * p + 99) / 100 := ⟨_, rfl⟩
  obtain ⟨s0, s1, f1, f2, f3, f4, f5⟩ := share_facts a p ha p0 p1 S hS
  have eS : shareI a r = S := by rw [hS]; unfold shareI; rw [show satNum (min r 100) = p by unfold satNum; omega]
  have eP : satNum p = p := by unfold satNum; omega
  have eS1 : satNum S = S := by unfold satNum; omega
  have key1 : (r < 0 ∧ p = 0) ∨ (100 < r ∧ p = 100) ∨ (0 ≤ r ∧ r ≤ 100 ∧ p = r) := by omega
  have key2 : (¬ 0 < S ∧ a < 0) ∨ (¬ 0 < S ∧ 0 ≤ a ∧ S ≤ a) ∨ (0 < S ∧ 0 ≤ a ∧ S ≤ a ∧ satNum (S - 1) * 100 < satNum a * satNum p) := by
    by_cases h0 : a < 0
    · exact .inl ⟨by have := f4 h0; omega, h0⟩
    · by_cases h1 : 0 < S
      · refine .inr (.inr ⟨h1, by omega, f3 (by omega), ?_⟩)
        rw [eP, show satNum (S - 1) = S - 1 by unfold satNum; omega]; exact f2 h1
      · exact .inr (.inl ⟨h1, by omega, f3 (by omega)⟩)
  have key3 : x < 0 ∨ (¬ x < 0 ∧ (decide (satNum x * 100 < satNum a * satNum p) == decide (x < S)) = true) := by
    by_cases h0 : x < 0
    · exact .inl h0
    · refine .inr ⟨h0, ?_⟩
      rw [eP, show satNum x = x by unfold satNum; omega, beq_iff_eq, decide_eq_decide]
      exact f5 x (by omega)
  have g1 : ¬ satNum S * 100 < satNum a * satNum p := by rw [eP, eS1]; exact f1
  have ES := Lib.hid eS
  clear f1 f2 f3 f4 f5 hS hp eP eS1 eS
  have hbel : Below w.heap.size w w := Below.refl _ _
  have i0 : InI 0 := inI_of (by omega) (by omega)
  have i100 : InI 100 := inI_of (by omega) (by omega)
  rcases key1 with ⟨h1, rfl⟩ | ⟨h1, rfl⟩ | ⟨h1, h2, rfl⟩ <;> rcases key2 with ⟨k1, k2⟩ | ⟨k1, k2, k3⟩ | ⟨k1, k2, k3, k4⟩ <;> rcases key3 with l1 | ⟨l1, l2⟩
  all_goals
    go_enter Try.func11, Try.ntmps11
    go_wp2_with (first
      | (go_at_call 23; refine (awake02 _).mono ?_; rintro e w1 ⟨rfl, hb1⟩; replace hbel := belStep hbel hb1; clear hb1)
      | (go_at_call 28; refine (wide_Share _ _ _ (by assumption) (by assumption)).mono ?_; rintro e w1 ⟨rfl, hb1⟩; rw [ES.out]; replace hbel := belStep hbel hb1; clear hb1)
      | (go_at_call 26; refine (wide_Below _ _ _ _ (by first | assumption | exact inI_of (by omega) (by omega)) (by first | assumption | exact inI_of (by omega) (by omega)) (by first | assumption | exact inI_of (by omega) (by omega))).mono ?_; rintro e w1 ⟨rfl, hb1⟩; replace hbel := belStep hbel hb1; clear hb1))
    go_ret
    exact ⟨rfl, hbel⟩

set_option maxRecDepth 100000 in
theorem lifted (os : Os) (started : os.Started) (H : Type) (enc : TypeId × Value → H) :
    ReturnsInHanded {} Try.checked os 11 .any (Rows.wideSharesSpec.pre6 enc Try.prog Try.f11 Rows.wideSharesRow.domain false) (Rows.wideSharesSpec.post enc Try.prog Try.f11 false true false false) := by
  refine returnsInHanded_of_change (C := Try.checked) own started (by kernel_rfl) Try.func11
    (ChangeSpec.witness6 (enc := enc) (C := Try.checked) false ⟨#[], #[.int .i64 0, .int .i64 0, .int .i64 0], []⟩ 8 (by kernel_rfl) (by kernel_rfl) (by kernel_rfl) (by kernel_rfl)) ?_
  intro W base args ds gs before hval0 hW hcnd _
  have hval : ∀ (j : Nat) t v, Try.f11.params[j]? = some t → args[j]? = some v → Value.okWide Try.prog W .any base t v := hval0
  have hW' := hW
  obtain ⟨p, q, hA0, hV, rfl, hfz, hnd⟩ := hW
  have hA : DataW.TrodAll enc Try.prog W 0 (fun _ => true) true Try.f11.params.toList args.toList ds p := hA0
  rw [Try.params11] at hA hval
  obtain ⟨v0, vs0, d0, ds0, p0, q0, hargs, rfl, rfl, h0, r0⟩ := trodAll_cons hA
  obtain ⟨v1, vs1, d1, ds1, p1, q1, rfl, rfl, rfl, h1, r1⟩ := trodAll_cons r0
  obtain ⟨v2, vs2, d2, ds2, p2, q2, rfl, rfl, rfl, h2, r2⟩ := trodAll_cons r1
  obtain ⟨rfl, rfl, rfl⟩ := trodAll_nil r2
  obtain rfl : args = #[v0, v1, v2] := by cases args; simp_all
  obtain ⟨rfl, rfl⟩ := trodVars_none hV
  have k0 := h0
  have lt0 : ∀ x ∈ p0, x.block < W.heap.size := by obtain ⟨m, hm⟩ := k0; exact DataW.trod_lt m _ _ _ hm
  have o0 : Value.okWide Try.prog W .any base 3 v0 := hval 0 3 v0 rfl rfl
  obtain ⟨a0, rfl, rfl, rfl, w0⟩ := open_int Try.underlying3 o0 h0
  have k1 := h1
  have lt1 : ∀ x ∈ p1, x.block < W.heap.size := by obtain ⟨m, hm⟩ := k1; exact DataW.trod_lt m _ _ _ hm
  have o1 : Value.okWide Try.prog W .any base 3 v1 := hval 1 3 v1 rfl rfl
  obtain ⟨a1, rfl, rfl, rfl, w1⟩ := open_int Try.underlying3 o1 h1
  have k2 := h2
  have lt2 : ∀ x ∈ p2, x.block < W.heap.size := by obtain ⟨m, hm⟩ := k2; exact DataW.trod_lt m _ _ _ hm
  have o2 : Value.okWide Try.prog W .any base 3 v2 := hval 2 3 v2 rfl rfl
  obtain ⟨a2, rfl, rfl, rfl, w2⟩ := open_int Try.underlying3 o2 h2
  clear hA0 hval0
  refine (walk a0 a1 a2 W (inI_of_wf w0) (inI_of_wf w1) (inI_of_wf w2)).mono fun e W' ⟨he, bel⟩ => ?_
  subst he
  exact ⟨_, rfl, _, _, _, [], _, [], hW', trodAll_mk1 (shut_bool Try.underlying4 _), (trodAll_cons_mk (Below.trod laidOut (by kernel_rfl) (of_decide_eq_true (by kernel_rfl)) k0 bel lt0) (trodAll_cons_mk (Below.trod laidOut (by kernel_rfl) (of_decide_eq_true (by kernel_rfl)) k1 bel lt1) (trodAll_cons_mk (Below.trod laidOut (by kernel_rfl) (of_decide_eq_true (by kernel_rfl)) k2 bel lt2) trodAll_mk0))), rfl, bel.frame _, fun h => by cases h⟩

theorem over : Rows.wideSharesRow.holds Try.pinned (OpenSpec.ofChange Rows.wideSharesSpec) :=
  OpenClaim.holds_of_wide 11 Try.f11 rfl rfl rfl rfl rfl rfl rfl ⟨rfl, rfl, rfl, rfl, rfl⟩ rfl rfl rfl rfl rfl (by kernel_rfl) Try.func11 (by kernel_rfl)
    (of_decide_eq_true (by kernel_rfl)) (by unfold Func.isWrapper; first | (rw [if_pos (by decide +kernel)]; kernel_rfl) | (rw [if_neg (by decide +kernel)]; exact ⟨rfl, rfl⟩))
    (fun os started H enc _ => lifted os started H enc)

/-- The statement. -/
theorem proved : Rows.WideSharesSaid := over
#print axioms proved

end Go.Proofs.Ytahjkpmlnjhddaa.wideShares
