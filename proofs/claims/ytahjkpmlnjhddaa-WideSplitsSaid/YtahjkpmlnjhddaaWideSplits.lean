/- WideSplits holds for every two ints and two uint8: shares of a whole rise with the percent, and what goes with it. No conditions. -/
import Derived.Test.YtahjkpmlnjhddaaAwake02
namespace Go.Proofs.Ytahjkpmlnjhddaa.wideSplits
open Go.ChangeShapes Go.WideShapes Go.ChangeAt Go.RowKit
open Go.ChangeMaps (open_string shut_string)
set_option linter.unusedVariables false

theorem share_eq (a p : Int) (p0 : 0 ≤ p) (p1 : p ≤ 100) (h : 0 ≤ a) : shareI a p = (a * p + 99) / 100 := by
  unfold shareI; rw [show satNum (min p 100) = p by unfold satNum; omega, show satNum a = a by unfold satNum; omega]

theorem facts (a p q : Int) (h0 : 0 ≤ a) (h1 : a ≤ 9223372036854775807) (p0 : 0 ≤ p) (hpq : p ≤ q) (q1 : q ≤ 100) (X Y Z : Int)
    (hX : X = (a * p + 99) / 100) (hY : Y = (a * q + 99) / 100) (hZ : Z = (a * (100 - p) + 99) / 100) :
    0 ≤ X ∧ X ≤ Y ∧ X ≤ a ∧ a - X ≤ Z ∧ Z ≤ a ∧ Z - (a - X) ≤ 1 := by
  have m1 := Int.mul_le_mul_of_nonneg_left hpq h0
  have m2 := Int.mul_le_mul_of_nonneg_left (show p ≤ 100 by omega) h0
  have m3 := Int.mul_nonneg h0 p0
  rw [Int.mul_sub] at hZ
  omega

set_option maxHeartbeats 8000000 in
theorem walk (a p q x : Int) (w : World) (ha : InI a) (hp : 0 ≤ p ∧ p ≤ 255) (hq : 0 ≤ q ∧ q ≤ 255) (hx : InI x) :
    Calls Try.prog 12 #[.int .i64 a, .int .u8 p, .int .u8 q, .int .i64 x] w fun e w' => e = .returned (.bool true) ∧ Below w.heap.size w w' := by
  obtain ⟨p0, p1⟩ := hp
  obtain ⟨q0, q1⟩ := hq
  have hbel : Below w.heap.size w w := Below.refl _ _
  have pre : (a < 0 ∨ (¬ a < 0 ∧ x < 0)) ∨ (0 ≤ a ∧ 0 ≤ x) := by omega
  rcases pre with pre | ⟨a0, x0⟩
  · rcases pre with h | ⟨h, h2⟩
    all_goals
      go_enter Try.func12, Try.ntmps12
      go_wp2_with (first
        | (go_at_call 23; refine (awake02 _).mono ?_; rintro e w1 ⟨rfl, hb1⟩; replace hbel := belStep hbel hb1; clear hb1))
      go_ret
      exact ⟨rfl, hbel⟩
  · obtain ⟨s, es, hs⟩ : ∃ s, p % 101 = s ∧ s = p % 101 := ⟨_, rfl, rfl⟩
    obtain ⟨t, et, ht⟩ : ∃ t, q % 101 = t ∧ t = q % 101 := ⟨_, rfl, rfl⟩
    have s0 : 0 ≤ s := by omega
    have s1 : s ≤ 100 := by omega
    have t0 : 0 ≤ t := by omega
    have t1 : t ≤ 100 := by omega
    obtain ⟨m, hm⟩ : ∃ m, m = min s t := ⟨_, rfl⟩
    obtain ⟨n, hn⟩ : ∃ n, n = max s t := ⟨_, rfl⟩
    have m0 : 0 ≤ m := by omega
    have m1 : m ≤ 100 := by omega
    have n0 : 0 ≤ n := by omega
    have n1 : n ≤ 100 := by omega
    obtain ⟨X, eX, hX⟩ : ∃ X, shareI a m = X ∧ X = (a * m + 99) / 100 := ⟨_, rfl, share_eq a m m0 m1 a0⟩
    obtain ⟨Y, eY, hY⟩ : ∃ Y, shareI a n = Y ∧ Y = (a * n + 99) / 100 := ⟨_, rfl, share_eq a n n0 n1 a0⟩
    obtain ⟨Z, eZ, hZ⟩ : ∃ Z, shareI a (100 - m) = Z ∧ Z = (a * (100 - m) + 99) / 100 := ⟨_, rfl, share_eq a _ (by omega) (by omega) a0⟩
    obtain ⟨f0, f1, f2, f3, f4, f5⟩ := facts a m n a0 ha.2 m0 (by omega) n1 X Y Z hX hY hZ
    have key : (¬ satNum x * 100 < satNum a * satNum m) ∨ (satNum x * 100 < satNum a * satNum m ∧ satNum x * 100 < satNum a * satNum n) := by
      by_cases h : satNum x * 100 < satNum a * satNum m
      · refine .inr ⟨h, ?_⟩
        have := Int.mul_le_mul_of_nonneg_left (show satNum m ≤ satNum n by unfold satNum; omega) (satNum_bd a ha).1
        omega
      · exact .inl h
    have key1 : (t < s ∧ m = t ∧ n = s) ∨ (¬ t < s ∧ m = s ∧ n = t) := by omega
    have a1 := ha.2
    have EX := Lib.hid eX
    have EY := Lib.hid eY
    have EZ := Lib.hid eZ
    clear eX eY eZ hX hY hZ hs ht hm hn
    rcases key1 with ⟨h1, rfl, rfl⟩ | ⟨h1, rfl, rfl⟩ <;> rcases key with k1 | ⟨k1, k2⟩
    all_goals
      go_enter Try.func12, Try.ntmps12
      go_wp2_with (first
        | (go_at_call 23; refine (awake02 _).mono ?_; rintro e w1 ⟨rfl, hb1⟩; replace hbel := belStep hbel hb1; clear hb1)
        | (go_at_call 28; refine (wide_Share _ _ _ (by assumption) (by first | assumption | exact inI_of (by omega) (by omega))).mono ?_; rintro e w1 ⟨rfl, hb1⟩; (first | rw [EX.out] | rw [EY.out] | rw [EZ.out]); replace hbel := belStep hbel hb1; clear hb1)
        | (go_at_call 26; refine (wide_Below _ _ _ _ (by first | assumption | exact inI_of (by omega) (by omega)) (by first | assumption | exact inI_of (by omega) (by omega)) (by first | assumption | exact inI_of (by omega) (by omega))).mono ?_; rintro e w1 ⟨rfl, hb1⟩; replace hbel := belStep hbel hb1; clear hb1))
      go_ret
      exact ⟨rfl, hbel⟩

set_option maxRecDepth 100000 in
theorem lifted (os : Os) (started : os.Started) (H : Type) (enc : TypeId × Value → H) :
    ReturnsInHanded {} Try.checked os 12 .any (Rows.wideSplitsSpec.pre6 enc Try.prog Try.f12 Rows.wideSplitsRow.domain false) (Rows.wideSplitsSpec.post enc Try.prog Try.f12 false true false false) := by
  refine returnsInHanded_of_change (C := Try.checked) own started (by kernel_rfl) Try.func12
    (ChangeSpec.witness6 (enc := enc) (C := Try.checked) false ⟨#[], #[.int .i64 0, .int .u8 0, .int .u8 0, .int .i64 0], []⟩ 8 (by kernel_rfl) (by kernel_rfl) (by kernel_rfl) (by kernel_rfl)) ?_
  intro W base args ds gs before hval0 hW hcnd _
  have hval : ∀ (j : Nat) t v, Try.f12.params[j]? = some t → args[j]? = some v → Value.okWide Try.prog W .any base t v := hval0
  have hW' := hW
  obtain ⟨p, q, hA0, hV, rfl, hfz, hnd⟩ := hW
  have hA : DataW.TrodAll enc Try.prog W 0 (fun _ => true) true Try.f12.params.toList args.toList ds p := hA0
  rw [Try.params12] at hA hval
  obtain ⟨v0, vs0, d0, ds0, p0, q0, hargs, rfl, rfl, h0, r0⟩ := trodAll_cons hA
  obtain ⟨v1, vs1, d1, ds1, p1, q1, rfl, rfl, rfl, h1, r1⟩ := trodAll_cons r0
  obtain ⟨v2, vs2, d2, ds2, p2, q2, rfl, rfl, rfl, h2, r2⟩ := trodAll_cons r1
  obtain ⟨v3, vs3, d3, ds3, p3, q3, rfl, rfl, rfl, h3, r3⟩ := trodAll_cons r2
  obtain ⟨rfl, rfl, rfl⟩ := trodAll_nil r3
  obtain rfl : args = #[v0, v1, v2, v3] := by cases args; simp_all
  obtain ⟨rfl, rfl⟩ := trodVars_none hV
  have k0 := h0
  have lt0 : ∀ x ∈ p0, x.block < W.heap.size := by obtain ⟨m, hm⟩ := k0; exact DataW.trod_lt m _ _ _ hm
  have o0 : Value.okWide Try.prog W .any base 3 v0 := hval 0 3 v0 rfl rfl
  obtain ⟨a0, rfl, rfl, rfl, w0⟩ := open_int Try.underlying3 o0 h0
  have k1 := h1
  have lt1 : ∀ x ∈ p1, x.block < W.heap.size := by obtain ⟨m, hm⟩ := k1; exact DataW.trod_lt m _ _ _ hm
  have o1 : Value.okWide Try.prog W .any base 5 v1 := hval 1 5 v1 rfl rfl
  obtain ⟨a1, rfl, rfl, rfl, w1⟩ := open_int Try.underlying5 o1 h1
  have k2 := h2
  have lt2 : ∀ x ∈ p2, x.block < W.heap.size := by obtain ⟨m, hm⟩ := k2; exact DataW.trod_lt m _ _ _ hm
  have o2 : Value.okWide Try.prog W .any base 5 v2 := hval 2 5 v2 rfl rfl
  obtain ⟨a2, rfl, rfl, rfl, w2⟩ := open_int Try.underlying5 o2 h2
  have k3 := h3
  have lt3 : ∀ x ∈ p3, x.block < W.heap.size := by obtain ⟨m, hm⟩ := k3; exact DataW.trod_lt m _ _ _ hm
  have o3 : Value.okWide Try.prog W .any base 3 v3 := hval 3 3 v3 rfl rfl
  obtain ⟨a3, rfl, rfl, rfl, w3⟩ := open_int Try.underlying3 o3 h3
  clear hA0 hval0
  refine (walk a0 a1 a2 a3 W (inI_of_wf w0) (in8_of_wf w1) (in8_of_wf w2) (inI_of_wf w3)).mono fun e W' ⟨he, bel⟩ => ?_
  subst he
  exact ⟨_, rfl, _, _, _, [], _, [], hW', trodAll_mk1 (shut_bool Try.underlying4 _), (trodAll_cons_mk (Below.trod laidOut (by kernel_rfl) (of_decide_eq_true (by kernel_rfl)) k0 bel lt0) (trodAll_cons_mk (Below.trod laidOut (by kernel_rfl) (of_decide_eq_true (by kernel_rfl)) k1 bel lt1) (trodAll_cons_mk (Below.trod laidOut (by kernel_rfl) (of_decide_eq_true (by kernel_rfl)) k2 bel lt2) (trodAll_cons_mk (Below.trod laidOut (by kernel_rfl) (of_decide_eq_true (by kernel_rfl)) k3 bel lt3) trodAll_mk0)))), rfl, bel.frame _, fun h => by cases h⟩

theorem over : Rows.wideSplitsRow.holds Try.pinned (OpenSpec.ofChange Rows.wideSplitsSpec) :=
  OpenClaim.holds_of_wide 12 Try.f12 rfl rfl rfl rfl rfl rfl rfl ⟨rfl, rfl, rfl, rfl, rfl⟩ rfl rfl rfl rfl rfl (by kernel_rfl) Try.func12 (by kernel_rfl)
    (of_decide_eq_true (by kernel_rfl)) (by unfold Func.isWrapper; first | (rw [if_pos (by decide +kernel)]; kernel_rfl) | (rw [if_neg (by decide +kernel)]; exact ⟨rfl, rfl⟩))
    (fun os started H enc _ => lifted os started H enc)

/-- The statement. -/
theorem proved : Rows.WideSplitsSaid := over
#print axioms proved

end Go.Proofs.Ytahjkpmlnjhddaa.wideSplits
