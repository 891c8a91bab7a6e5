/- CondSteps holds for every condition, whatever is told of a round, and every int as a period. No conditions. -/
import Derived.Test.YthhpkmpaldcloaaAwake19
import Derived.Test.YthhpkmpaldcloaaReadCond
namespace Go.Proofs.Ythhpkmpaldcloaa.condSteps
open Go.ChangeShapes Go.WideShapes Go.ChangeAt Go.RowKit
open Go.ChangeMaps (open_string shut_string)
set_option linter.unusedVariables false

theorem stepRight (on : Bool) (calm : Int) (holds met fresh : Bool) (n : Int) (h1 : 1 ≤ n) (h : rightC on calm n = true) :
    rightC (stepOn on calm holds met fresh n) (stepCalm on calm holds met fresh n) n = true := by
  have k : calm + 1 < n ∨ ¬ calm + 1 < n := by omega
  rcases k with k | k <;> cases fresh <;> cases holds <;> cases on <;> cases met <;> simp [rightC, stepOn, stepCalm, k] at h ⊢ <;> omega

set_option maxHeartbeats 2000000 in
theorem walk (on : Bool) (calm : Int) (holds met fresh : Bool) (n : Int) (w : World) (hc : InI calm) (hn : InI n) :
    Calls Try.prog 9 #[.agg #[.bool on, .int .i64 calm], .bool holds, .bool met, .bool fresh, .int .i64 n] w fun e w' => e = .returned (.bool true) ∧ Below w.heap.size w w' := by
  have hne : (rightC on calm n != rightC on calm n) = false := by simp
  have key : (¬ (1 ≤ n ∧ n ≤ 1000)) ∨ (1 ≤ n ∧ n ≤ 1000 ∧ rightC on calm n = false) ∨
    (1 ≤ n ∧ n ≤ 1000 ∧ rightC on calm n = true ∧ rightC (stepOn on calm holds met fresh n) (stepCalm on calm holds met fresh n) n = true) := by
    by_cases h : 1 ≤ n ∧ n ≤ 1000
    · cases hr : rightC on calm n
      · exact .inr (.inl ⟨h.1, h.2, rfl⟩)
      · exact .inr (.inr ⟨h.1, h.2, rfl, stepRight _ _ _ _ _ _ h.1 hr⟩)
    · exact .inl h
  go_enter Try.func9, Try.ntmps9
  go_wp2
  have hw : Below w.heap.size w w := Below.refl _ _
  have hbel := hw
  have k0 : (w.alloc (.cells #[.bool on, .int .i64 calm] 45)).cell? ⟨w.heap.size, 0, none⟩ = some (.bool on) := by first | (simp; done) | (rw [World.cell?_alloc_at _ _ _ _ (by simp)]; rfl) | (rw [World.cell?_alloc_past _ _ _ (by simp <;> omega), World.cell?_alloc_at _ _ _ _ (by simp)]; rfl) | (rw [World.cell?_alloc_past _ _ _ (by simp <;> omega), World.cell?_alloc_past _ _ _ (by simp <;> omega), World.cell?_alloc_at _ _ _ _ (by simp)]; rfl)
  have k1 : (w.alloc (.cells #[.bool on, .int .i64 calm] 45)).cell? ⟨w.heap.size, 1, none⟩ = some (.int .i64 calm) := by first | (simp; done) | (rw [World.cell?_alloc_at _ _ _ _ (by simp)]; rfl) | (rw [World.cell?_alloc_past _ _ _ (by simp <;> omega), World.cell?_alloc_at _ _ _ _ (by simp)]; rfl) | (rw [World.cell?_alloc_past _ _ _ (by simp <;> omega), World.cell?_alloc_past _ _ _ (by simp <;> omega), World.cell?_alloc_at _ _ _ _ (by simp)]; rfl)
  have hb2 := (by repeat (first | exact hbel | refine belAlloc ?_ _ | refine belDrew ?_ | refine belSet ?_ _ _ (by simp)) : Below w.heap.size w (w.alloc (.cells #[.bool on, .int .i64 calm] 45)))
  replace hw := belStep hw hb2
  clear hb2 hbel
  generalize w.alloc (.cells #[.bool on, .int .i64 calm] 45) = W at *
  replace k0 := keep k0
  replace k1 := keep k1
  have hbel : Below W.heap.size W W := Below.refl _ _
  have kk := fun d os => belStep hbel (below_regrown _ d os)
  refine wp_region_quiet_below (by kernel_rfl) (by kernel_rfl) ?_
  repeat (quiet_step (first | (go_at_call 24; exact Calls.regrown_of (awake19 _)) | (go_at_call 25; exact Calls.regrown_of (cond_Right _ _ _ _)) | (go_at_call 26; exact Calls.regrown_of (cref_Right _ _ _ _))))
  refine wpQuiet_nil (fun w1 hw1 => ?_)
  replace hbel := belStep hbel (bel_of_class hw1)
  clear hw1 kk
  rcases key with hp | ⟨hp, hq, hr⟩ | ⟨hp, hq, hr, hs⟩
  · go_wp2_with (first | (go_at_call 27; refine (period_any _ _).mono ?_; rintro e w' ⟨rfl, rfl⟩) | (go_at_call 26; refine (cref_Right _ _ _ _).mono ?_; rintro e w1 ⟨rfl, hb1⟩; replace hbel := belStep hbel hb1; clear hb1))
    go_ret
    exact ⟨rfl, belStep hw hbel⟩
  · go_wp2_with (first | (go_at_call 27; refine (period_any _ _).mono ?_; rintro e w' ⟨rfl, rfl⟩) | (go_at_call 26; refine (cref_Right _ _ _ _).mono ?_; rintro e w1 ⟨rfl, hb1⟩; replace hbel := belStep hbel hb1; clear hb1))
    go_ret
    exact ⟨rfl, belStep hw hbel⟩
  · have c0 : 0 ≤ calm := by cases on <;> simp [rightC] at hr <;> omega
    have c1 : calm < 9223372036854775807 := by cases on <;> simp [rightC] at hr <;> omega
    have c2 : if on then calm < n else calm = 0 := by cases on <;> simp [rightC] at hr ⊢ <;> omega
    have C2 := Lib.hid c2
    clear c2
    go_wp2_with (first | (go_at_call 27; refine (period_any _ _).mono ?_; rintro e w' ⟨rfl, rfl⟩) | (go_at_call 26; refine (cref_Right _ _ _ _).mono ?_; rintro e w1 ⟨rfl, hb1⟩; replace hbel := belStep hbel hb1; clear hb1) | (go_at_call 28; refine (cond_Step _ _ _ _ _ _ _ c0 c1).mono ?_; rintro e w1 ⟨rfl, hb1⟩; replace hbel := belStep hbel hb1; clear hb1))
    have k2 : (w1.alloc (.cells #[.bool (stepOn on calm holds met fresh n), .int .i64 (stepCalm on calm holds met fresh n)] 45)).cell? ⟨w1.heap.size, 0, none⟩ = some (.bool (stepOn on calm holds met fresh n)) := by first | (simp; done) | (rw [World.cell?_alloc_at _ _ _ _ (by simp)]; rfl) | (rw [World.cell?_alloc_past _ _ _ (by simp <;> omega), World.cell?_alloc_at _ _ _ _ (by simp)]; rfl) | (rw [World.cell?_alloc_past _ _ _ (by simp <;> omega), World.cell?_alloc_past _ _ _ (by simp <;> omega), World.cell?_alloc_at _ _ _ _ (by simp)]; rfl)
    have k3 : (w1.alloc (.cells #[.bool (stepOn on calm holds met fresh n), .int .i64 (stepCalm on calm holds met fresh n)] 45)).cell? ⟨w1.heap.size, 1, none⟩ = some (.int .i64 (stepCalm on calm holds met fresh n)) := by first | (simp; done) | (rw [World.cell?_alloc_at _ _ _ _ (by simp)]; rfl) | (rw [World.cell?_alloc_past _ _ _ (by simp <;> omega), World.cell?_alloc_at _ _ _ _ (by simp)]; rfl) | (rw [World.cell?_alloc_past _ _ _ (by simp <;> omega), World.cell?_alloc_past _ _ _ (by simp <;> omega), World.cell?_alloc_at _ _ _ _ (by simp)]; rfl)
    have hb2 := (by repeat (first | exact hbel | refine belAlloc ?_ _ | refine belDrew ?_ | refine belSet ?_ _ _ (by simp)) : Below W.heap.size W (w1.alloc (.cells #[.bool (stepOn on calm holds met fresh n), .int .i64 (stepCalm on calm holds met fresh n)] 45)))
    replace k0 := keepOn k0 hb2
    replace k1 := keepOn k1 hb2
    replace hw := belStep hw hb2
    clear hb2 hbel
    generalize w1.alloc (.cells #[.bool (stepOn on calm holds met fresh n), .int .i64 (stepCalm on calm holds met fresh n)] 45) = W2 at *
    replace k2 := keep k2
    replace k3 := keep k3
    have hbel : Below W2.heap.size W2 W2 := Below.refl _ _
    have kk := fun d os => belStep hbel (below_regrown _ d os)
    refine wp_region_quiet_below (by kernel_rfl) (by kernel_rfl) ?_
    repeat (quiet_step (first | (go_at_call 29; exact Calls.regrown_of (cref_Step _ _ _ _ _ _ _ c0 c1 C2.out)) | (go_at_call 25; exact Calls.regrown_of (cond_Right _ _ _ _))))
    refine wpQuiet_nil (fun w1 hw1 => ?_)
    replace hbel := belStep hbel (bel_of_class hw1)
    clear hw1 kk
    go_wp2
    go_ret
    exact ⟨rfl, belStep hw hbel⟩

set_option maxRecDepth 100000 in
theorem lifted (os : Os) (started : os.Started) (H : Type) (enc : TypeId × Value → H) :
    ReturnsInHanded {} Try.checked os 9 .any (Rows.condStepsSpec.pre6 enc Try.prog Try.f9 Rows.condStepsRow.domain false) (Rows.condStepsSpec.post enc Try.prog Try.f9 false true false false) := by
  refine returnsInHanded_of_change (C := Try.checked) own started (by kernel_rfl) Try.func9
    (ChangeSpec.witness6 (enc := enc) (C := Try.checked) false ⟨#[], #[.agg #[.bool false, .int .i64 0], .bool false, .bool false, .bool false, .int .i64 0], []⟩ 8 (by kernel_rfl) (by kernel_rfl) (by kernel_rfl) (by kernel_rfl)) ?_
  intro W base args ds gs before hval0 hW hcnd _
  have hval : ∀ (j : Nat) t v, Try.f9.params[j]? = some t → args[j]? = some v → Value.okWide Try.prog W .any base t v := hval0
  have hW' := hW
  obtain ⟨p, q, hA0, hV, rfl, hfz, hnd⟩ := hW
  have hA : DataW.TrodAll enc Try.prog W 0 (fun _ => true) true Try.f9.params.toList args.toList ds p := hA0
  rw [Try.params9] at hA hval
  obtain ⟨v0, vs0, d0, ds0, p0, q0, hargs, rfl, rfl, h0, r0⟩ := trodAll_cons hA
  obtain ⟨v1, vs1, d1, ds1, p1, q1, rfl, rfl, rfl, h1, r1⟩ := trodAll_cons r0
  obtain ⟨v2, vs2, d2, ds2, p2, q2, rfl, rfl, rfl, h2, r2⟩ := trodAll_cons r1
  obtain ⟨v3, vs3, d3, ds3, p3, q3, rfl, rfl, rfl, h3, r3⟩ := trodAll_cons r2
  obtain ⟨v4, vs4, d4, ds4, p4, q4, rfl, rfl, rfl, h4, r4⟩ := trodAll_cons r3
  obtain ⟨rfl, rfl, rfl⟩ := trodAll_nil r4
  obtain rfl : args = #[v0, v1, v2, v3, v4] := by cases args; simp_all
  obtain ⟨rfl, rfl⟩ := trodVars_none hV
  have k0 := h0
  have lt0 : ∀ x ∈ p0, x.block < W.heap.size := by obtain ⟨m, hm⟩ := k0; exact DataW.trod_lt m _ _ _ hm
  have o0 : Value.okWide Try.prog W .any base 45 v0 := hval 0 45 v0 rfl rfl
  obtain ⟨on0, calm0, rfl, f0⟩ := open_cond o0 h0
  have k1 := h1
  have lt1 : ∀ x ∈ p1, x.block < W.heap.size := by obtain ⟨m, hm⟩ := k1; exact DataW.trod_lt m _ _ _ hm
  have o1 : Value.okWide Try.prog W .any base 4 v1 := hval 1 4 v1 rfl rfl
  obtain ⟨a1, rfl, rfl, rfl⟩ := open_bool Try.underlying4 o1 h1
  have k2 := h2
  have lt2 : ∀ x ∈ p2, x.block < W.heap.size := by obtain ⟨m, hm⟩ := k2; exact DataW.trod_lt m _ _ _ hm
  have o2 : Value.okWide Try.prog W .any base 4 v2 := hval 2 4 v2 rfl rfl
  obtain ⟨a2, rfl, rfl, rfl⟩ := open_bool Try.underlying4 o2 h2
  have k3 := h3
  have lt3 : ∀ x ∈ p3, x.block < W.heap.size := by obtain ⟨m, hm⟩ := k3; exact DataW.trod_lt m _ _ _ hm
  have o3 : Value.okWide Try.prog W .any base 4 v3 := hval 3 4 v3 rfl rfl
  obtain ⟨a3, rfl, rfl, rfl⟩ := open_bool Try.underlying4 o3 h3
  have k4 := h4
  have lt4 : ∀ x ∈ p4, x.block < W.heap.size := by obtain ⟨m, hm⟩ := k4; exact DataW.trod_lt m _ _ _ hm
  have o4 : Value.okWide Try.prog W .any base 3 v4 := hval 4 3 v4 rfl rfl
  obtain ⟨a4, rfl, rfl, rfl, w4⟩ := open_int Try.underlying3 o4 h4
  clear hA0 hval0
  refine (walk on0 calm0 a1 a2 a3 a4 W f0 (inI_of_wf w4)).mono fun e W' ⟨he, bel⟩ => ?_
  subst he
  exact ⟨_, rfl, _, _, _, [], _, [], hW', trodAll_mk1 (shut_bool Try.underlying4 _), (trodAll_cons_mk (Below.trod laidOut (by kernel_rfl) (of_decide_eq_true (by kernel_rfl)) k0 bel lt0) (trodAll_cons_mk (Below.trod laidOut (by kernel_rfl) (of_decide_eq_true (by kernel_rfl)) k1 bel lt1) (trodAll_cons_mk (Below.trod laidOut (by kernel_rfl) (of_decide_eq_true (by kernel_rfl)) k2 bel lt2) (trodAll_cons_mk (Below.trod laidOut (by kernel_rfl) (of_decide_eq_true (by kernel_rfl)) k3 bel lt3) (trodAll_cons_mk (Below.trod laidOut (by kernel_rfl) (of_decide_eq_true (by kernel_rfl)) k4 bel lt4) trodAll_mk0))))), rfl, bel.frame _, fun h => by cases h⟩

theorem over : Rows.condStepsRow.holds Try.pinned (OpenSpec.ofChange Rows.condStepsSpec) :=
  OpenClaim.holds_of_wide 9 Try.f9 rfl rfl rfl rfl rfl rfl rfl ⟨rfl, rfl, rfl, rfl, rfl⟩ rfl rfl rfl rfl rfl (by kernel_rfl) Try.func9 (by kernel_rfl)
    (of_decide_eq_true (by kernel_rfl)) (by unfold Func.isWrapper; first | (rw [if_pos (by decide +kernel)]; kernel_rfl) | (rw [if_neg (by decide +kernel)]; exact ⟨rfl, rfl⟩))
    (fun os started H enc _ => lifted os started H enc)

/-- The statement. -/
theorem proved : Rows.CondStepsSaid := over
#print axioms proved

end Go.Proofs.Ythhpkmpaldcloaa.condSteps
