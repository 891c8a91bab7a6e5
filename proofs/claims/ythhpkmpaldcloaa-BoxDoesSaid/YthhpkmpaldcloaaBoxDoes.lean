/- BoxDoes holds for every container, every int that is asked, and every number of retries. No conditions. -/
import Derived.Test.YthhpkmpaldcloaaAwake14
namespace Go.Proofs.Ythhpkmpaldcloaa.boxDoes
open Go.ChangeShapes Go.WideShapes Go.ChangeAt Go.RowKit
open Go.ChangeMaps (open_string shut_string)
set_option linter.unusedVariables false

set_option maxRecDepth 100000 in
set_option maxHeartbeats 4000000 in
theorem walk (s t k : Int) (well : Bool) (r : Int) (w : World) (hs : InI s) (ht : InI t) (hk : InI k) (hr : InI r) :
    Calls Try.prog 3 #[.agg #[.int .i64 s, .int .i64 t], .int .i64 k, .bool well, .int .i64 r] w fun e w' => e = .returned (.bool true) ∧ Below w.heap.size w w' := by
  obtain ⟨s', es⟩ : ∃ y, doS s t k well r = y := ⟨_, rfl⟩
  obtain ⟨t', et⟩ : ∃ y, doN s t k well r = y := ⟨_, rfl⟩
  have cd := fun v => box_Do s t k well r v hs ht hk
  have cr := fun v => bref_Do s t k well r v ht
  have cm := fun v => box_May s t k v hs hk
  have co := fun v => box_Over s t v
  have ct := fun v => bref_To s k v
  rw [es, et] at cd cr
  have key : (toS s k = 0 ∧ (toS s k != 0) = false ∧ doE s k = 7) ∨ (toS s k ≠ 0 ∧ (toS s k != 0) = true ∧ doE s k = 0) := by unfold doE; by_cases h : toS s k = 0 <;> simp [h]
  have key2 : ((s == 5) = true ∧ (s == 6) = false ∧ (s == 5 || s == 6) = true) ∨ ((s == 5) = false ∧ (s == 6) = true ∧ (s == 5 || s == 6) = true) ∨ ((s == 5) = false ∧ (s == 6) = false ∧ (s == 5 || s == 6) = false) := by
    by_cases h : s = 5
    · exact .inl ⟨by simp [h], by simp [h], by simp [h]⟩
    · by_cases h' : s = 6
      · exact .inr (.inl ⟨by simp [h], by simp [h'], by simp [h']⟩)
      · exact .inr (.inr ⟨by simp [h], by simp [h'], by simp [h, h']⟩)
  obtain ⟨o, eo⟩ : ∃ y, toS s k = y := ⟨_, rfl⟩
  rw [eo] at key
  simp only [eo] at cm cr ct
  rcases key with ⟨h0, h1, h2⟩ | ⟨h0, h1, h2⟩ <;> rcases key2 with ⟨g0, g3, g1⟩ | ⟨g0, g3, g1⟩ | ⟨g0, g3, g1⟩
  all_goals
    simp only [h1] at cm cr
    simp only [h2] at cd
    simp only [g1] at co
    have CD := Lib.hid cd
    have CR := Lib.hid cr
    have CM := Lib.hid cm
    have CO := Lib.hid co
    have CT := Lib.hid ct
    clear cd cr cm co ct h1 h2 g1
    have hw : Below w.heap.size w w := Below.refl _ _
    have hbel := hw
    go_enter Try.func3, Try.ntmps3
    go_upto_region 1 with fail
    have a0 : (w.alloc (.cells #[.int .i64 s, .int .i64 t] 23)).cell? ⟨w.heap.size, 0, none⟩ = some (.int .i64 s) := by first | (simp; done) | (rw [World.cell?_alloc_at _ _ _ _ (by simp)]; rfl) | (rw [World.cell?_alloc_past _ _ _ (by simp <;> omega), World.cell?_alloc_at _ _ _ _ (by simp)]; rfl) | (rw [World.cell?_alloc_past _ _ _ (by simp <;> omega), World.cell?_alloc_past _ _ _ (by simp <;> omega), World.cell?_alloc_at _ _ _ _ (by simp)]; rfl)
    have a1 : (w.alloc (.cells #[.int .i64 s, .int .i64 t] 23)).cell? ⟨w.heap.size, 1, none⟩ = some (.int .i64 t) := by first | (simp; done) | (rw [World.cell?_alloc_at _ _ _ _ (by simp)]; rfl) | (rw [World.cell?_alloc_past _ _ _ (by simp <;> omega), World.cell?_alloc_at _ _ _ _ (by simp)]; rfl) | (rw [World.cell?_alloc_past _ _ _ (by simp <;> omega), World.cell?_alloc_past _ _ _ (by simp <;> omega), World.cell?_alloc_at _ _ _ _ (by simp)]; rfl)
    have hb2 := (by repeat (first | exact hbel | refine belAlloc ?_ _ | refine belDrew ?_ | refine belSet ?_ _ _ (by simp)) : Below w.heap.size w (w.alloc (.cells #[.int .i64 s, .int .i64 t] 23)))
    replace hw := belStep hw hb2
    clear hb2 hbel
    generalize w.alloc (.cells #[.int .i64 s, .int .i64 t] 23) = W1 at *
    replace a0 := keep a0
    replace a1 := keep a1
    have hbel : Below W1.heap.size W1 W1 := Below.refl _ _
    skip
    go_upto_region 4 with (first | (go_at_call 16; (with_reducible refine (awake14 _).mono ?_); rintro e w1 ⟨rfl, hb1⟩; replace hbel := belStep hbel hb1; clear hb1) | (go_at_call 17; (with_reducible refine (CD.out _).mono ?_); rintro e w1 ⟨rfl, hb1⟩; replace hbel := belStep hbel hb1; clear hb1))
    have b0 : (w1.alloc (.cells #[.int .i64 s', .int .i64 t'] 23)).cell? ⟨w1.heap.size, 0, none⟩ = some (.int .i64 s') := by first | (simp; done) | (rw [World.cell?_alloc_at _ _ _ _ (by simp)]; rfl) | (rw [World.cell?_alloc_past _ _ _ (by simp <;> omega), World.cell?_alloc_at _ _ _ _ (by simp)]; rfl) | (rw [World.cell?_alloc_past _ _ _ (by simp <;> omega), World.cell?_alloc_past _ _ _ (by simp <;> omega), World.cell?_alloc_at _ _ _ _ (by simp)]; rfl)
    have b1 : (w1.alloc (.cells #[.int .i64 s', .int .i64 t'] 23)).cell? ⟨w1.heap.size, 1, none⟩ = some (.int .i64 t') := by first | (simp; done) | (rw [World.cell?_alloc_at _ _ _ _ (by simp)]; rfl) | (rw [World.cell?_alloc_past _ _ _ (by simp <;> omega), World.cell?_alloc_at _ _ _ _ (by simp)]; rfl) | (rw [World.cell?_alloc_past _ _ _ (by simp <;> omega), World.cell?_alloc_past _ _ _ (by simp <;> omega), World.cell?_alloc_at _ _ _ _ (by simp)]; rfl)
    have hb2 := (by repeat (first | exact hbel | refine belAlloc ?_ _ | refine belDrew ?_ | refine belSet ?_ _ _ (by simp)) : Below W1.heap.size W1 (w1.alloc (.cells #[.int .i64 s', .int .i64 t'] 23)))
    replace a0 := keepOnP a0 hb2
    replace a1 := keepOnP a1 hb2
    replace hw := belStep hw hb2
    clear hb2 hbel
    generalize w1.alloc (.cells #[.int .i64 s', .int .i64 t'] 23) = W2 at *
    replace b0 := keep b0
    replace b1 := keep b1
    generalize w1.heap.size = n2 at *
    have hbel : Below W2.heap.size W2 W2 := Below.refl _ _
    clear w1
    go_upto_region 5 with (first | (go_at_call 18; (with_reducible refine (CR.out _).mono ?_); rintro e w1 ⟨rfl, hb1⟩; replace hbel := belStep hbel hb1; clear hb1))
    have c0 : (w1.alloc (.cells #[.int .i64 s', .int .i64 t'] 23)).cell? ⟨w1.heap.size, 0, none⟩ = some (.int .i64 s') := by first | (simp; done) | (rw [World.cell?_alloc_at _ _ _ _ (by simp)]; rfl) | (rw [World.cell?_alloc_past _ _ _ (by simp <;> omega), World.cell?_alloc_at _ _ _ _ (by simp)]; rfl) | (rw [World.cell?_alloc_past _ _ _ (by simp <;> omega), World.cell?_alloc_past _ _ _ (by simp <;> omega), World.cell?_alloc_at _ _ _ _ (by simp)]; rfl)
    have c1 : (w1.alloc (.cells #[.int .i64 s', .int .i64 t'] 23)).cell? ⟨w1.heap.size, 1, none⟩ = some (.int .i64 t') := by first | (simp; done) | (rw [World.cell?_alloc_at _ _ _ _ (by simp)]; rfl) | (rw [World.cell?_alloc_past _ _ _ (by simp <;> omega), World.cell?_alloc_at _ _ _ _ (by simp)]; rfl) | (rw [World.cell?_alloc_past _ _ _ (by simp <;> omega), World.cell?_alloc_past _ _ _ (by simp <;> omega), World.cell?_alloc_at _ _ _ _ (by simp)]; rfl)
    have hb2 := (by repeat (first | exact hbel | refine belAlloc ?_ _ | refine belDrew ?_ | refine belSet ?_ _ _ (by simp)) : Below W2.heap.size W2 (w1.alloc (.cells #[.int .i64 s', .int .i64 t'] 23)))
    replace a0 := keepOnP a0 hb2
    replace a1 := keepOnP a1 hb2
    replace b0 := keepOnP b0 hb2
    replace b1 := keepOnP b1 hb2
    replace hw := belStep hw hb2
    clear hb2 hbel
    generalize w1.alloc (.cells #[.int .i64 s', .int .i64 t'] 23) = W3 at *
    replace c0 := keep c0
    replace c1 := keep c1
    generalize w1.heap.size = n3 at *
    have hbel : Below W3.heap.size W3 W3 := Below.refl _ _
    clear w1
    have kk := fun d os => belStep hbel (below_regrown _ d os)
    refine wp_region_quiet_below (by kernel_rfl) (by kernel_rfl) ?_
    repeat (quiet_step (first | (go_at_call 19; exact Calls.regrown_of (CM.out _)) | (go_at_call 20; exact regrown_of_eq (CT.out _)) | (go_at_call 21; exact Calls.regrown_of (CO.out _))))
    refine wpQuiet_nil (fun w1 hw1 => ?_)
    replace hbel := belStep hbel (bel_of_class hw1)
    clear hw1 kk
    go_wp2
    go_ret
    exact ⟨ret_bool (by first | rfl | simp [*]), belStep hw hbel⟩

set_option maxRecDepth 100000 in
theorem lifted (os : Os) (started : os.Started) (H : Type) (enc : TypeId × Value → H) :
    ReturnsInHanded {} Try.checked os 3 .any (Rows.boxDoesSpec.pre6 enc Try.prog Try.f3 Rows.boxDoesRow.domain false) (Rows.boxDoesSpec.post enc Try.prog Try.f3 false true false false) := by
  refine returnsInHanded_of_change (C := Try.checked) own started (by kernel_rfl) Try.func3
    (ChangeSpec.witness6 (enc := enc) (C := Try.checked) false ⟨#[], #[.agg #[.int .i64 0, .int .i64 0], .int .i64 0, .bool false, .int .i64 0], []⟩ 8 (by kernel_rfl) (by kernel_rfl) (by kernel_rfl) (by kernel_rfl)) ?_
  intro W base args ds gs before hval0 hW hcnd _
  have hval : ∀ (j : Nat) t v, Try.f3.params[j]? = some t → args[j]? = some v → Value.okWide Try.prog W .any base t v := hval0
  have hW' := hW
  obtain ⟨p, q, hA0, hV, rfl, hfz, hnd⟩ := hW
  have hA : DataW.TrodAll enc Try.prog W 0 (fun _ => true) true Try.f3.params.toList args.toList ds p := hA0
  rw [Try.params3] at hA hval
  obtain ⟨v0, vs0, d0, ds0, p0, q0, hargs, rfl, rfl, h0, r0⟩ := trodAll_cons hA
  obtain ⟨v1, vs1, d1, ds1, p1, q1, rfl, rfl, rfl, h1, r1⟩ := trodAll_cons r0
  obtain ⟨v2, vs2, d2, ds2, p2, q2, rfl, rfl, rfl, h2, r2⟩ := trodAll_cons r1
  obtain ⟨v3, vs3, d3, ds3, p3, q3, rfl, rfl, rfl, h3, r3⟩ := trodAll_cons r2
  obtain ⟨rfl, rfl, rfl⟩ := trodAll_nil r3
  obtain rfl : args = #[v0, v1, v2, v3] := by cases args; simp_all
  obtain ⟨rfl, rfl⟩ := trodVars_none hV
  have k0 := h0
  have lt0 : ∀ x ∈ p0, x.block < W.heap.size := by obtain ⟨m, hm⟩ := k0; exact DataW.trod_lt m _ _ _ hm
  have o0 : Value.okWide Try.prog W .any base 23 v0 := hval 0 23 v0 rfl rfl
  obtain ⟨s0, t0, rfl, f0, g0⟩ := open_box o0 h0
  have k1 := h1
  have lt1 : ∀ x ∈ p1, x.block < W.heap.size := by obtain ⟨m, hm⟩ := k1; exact DataW.trod_lt m _ _ _ hm
  have o1 : Value.okWide Try.prog W .any base 3 v1 := hval 1 3 v1 rfl rfl
  obtain ⟨a1, rfl, rfl, rfl, w1⟩ := open_int Try.underlying3 o1 h1
  have k2 := h2
  have lt2 : ∀ x ∈ p2, x.block < W.heap.size := by obtain ⟨m, hm⟩ := k2; exact DataW.trod_lt m _ _ _ hm
  have o2 : Value.okWide Try.prog W .any base 4 v2 := hval 2 4 v2 rfl rfl
  obtain ⟨a2, rfl, rfl, rfl⟩ := open_bool Try.underlying4 o2 h2
  have k3 := h3
  have lt3 : ∀ x ∈ p3, x.block < W.heap.size := by obtain ⟨m, hm⟩ := k3; exact DataW.trod_lt m _ _ _ hm
  have o3 : Value.okWide Try.prog W .any base 3 v3 := hval 3 3 v3 rfl rfl
  obtain ⟨a3, rfl, rfl, rfl, w3⟩ := open_int Try.underlying3 o3 h3
  clear hA0 hval0
  refine (walk s0 t0 a1 a2 a3 W f0 g0 (inI_of_wf w1) (inI_of_wf w3)).mono fun e W' ⟨he, bel⟩ => ?_
  subst he
  exact ⟨_, rfl, _, _, _, [], _, [], hW', trodAll_mk1 (shut_bool Try.underlying4 _), (trodAll_cons_mk (Below.trod laidOut (by kernel_rfl) (of_decide_eq_true (by kernel_rfl)) k0 bel lt0) (trodAll_cons_mk (Below.trod laidOut (by kernel_rfl) (of_decide_eq_true (by kernel_rfl)) k1 bel lt1) (trodAll_cons_mk (Below.trod laidOut (by kernel_rfl) (of_decide_eq_true (by kernel_rfl)) k2 bel lt2) (trodAll_cons_mk (Below.trod laidOut (by kernel_rfl) (of_decide_eq_true (by kernel_rfl)) k3 bel lt3) trodAll_mk0)))), rfl, bel.frame _, fun h => by cases h⟩

theorem over : Rows.boxDoesRow.holds Try.pinned (OpenSpec.ofChange Rows.boxDoesSpec) :=
  OpenClaim.holds_of_wide 3 Try.f3 rfl rfl rfl rfl rfl rfl rfl ⟨rfl, rfl, rfl, rfl, rfl⟩ rfl rfl rfl rfl rfl (by kernel_rfl) Try.func3 (by kernel_rfl)
    (of_decide_eq_true (by kernel_rfl)) (by unfold Func.isWrapper; first | (rw [if_pos (by decide +kernel)]; kernel_rfl) | (rw [if_neg (by decide +kernel)]; exact ⟨rfl, rfl⟩))
    (fun os started H enc _ => lifted os started H enc)

/-- The statement. -/
theorem proved : Rows.BoxDoesSaid := over
#print axioms proved

end Go.Proofs.Ythhpkmpaldcloaa.boxDoes
