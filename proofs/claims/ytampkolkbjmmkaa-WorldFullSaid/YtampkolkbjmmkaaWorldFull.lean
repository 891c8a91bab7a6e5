
/- WorldFull holds for all its arguments. No conditions. -/
import Derived.Test.YtampkolkbjmmkaaAwake16
import Derived.Test.YtampkolkbjmmkaaWl3
namespace Go.Proofs.Ytampkolkbjmmkaa.worldFull
open Go.ChangeShapes Go.WideShapes Go.ChangeAt Go.RowKit
open Go.ChangeMaps (open_string shut_string)
set_option linter.unusedVariables false
set_option linter.unusedSimpArgs false
open Go.Sort
set_option maxRecDepth 100000 in
set_option maxHeartbeats 16000000 in
theorem walk (a0 : Int) (d : Option Addr) (wl wc : Nat) (V : List Bool) (w : World) (ha : 0 ≤ a0 ∧ a0 ≤ 65535) (hV : Bools w d wl wc V) :
    Calls Try.prog 17 #[.int .u16 a0, .slice d wl wc] w fun e w' => e = .returned (.bool true) ∧ Below w.heap.size w w' := by
  have hw : Below w.heap.size w w := Below.refl _ _
  have hbel := hw
  have hbv : wl ≤ wc ∧ wc ≤ 9223372036854775807 := by obtain ⟨_, h1, h2, _⟩ := (bools_row hV).2; unfold maxLen at h2; exact ⟨h1, h2⟩
  obtain ⟨hbv1, hbv2⟩ := hbv
  have HVL := Lib.hid (bools_row hV).1
  have HRV := Lib.hid (bools_row hV).2
  clear hV
  obtain ⟨h0, h9⟩ := ha
  obtain ⟨k, hk, _, hkl⟩ := turn_to (n := 4097) h0 (by omega)
  have hk2 : Int.tmod a0 4097 = (k : Int) := hk
  clear hk
  have hcv : IntKind.i64.wrap a0 = a0 := IntWalk.i64_in _ (by omega)
  have hck : IntKind.i64.wrap (k : Int) = (k : Int) := IntWalk.i64_in _ (by omega)
  obtain ⟨M, hM⟩ : ∃ M, w.heap.size = M := ⟨_, rfl⟩
  go_enter Try.func17, Try.ntmps17
  by_cases h5 : 5000 < wl
  · have t5 : decide (5000 < (wl : Int)) = true := decide_eq_true (by omega)
    have t6 : (5000 : Int) < (wl : Int) := by omega
    go_wp2_with (first | (go_at_call 37; (with_reducible refine (awake16 _).mono ?_); rintro e w1 ⟨rfl, hb1⟩; replace hbel := belStep hbel hb1; clear hb1))
    go_ret
    exact ⟨rfl, hbel⟩
  · have t5 : decide (5000 < (wl : Int)) = false := decide_eq_false (by omega)
    have t6 : ¬ (5000 : Int) < (wl : Int) := by omega
    have hwl : wl ≤ 5000 := by omega
    go_upto_region 5 with (first | (go_at_call 37; (with_reducible refine (awake16 _).mono ?_); rintro e w1 ⟨rfl, hb1⟩; replace hbel := belStep hbel hb1; clear hb1) | (go_at_call 39; (with_reducible refine (wl_NewM 0 w _ hbel).mono ?_); rintro e w1 ⟨M, rfl, hS_, hb_⟩; have HS := Lib.hid hS_; clear hS_ hb_))
    clear hbel hk2 hcv hck h0 h9 t5 t6 h5
    have HF := Lib.hid (show feedE ⟨0, [], [], []⟩ (List.replicate k false) = 0 ∧ (⟨0, [], [], []⟩ : WorldV).fed (List.replicate k false) = ⟨0, List.replicate k false, [], []⟩ by unfold feedE WorldV.fed; rw [rep_len, if_neg (by simp; omega), if_neg (by simp; omega)]; exact ⟨rfl, rfl⟩)
    have C1 := Lib.hid (fun u M d c (h : WL w u M [] ⟨0, [], [], []⟩) hr => wl_Feed w u M [] ⟨0, [], [], []⟩ 0 h (good_new 0) (by omega) d k c (List.replicate k false) 0 _ (rep_len k false) hr (by omega) HF.out.1 HF.out.2)
    have hbel := HS.out.below
    refine wp_region_held_drew (S := fun u => Below w.heap.size w u) (by kernel_rfl) (by exact (show Below w.heap.size w _ by repeat (first | assumption | exact Below.refl _ _ | refine belDrew ?_ | refine belAlloc ?_ _ | refine belStep ?_ (by assumption)))) (fun hHeld => ?_)
    refine wpAnyH_take (i := 0) (oi := ?oi_k1) (v := ?v_k1) ?hi_k1 (by kernel_rfl) ?hf_k1 ?hr_k1 ?hQ_k1 (Or.inl ⟨?hw_k1, ?hy_k1⟩) (by assumption) ?rest_k1
    case hi_k1 => ((simp only [List.getElem?_toArray, List.getElem?_cons_succ, List.getElem?_cons_zero]); rfl)
    case hf_k1 => kernel_rfl
    case hr_k1 => kernel_rfl
    case hQ_k1 => exact fun _ _ _ h => h
    case hw_k1 => rfl
    case hy_k1 => ((intro w hSw; (try dsimp only at hSw); go_simp); all_goals (with_reducible rfl))
    try simp only [Act.put, List.setIfInBounds_toArray, List.set_cons_zero, List.set_cons_succ]
    refine wpAnyH_take (i := 1) (oi := ?oi_k2) (v := ?v_k2) ?hi_k2 (by kernel_rfl) ?hf_k2 ?hr_k2 ?hQ_k2 (Or.inl ⟨?hw_k2, ?hy_k2⟩) (by assumption) ?rest_k2
    case hi_k2 => ((simp only [List.getElem?_toArray, List.getElem?_cons_succ, List.getElem?_cons_zero]); rfl)
    case hf_k2 => kernel_rfl
    case hr_k2 => kernel_rfl
    case hQ_k2 => exact fun _ _ _ h => h
    case hw_k2 => rfl
    case hy_k2 => ((intro w hSw; (try dsimp only at hSw); go_simp); all_goals (with_reducible rfl))
    try simp only [Act.put, List.setIfInBounds_toArray, List.set_cons_zero, List.set_cons_succ]
    refine wpAnyH_take (i := 2) (oi := ?oi_k3) (v := ?v_k3) ?hi_k3 (by kernel_rfl) ?hf_k3 ?hr_k3 ?hQ_k3 (Or.inl ⟨?hw_k3, ?hy_k3⟩) (by assumption) ?rest_k3
    case hi_k3 => ((simp only [List.getElem?_toArray, List.getElem?_cons_succ, List.getElem?_cons_zero]); rfl)
    case hf_k3 => kernel_rfl
    case hr_k3 => kernel_rfl
    case hQ_k3 => exact fun _ _ _ h => h
    case hw_k3 => rfl
    case hy_k3 => ((intro w hSw; (try dsimp only at hSw); go_simp); all_goals (with_reducible rfl))
    try simp only [Act.put, List.setIfInBounds_toArray, List.set_cons_zero, List.set_cons_succ]
    refine wpAnyH_take (i := 3) (oi := ?oi_k4) (v := ?v_k4) ?hi_k4 (by kernel_rfl) ?hf_k4 ?hr_k4 ?hQ_k4 (Or.inl ⟨?hw_k4, ?hy_k4⟩) (by assumption) ?rest_k4
    case hi_k4 => ((simp only [List.getElem?_toArray, List.getElem?_cons_succ, List.getElem?_cons_zero]); rfl)
    case hf_k4 => kernel_rfl
    case hr_k4 => kernel_rfl
    case hQ_k4 => exact fun _ _ _ h => h
    case hw_k4 => rfl
    case hy_k4 => ((intro w hSw; (try dsimp only at hSw); go_simp); all_goals (with_reducible rfl))
    try simp only [Act.put, List.setIfInBounds_toArray, List.set_cons_zero, List.set_cons_succ]
    refine wpAnyH_take (i := 4) (oi := ?oi_k5) (v := ?v_k5) ?hi_k5 (by kernel_rfl) ?hf_k5 ?hr_k5 ?hQ_k5 (Or.inl ⟨?hw_k5, ?hy_k5⟩) (by assumption) ?rest_k5
    case hi_k5 => ((simp only [List.getElem?_toArray, List.getElem?_cons_succ, List.getElem?_cons_zero]); rfl)
    case hf_k5 => kernel_rfl
    case hr_k5 => kernel_rfl
    case hQ_k5 => exact fun _ _ _ h => h
    case hw_k5 => rfl
    case hy_k5 => ((intro w hSw; (try dsimp only at hSw); go_simp); all_goals (with_reducible rfl))
    try simp only [Act.put, List.setIfInBounds_toArray, List.set_cons_zero, List.set_cons_succ]
    refine wpAnyH_take (i := 5) (oi := ?oi_k6) (v := ?v_k6) ?hi_k6 (by kernel_rfl) ?hf_k6 ?hr_k6 ?hQ_k6 (Or.inl ⟨?hw_k6, ?hy_k6⟩) (by assumption) ?rest_k6
    case hi_k6 => ((simp only [List.getElem?_toArray, List.getElem?_cons_succ, List.getElem?_cons_zero]); rfl)
    case hf_k6 => kernel_rfl
    case hr_k6 => kernel_rfl
    case hQ_k6 => exact fun _ _ _ h => h
    case hw_k6 => rfl
    case hy_k6 => ((intro w hSw; (try dsimp only at hSw); go_simp); all_goals (with_reducible rfl))
    try simp only [Act.put, List.setIfInBounds_toArray, List.set_cons_zero, List.set_cons_succ]
    refine wpAnyH_take (i := 6) (oi := ?oi_k7) (v := ?v_k7) ?hi_k7 (by kernel_rfl) ?hf_k7 ?hr_k7 ?hQ_k7 (Or.inl ⟨?hw_k7, ?hy_k7⟩) (by assumption) ?rest_k7
    case hi_k7 => ((simp only [List.getElem?_toArray, List.getElem?_cons_succ, List.getElem?_cons_zero]); rfl)
    case hf_k7 => kernel_rfl
    case hr_k7 => kernel_rfl
    case hQ_k7 => exact fun _ _ _ h => h
    case hw_k7 => rfl
    case hy_k7 => ((intro w hSw; (try dsimp only at hSw); go_simp); all_goals (with_reducible rfl))
    try simp only [Act.put, List.setIfInBounds_toArray, List.set_cons_zero, List.set_cons_succ]
    refine wpAnyH_ready (rs := [7]) (by kernel_rfl) (by simp) ?_
    refine AllReadyH.cons (o := ?o1_k8) ?hi_k8 (fun K hK => ?rest_k8) AllReadyH.nil
    case hi_k8 => ((simp only [List.getElem?_toArray, List.getElem?_cons_succ, List.getElem?_cons_zero]); rfl)
    refine op_makeB (by rfl) _ _ 40 rfl 4 Try.underlying40 info_boolI k rfl rfl (by omega) ?_
    intro w5 hr5 hb5
    have HS5 := Lib.hid (HS.out.later (belStep (belDrew (Below.refl _ _)) hb5))
    have hH5 := HS5.out.below
    replace hr5 : Row w5 (some ⟨w1.heap.size, 0, none⟩) k k 1 ((List.replicate k false).map Value.bool) := hr5
    refine hK.out _ _ (by exact hH5) (fun hHeld => ?_)
    clear hK K
    try simp only [Act.put, List.setIfInBounds_toArray, List.set_cons_zero, List.set_cons_succ]
    refine wpAnyH_ready (rs := [8]) (by kernel_rfl) (by simp) ?_
    refine AllReadyH.cons (o := ?o1_k9) ?hi_k9 (fun K hK => ?rest_k9) AllReadyH.nil
    case hi_k9 => ((simp only [List.getElem?_toArray, List.getElem?_cons_succ, List.getElem?_cons_zero]); rfl)
    go_simp
    (go_at_call 44; (with_reducible refine (C1.out _ _ _ _ HS5.out hr5).mono ?_); rintro e w6 ⟨rfl, hS_, hK_, hz_⟩)
    try go_simp
    have HS6 := Lib.hid hS_
    have hH6 := HS6.out.below
    refine hK.out _ _ (by exact hH6) (fun hHeld => ?_)
    clear hK K
    try simp only [Act.put, List.setIfInBounds_toArray, List.set_cons_zero, List.set_cons_succ]
    refine wpAnyH_take (i := 9) (oi := ?oi_k10) (v := ?v_k10) ?hi_k10 (by kernel_rfl) ?hf_k10 ?hr_k10 ?hQ_k10 (Or.inl ⟨?hw_k10, ?hy_k10⟩) (by assumption) ?rest_k10
    case hi_k10 => ((simp only [List.getElem?_toArray, List.getElem?_cons_succ, List.getElem?_cons_zero]); rfl)
    case hf_k10 => kernel_rfl
    case hr_k10 => kernel_rfl
    case hQ_k10 => exact fun _ _ _ h => h
    case hw_k10 => rfl
    case hy_k10 => ((intro w hSw; (try dsimp only at hSw); go_simp); all_goals (with_reducible rfl))
    try simp only [Act.put, List.setIfInBounds_toArray, List.set_cons_zero, List.set_cons_succ]
    refine wpAnyH_take (i := 10) (oi := ?oi_k11) (v := ?v_k11) ?hi_k11 (by kernel_rfl) ?hf_k11 ?hr_k11 ?hQ_k11 (Or.inl ⟨?hw_k11, ?hy_k11⟩) (by assumption) ?rest_k11
    case hi_k11 => ((simp only [List.getElem?_toArray, List.getElem?_cons_succ, List.getElem?_cons_zero]); rfl)
    case hf_k11 => kernel_rfl
    case hr_k11 => kernel_rfl
    case hQ_k11 => exact fun _ _ _ h => h
    case hw_k11 => rfl
    case hy_k11 => ((intro w hSw; (try dsimp only at hSw); go_simp); all_goals (with_reducible rfl))
    try simp only [Act.put, List.setIfInBounds_toArray, List.set_cons_zero, List.set_cons_succ]
    refine wpAnyH_done (by kernel_rfl) ?_ _
    clear hr5 hb5 hH5 HS5 HS C1 HF hHeld hbel
    generalize w6 = W6 at *
    have hc2 : IntKind.i64.wrap ((k : Int) + (wl : Int)) = (k : Int) + (wl : Int) := IntWalk.i64_in _ (by omega)
    have C2 := Lib.hid (fun u c k2 (h : WL w u M [] ⟨0, List.replicate k false, [], []⟩) hbu => wl_Feed w u M [] ⟨0, List.replicate k false, [], []⟩ 0 h ⟨List.Pairwise.nil, List.Pairwise.nil, Nat.le_refl _, Nat.le_refl _, by rw [rep_len]; omega, fun x hx => by cases hx⟩ (by omega) d wl wc V c k2 HVL.out (HRV.out.later hbu) (by omega))
    by_cases h6 : 4096 < k + wl
    · have t7 : decide (4096 < (k : Int) + (wl : Int)) = true := decide_eq_true (by omega)
      have t8 : (4096 : Int) < (k : Int) + (wl : Int) := by omega
      have HE := Lib.hid (show feedE ⟨0, List.replicate k false, [], []⟩ V = 6 ∧ (⟨0, List.replicate k false, [], []⟩ : WorldV).fed V = ⟨0, List.replicate k false, [], []⟩ by unfold feedE WorldV.fed; dsimp only; rw [rep_len, HVL.out, if_pos h6, if_pos h6]; exact ⟨rfl, rfl⟩)
      obtain ⟨l, hl⟩ : ∃ l, k = l := ⟨_, rfl⟩
      have hle : (l : Int) = (k : Int) := by omega
      have hlq : ((l : Int) == (k : Int)) = true := by rw [hle]; exact beq_self_eq_true _
      have HKL := Lib.hid (show (⟨0, List.replicate k false, [], []⟩ : WorldV).outs.length = l by show (List.replicate k false).length = l; rw [rep_len]; exact hl)
      have hl4 : l ≤ 4096 := by omega
      clear hl hle
      have C3 := Lib.hid (fun u (h : WL w u M [] ⟨0, List.replicate k false, [], []⟩) => wl_Waiting w u M [] ⟨0, List.replicate k false, [], []⟩ 0 h ⟨List.Pairwise.nil, List.Pairwise.nil, Nat.le_refl _, Nat.le_refl _, by have h9 := HKL.out; omega, fun x hx => by cases hx⟩ (by omega) l HKL.out)
      go_wp2_with (first | (go_at_call 44; (with_reducible refine (C2.out _ _ _ HS6.out hH6 HE.out.1 HE.out.2).mono ?_); rintro e w7 ⟨rfl, hS_, hK_, hz_⟩; have HS7 := Lib.hid hS_; clear hS_ hK_ hz_) | (go_at_call 47; (with_reducible refine (C3.out _ HS7.out).mono ?_); rintro e w8 ⟨a8, c8, rfl, ho_, hr_, hS_, hb_⟩; have HS8 := Lib.hid hS_; clear hS_ ho_ hr_ hb_))
      go_ret
      exact ⟨rfl, HS8.out.below⟩
    · have t7 : decide (4096 < (k : Int) + (wl : Int)) = false := decide_eq_false (by omega)
      have t8 : ¬ (4096 : Int) < (k : Int) + (wl : Int) := by omega
      have HE := Lib.hid (show feedE ⟨0, List.replicate k false, [], []⟩ V = 0 ∧ (⟨0, List.replicate k false, [], []⟩ : WorldV).fed V = ⟨0, List.replicate k false ++ V, [], []⟩ by unfold feedE WorldV.fed; dsimp only; rw [rep_len, HVL.out, if_neg h6, if_neg h6]; exact ⟨rfl, rfl⟩)
      obtain ⟨l, hl⟩ : ∃ l, k + wl = l := ⟨_, rfl⟩
      have hle : (l : Int) = (k : Int) + (wl : Int) := by omega
      have hlq : ((l : Int) == (k : Int) + (wl : Int)) = true := by rw [hle]; exact beq_self_eq_true _
      have HKL := Lib.hid (show (⟨0, List.replicate k false ++ V, [], []⟩ : WorldV).outs.length = l by show (List.replicate k false ++ V).length = l; rw [List.length_append, rep_len, HVL.out]; exact hl)
      have hl4 : l ≤ 4096 := by omega
      clear hl hle
      have C3 := Lib.hid (fun u (h : WL w u M [] ⟨0, List.replicate k false ++ V, [], []⟩) => wl_Waiting w u M [] ⟨0, List.replicate k false ++ V, [], []⟩ 0 h ⟨List.Pairwise.nil, List.Pairwise.nil, Nat.le_refl _, Nat.le_refl _, by have h9 := HKL.out; omega, fun x hx => by cases hx⟩ (by omega) l HKL.out)
      go_wp2_with (first | (go_at_call 44; (with_reducible refine (C2.out _ _ _ HS6.out hH6 HE.out.1 HE.out.2).mono ?_); rintro e w7 ⟨rfl, hS_, hK_, hz_⟩; have HS7 := Lib.hid hS_; clear hS_ hK_ hz_) | (go_at_call 47; (with_reducible refine (C3.out _ HS7.out).mono ?_); rintro e w8 ⟨a8, c8, rfl, ho_, hr_, hS_, hb_⟩; have HS8 := Lib.hid hS_; clear hS_ ho_ hr_ hb_))
      go_ret
      exact ⟨rfl, HS8.out.below⟩

set_option maxRecDepth 100000 in
theorem lifted (os : Os) (started : os.Started) (H : Type) (enc : TypeId × Value → H) :
    ReturnsInHanded {} Try.checked os 17 .any (Rows.worldFullSpec.pre6 enc Try.prog Try.f17 Rows.worldFullRow.domain false) (Rows.worldFullSpec.post enc Try.prog Try.f17 false true false false) := by
  refine returnsInHanded_of_change (C := Try.checked) own started (by kernel_rfl) Try.func17
    (ChangeSpec.witness6 (enc := enc) (C := Try.checked) false ⟨#[], #[.int .u16 0, .slice none 0 0], []⟩ 8 (by kernel_rfl) (by kernel_rfl) (by kernel_rfl) (by kernel_rfl)) ?_
  intro W base args ds gs before hval0 hW hcnd _
  have hval : ∀ (j : Nat) t v, Try.f17.params[j]? = some t → args[j]? = some v → Value.okWide Try.prog W .any base t v := hval0
  have hW' := hW
  obtain ⟨p, q, hA0, hV, rfl, hfz, hnd⟩ := hW
  have hA : DataW.TrodAll enc Try.prog W 0 (fun _ => true) true Try.f17.params.toList args.toList ds p := hA0
  rw [Try.params17] at hA hval
  obtain ⟨v0, vs0, d0, ds0, p0, q0, hargs, rfl, rfl, h0, r0⟩ := trodAll_cons hA
  obtain ⟨v1, vs1, d1, ds1, p1, q1, rfl, rfl, rfl, h1, r1⟩ := trodAll_cons r0
  obtain ⟨rfl, rfl, rfl⟩ := trodAll_nil r1
  obtain rfl : args = #[v0, v1] := by cases args; simp_all
  obtain ⟨rfl, rfl⟩ := trodVars_none hV
  have k0 := h0
  have lt0 : ∀ x ∈ p0, x.block < W.heap.size := by obtain ⟨m, hm⟩ := k0; exact DataW.trod_lt m _ _ _ hm
  have o0 : Value.okWide Try.prog W .any base 87 v0 := hval 0 87 v0 rfl rfl
  obtain ⟨a0, rfl, rfl, rfl, w0⟩ := open_int Try.underlying87 o0 h0
  have k1 := h1
  have lt1 : ∀ x ∈ p1, x.block < W.heap.size := by obtain ⟨m, hm⟩ := k1; exact DataW.trod_lt m _ _ _ hm
  have o1 : Value.okWide Try.prog W .any base 40 v1 := hval 1 40 v1 rfl rfl
  obtain ⟨a1, len1, cap1, rfl⟩ := okWide_slice Try.underlying40 o1
  obtain ⟨z1, w1⟩ : ∃ zs, Bools W a1 len1 cap1 zs := bools_of_trod Try.underlying40 Try.underlying4 (by kernel_rfl) h1
  clear hA0 hval0
  refine (walk a0 a1 len1 cap1 z1 W (in16_of_wf w0) w1).mono fun e W' ⟨he, bel⟩ => ?_
  subst he
  exact ⟨_, rfl, _, _, _, [], _, [], hW', trodAll_mk1 (shut_bool Try.underlying4 _), (trodAll_cons_mk (Below.trod laidOut (by kernel_rfl) (of_decide_eq_true (by kernel_rfl)) k0 bel lt0) (trodAll_cons_mk (Below.trod laidOut (by kernel_rfl) (of_decide_eq_true (by kernel_rfl)) k1 bel lt1) trodAll_mk0)), rfl, bel.frame _, fun h => by cases h⟩

theorem over : Rows.worldFullRow.holds Try.pinned (OpenSpec.ofChange Rows.worldFullSpec) :=
  OpenClaim.holds_of_wide 17 Try.f17 rfl rfl rfl rfl rfl rfl rfl ⟨rfl, rfl, rfl, rfl, rfl⟩ rfl rfl rfl rfl rfl (by kernel_rfl) Try.func17 (by kernel_rfl)
    (of_decide_eq_true (by kernel_rfl)) (by unfold Func.isWrapper; first | (rw [if_pos (by decide +kernel)]; kernel_rfl) | (rw [if_neg (by decide +kernel)]; exact ⟨rfl, rfl⟩))
    (fun os started H enc _ => lifted os started H enc)

/-- The statement. -/
theorem proved : Rows.WorldFullSaid := over
#print axioms proved

end Go.Proofs.Ytampkolkbjmmkaa.worldFull
