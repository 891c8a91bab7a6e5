/- FrameTwo holds for every two versions and bodies. No conditions. -/
import Derived.Test.YtbochncjmcblkaaAwake09
namespace Go.Proofs.Ytbochncjmcblkaa.frameTwo
open Go.ChangeShapes Go.WideShapes Go.ChangeAt Go.RowKit
open Go.ChangeMaps (open_string shut_string)
set_option linter.unusedVariables false
set_option linter.unusedSimpArgs false

set_option maxRecDepth 100000 in
set_option maxHeartbeats 8000000 in
theorem walk (v0 u0 : Int) (a : Option Addr) (len cap : Nat) (l : List Int) (b : Option Addr) (lb cb : Nat) (m : List Int) (w : World) (hv0 : 0 ≤ v0 ∧ v0 ≤ 4294967295) (hu0 : 0 ≤ u0 ∧ u0 ≤ 4294967295) (hl : Ints .u8 w a len cap l) (hm : Ints .u8 w b lb cb m) :
    Calls Try.prog 12 #[.int .u32 v0, .int .u32 u0, .slice a len cap, .slice b lb cb] w fun e w' => e = .returned (.bool true) ∧ Below w.heap.size w w' := by
  have hw : Below w.heap.size w w := Below.refl _ _
  have hbel := hw
  obtain ⟨hln, hb⟩ := hl.bounds
  obtain ⟨hlm, hb'⟩ := hm.bounds
  have HL := Lib.hid hl
  have HM := Lib.hid hm
  have HNl := Lib.hid hln
  have HNm := Lib.hid hlm
  clear hl hm hln hlm
  obtain ⟨v, rfl⟩ : ∃ n : Nat, v0 = n := ⟨v0.toNat, by omega⟩
  obtain ⟨u, rfl⟩ : ∃ n : Nat, u0 = n := ⟨u0.toNat, by omega⟩
  obtain ⟨hv1, hv2⟩ := hv0
  obtain ⟨hu1, hu2⟩ := hu0
  by_cases h5 : 500 < len
  · go_enter Try.func12, Try.ntmps12
    go_wp2_with (first | (go_at_call 21; (with_reducible refine (awake09 _).mono ?_); rintro e w1 ⟨rfl, hb1⟩; replace hbel := belStep hbel hb1; clear hb1))
    go_ret
    exact ⟨rfl, hbel⟩
  by_cases h6 : 500 < lb
  · go_enter Try.func12, Try.ntmps12
    go_wp2_with (first | (go_at_call 21; (with_reducible refine (awake09 _).mono ?_); rintro e w1 ⟨rfl, hb1⟩; replace hbel := belStep hbel hb1; clear hb1))
    go_ret
    exact ⟨rfl, hbel⟩
  have hbl := bytes_of HL.out
  have hbm := bytes_of HM.out
  have CP := Lib.hid (fun z (hz : Below w.heap.size w z) => frame_Put v a len cap l z (by omega) (HL.out.later hz) (by omega))
  have CQ := Lib.hid (fun z (hz : Below w.heap.size w z) => frame_Put u b lb cb m z (by omega) (HM.out.later hz) (by omega))
  have HWF := Lib.hid (fun c hc => wf8 c (frameL_B (v := v) hbl c hc))
  have HWG := Lib.hid (fun c hc => wf8 c (frameL_B (v := u) hbm c hc))
  have HNO := Lib.hid (no_more (r := frameL u m) (frame_is (v := v) (x := l) (by omega) (by rw [HNl.out]; omega)) (fun e => by have := congrArg List.length e; rw [frameL_len] at this; simp at this))
  have E1 := Lib.hid (show (frameL v l).length = len + 16 by rw [frameL_len, HNl.out])
  have E2 := Lib.hid (show (frameL v l ++ frameL u m).length = len + 16 + (lb + 16) by rw [List.length_append, frameL_len, frameL_len, HNl.out, HNm.out])
  have key : ((((v : Int) == (u : Int)) = true ∧ (l == m) = true ∧ (frameL v l == frameL u m) = true) ∨ (((v : Int) == (u : Int)) = true ∧ (l == m) = false ∧ (frameL v l == frameL u m) = false)) ∨ (((v : Int) == (u : Int)) = false ∧ (frameL v l == frameL u m) = false) := by
    by_cases q : v = u
    · left
      by_cases r : l = m
      · left; subst q; subst r; simp
      · right
        refine ⟨by simp; omega, by simp [r], ?_⟩
        rw [beq_eq_false_iff_ne]
        intro e
        exact r (frameL_pre (v := v) (u := u) (l := l) (m := m) (r := []) (by omega) (by omega) (by rw [HNl.out]; omega) (by rw [HNm.out]; omega) (by rw [List.append_nil]; exact e)).2.2
    · right
      refine ⟨by simp; omega, ?_⟩
      rw [beq_eq_false_iff_ne]
      intro e
      exact q (frameL_pre (v := v) (u := u) (l := l) (m := m) (r := []) (by omega) (by omega) (by rw [HNl.out]; omega) (by rw [HNm.out]; omega) (by rw [List.append_nil]; exact e)).2.1
  have CSf : ∀ B, (frameL v l == frameL u m) = B → Hid (∀ (a2 : Option Addr) (c2 : Nat) (a3 : Option Addr) (c3 : Nat) z, Ints .u8 z a2 (len + 16) c2 (frameL v l) → Ints .u8 z a3 (lb + 16) c3 (frameL u m) → Calls Try.prog 17 #[.slice a2 (len + 16) c2, .slice a3 (lb + 16) c3] z fun e w' => e = .returned (.bool B) ∧ z = w') := fun B hB => Lib.hid (fun a2 c2 a3 c3 z h2 h3 => hB ▸ sref_Same a2 (len + 16) c2 _ a3 (lb + 16) c3 _ z h2 h3)
  have CSb : ∀ B, (l == m) = B → Hid (∀ z, Below w.heap.size w z → Calls Try.prog 17 #[.slice a len cap, .slice b lb cb] z fun e w' => e = .returned (.bool B) ∧ z = w') := fun B hB => Lib.hid (fun z hz => hB ▸ sref_Same a len cap _ b lb cb _ z (HL.out.later hz) (HM.out.later hz))
  clear hbl hbm
  rcases key with (⟨k1, k2, k3⟩ | ⟨k1, k2, k3⟩) | ⟨k1, k3⟩
  · have CS1 := CSf true k3
    have CS2 := CSb true k2
    clear CSf CSb k3 k2
    go_enter Try.func12, Try.ntmps12
    go_wp2_with (first | (go_at_call 21; (with_reducible refine (awake09 _).mono ?_); rintro e w1 ⟨rfl, hb1⟩; replace hbel := belStep hbel hb1; clear hb1) | (go_at_call 22; (with_reducible refine (CP.out _ hbel).mono ?_); rintro e w2 ⟨g2, c2, rfl, _, hi2, hb2⟩; have HX := Lib.hid (ints_ownS hi2 HWF.out); replace hbel := belStep hbel hb2; clear hi2 hb2) | (go_at_call 22; (with_reducible refine (CQ.out _ hbel).mono ?_); rintro e w3 ⟨g3, c3, rfl, _, hi3, hb3⟩; have HY := Lib.hid (ints_ownS hi3 HWG.out); replace HX := Lib.hid (HX.out.later hb3); replace hbel := belStep hbel hb3; clear hi3 hb3) | (go_at_call 17; (with_reducible refine (CS1.out _ _ _ _ _ HX.out HY.out).mono ?_); rintro e w9 ⟨rfl, rfl⟩) | (go_at_call 17; (with_reducible refine (CS2.out _ hbel).mono ?_); rintro e w9 ⟨rfl, rfl⟩) | (at_builtin; refine wpList_app_ints rfl _ _ 22 rfl w3.heap.size 5 .u8 1 Try.underlying22 info_u8 _ _ rfl (own_new w3 w3.heap.size 5 .u8 (Nat.le_refl _)) _ (len + 16) c2 (frameL v l) rfl (HX.out.later (belAlloc (Below.refl _ _) _)) (by simp only [maxLen, List.length_nil]; omega) (by simp only [List.length_nil]; omega) (by simp) ?_; intro v5 w5 ho5 hb5 hg5; (try rw [List.nil_append] at ho5); have hb35 := (belAlloc (Below.refl _ _) _ : Below w3.heap.size w3 (w3.alloc _)).trans hb5; have HO := Lib.hid ho5; clear ho5 hb5 hg5) | (at_builtin; refine wpList_app_ints rfl _ _ 22 rfl w3.heap.size 5 .u8 1 Try.underlying22 info_u8 _ _ rfl HO.out _ (lb + 16) c3 (frameL u m) rfl (HY.out.later hb35) (by rw [E1.out]; simp only [maxLen]; omega) (by rw [E1.out]; omega) hb35.size ?_; intro v6 w6 ho6 hb6 hg6; obtain ⟨a6, c6, rfl, hi6⟩ := ints_of_own ho6 (fun c hc => (List.mem_append.1 hc).elim (HWF.out c) (HWG.out c)); rw [E2.out] at hi6 ⊢; have CG := Lib.hid (frame_Get_no a6 (len + 16 + (lb + 16)) c6 _ w6 hi6 (by omega) HNO.out); replace hbel := (belStep hbel hb35).trans (hb6.mono hbel.size); clear ho6 hb6 hg6 hi6) | (go_at_call 24; (with_reducible refine (CG.out).mono ?_); rintro e w1 ⟨rfl, hb1⟩; replace hbel := belStep hbel hb1; clear hb1))
    go_ret
    exact ⟨rfl, hbel⟩
  · have CS1 := CSf false k3
    have CS2 := CSb false k2
    clear CSf CSb k3 k2
    go_enter Try.func12, Try.ntmps12
    go_wp2_with (first | (go_at_call 21; (with_reducible refine (awake09 _).mono ?_); rintro e w1 ⟨rfl, hb1⟩; replace hbel := belStep hbel hb1; clear hb1) | (go_at_call 22; (with_reducible refine (CP.out _ hbel).mono ?_); rintro e w2 ⟨g2, c2, rfl, _, hi2, hb2⟩; have HX := Lib.hid (ints_ownS hi2 HWF.out); replace hbel := belStep hbel hb2; clear hi2 hb2) | (go_at_call 22; (with_reducible refine (CQ.out _ hbel).mono ?_); rintro e w3 ⟨g3, c3, rfl, _, hi3, hb3⟩; have HY := Lib.hid (ints_ownS hi3 HWG.out); replace HX := Lib.hid (HX.out.later hb3); replace hbel := belStep hbel hb3; clear hi3 hb3) | (go_at_call 17; (with_reducible refine (CS1.out _ _ _ _ _ HX.out HY.out).mono ?_); rintro e w9 ⟨rfl, rfl⟩) | (go_at_call 17; (with_reducible refine (CS2.out _ hbel).mono ?_); rintro e w9 ⟨rfl, rfl⟩) | (at_builtin; refine wpList_app_ints rfl _ _ 22 rfl w3.heap.size 5 .u8 1 Try.underlying22 info_u8 _ _ rfl (own_new w3 w3.heap.size 5 .u8 (Nat.le_refl _)) _ (len + 16) c2 (frameL v l) rfl (HX.out.later (belAlloc (Below.refl _ _) _)) (by simp only [maxLen, List.length_nil]; omega) (by simp only [List.length_nil]; omega) (by simp) ?_; intro v5 w5 ho5 hb5 hg5; (try rw [List.nil_append] at ho5); have hb35 := (belAlloc (Below.refl _ _) _ : Below w3.heap.size w3 (w3.alloc _)).trans hb5; have HO := Lib.hid ho5; clear ho5 hb5 hg5) | (at_builtin; refine wpList_app_ints rfl _ _ 22 rfl w3.heap.size 5 .u8 1 Try.underlying22 info_u8 _ _ rfl HO.out _ (lb + 16) c3 (frameL u m) rfl (HY.out.later hb35) (by rw [E1.out]; simp only [maxLen]; omega) (by rw [E1.out]; omega) hb35.size ?_; intro v6 w6 ho6 hb6 hg6; obtain ⟨a6, c6, rfl, hi6⟩ := ints_of_own ho6 (fun c hc => (List.mem_append.1 hc).elim (HWF.out c) (HWG.out c)); rw [E2.out] at hi6 ⊢; have CG := Lib.hid (frame_Get_no a6 (len + 16 + (lb + 16)) c6 _ w6 hi6 (by omega) HNO.out); replace hbel := (belStep hbel hb35).trans (hb6.mono hbel.size); clear ho6 hb6 hg6 hi6) | (go_at_call 24; (with_reducible refine (CG.out).mono ?_); rintro e w1 ⟨rfl, hb1⟩; replace hbel := belStep hbel hb1; clear hb1))
    go_ret
    exact ⟨rfl, hbel⟩
  · have CS1 := CSf false k3
    clear CSf CSb k3
    go_enter Try.func12, Try.ntmps12
    go_wp2_with (first | (go_at_call 21; (with_reducible refine (awake09 _).mono ?_); rintro e w1 ⟨rfl, hb1⟩; replace hbel := belStep hbel hb1; clear hb1) | (go_at_call 22; (with_reducible refine (CP.out _ hbel).mono ?_); rintro e w2 ⟨g2, c2, rfl, _, hi2, hb2⟩; have HX := Lib.hid (ints_ownS hi2 HWF.out); replace hbel := belStep hbel hb2; clear hi2 hb2) | (go_at_call 22; (with_reducible refine (CQ.out _ hbel).mono ?_); rintro e w3 ⟨g3, c3, rfl, _, hi3, hb3⟩; have HY := Lib.hid (ints_ownS hi3 HWG.out); replace HX := Lib.hid (HX.out.later hb3); replace hbel := belStep hbel hb3; clear hi3 hb3) | (go_at_call 17; (with_reducible refine (CS1.out _ _ _ _ _ HX.out HY.out).mono ?_); rintro e w9 ⟨rfl, rfl⟩) | (at_builtin; refine wpList_app_ints rfl _ _ 22 rfl w3.heap.size 5 .u8 1 Try.underlying22 info_u8 _ _ rfl (own_new w3 w3.heap.size 5 .u8 (Nat.le_refl _)) _ (len + 16) c2 (frameL v l) rfl (HX.out.later (belAlloc (Below.refl _ _) _)) (by simp only [maxLen, List.length_nil]; omega) (by simp only [List.length_nil]; omega) (by simp) ?_; intro v5 w5 ho5 hb5 hg5; (try rw [List.nil_append] at ho5); have hb35 := (belAlloc (Below.refl _ _) _ : Below w3.heap.size w3 (w3.alloc _)).trans hb5; have HO := Lib.hid ho5; clear ho5 hb5 hg5) | (at_builtin; refine wpList_app_ints rfl _ _ 22 rfl w3.heap.size 5 .u8 1 Try.underlying22 info_u8 _ _ rfl HO.out _ (lb + 16) c3 (frameL u m) rfl (HY.out.later hb35) (by rw [E1.out]; simp only [maxLen]; omega) (by rw [E1.out]; omega) hb35.size ?_; intro v6 w6 ho6 hb6 hg6; obtain ⟨a6, c6, rfl, hi6⟩ := ints_of_own ho6 (fun c hc => (List.mem_append.1 hc).elim (HWF.out c) (HWG.out c)); rw [E2.out] at hi6 ⊢; have CG := Lib.hid (frame_Get_no a6 (len + 16 + (lb + 16)) c6 _ w6 hi6 (by omega) HNO.out); replace hbel := (belStep hbel hb35).trans (hb6.mono hbel.size); clear ho6 hb6 hg6 hi6) | (go_at_call 24; (with_reducible refine (CG.out).mono ?_); rintro e w1 ⟨rfl, hb1⟩; replace hbel := belStep hbel hb1; clear hb1))
    go_ret
    exact ⟨rfl, hbel⟩

set_option maxRecDepth 100000 in
theorem lifted (os : Os) (started : os.Started) (H : Type) (enc : TypeId × Value → H) :
    ReturnsInHanded {} Try.checked os 12 .any (Rows.frameTwoSpec.pre6 enc Try.prog Try.f12 Rows.frameTwoRow.domain false) (Rows.frameTwoSpec.post enc Try.prog Try.f12 false true false false) := by
  refine returnsInHanded_of_change (C := Try.checked) own started (by kernel_rfl) Try.func12
    (ChangeSpec.witness6 (enc := enc) (C := Try.checked) false ⟨#[], #[.int .u32 0, .int .u32 0, .slice none 0 0, .slice none 0 0], []⟩ 8 (by kernel_rfl) (by kernel_rfl) (by kernel_rfl) (by kernel_rfl)) ?_
  intro W base args ds gs before hval0 hW hcnd _
  have hval : ∀ (j : Nat) t v, Try.f12.params[j]? = some t → args[j]? = some v → Value.okWide Try.prog W .any base t v := hval0
  have hW' := hW
  obtain ⟨p, q, hA0, hV, rfl, hfz, hnd⟩ := hW
  have hA : DataW.TrodAll enc Try.prog W 0 (fun _ => true) true Try.f12.params.toList args.toList ds p := hA0
  rw [Try.params12] at hA hval
  obtain ⟨v0, vs0, d0, ds0, p0, q0, hargs, rfl, rfl, h0, r0⟩ := trodAll_cons hA
  obtain ⟨v1, vs1, d1, ds1, p1, q1, rfl, rfl, rfl, h1, r1⟩ := trodAll_cons r0
  obtain ⟨v2, vs2, d2, ds2, p2, q2, rfl, rfl, rfl, h2, r2⟩ := trodAll_cons r1
  obtain ⟨v3, vs3, d3, ds3, p3, q3, rfl, rfl, rfl, h3, r3⟩ := trodAll_cons r2
  obtain ⟨rfl, rfl, rfl⟩ := trodAll_nil r3
  obtain rfl : args = #[v0, v1, v2, v3] := by cases args; simp_all
  obtain ⟨rfl, rfl⟩ := trodVars_none hV
  have k0 := h0
  have lt0 : ∀ x ∈ p0, x.block < W.heap.size := by obtain ⟨m, hm⟩ := k0; exact DataW.trod_lt m _ _ _ hm
  have o0 : Value.okWide Try.prog W .any base 24 v0 := hval 0 24 v0 rfl rfl
  obtain ⟨a0, rfl, rfl, rfl, w0⟩ := open_int Try.underlying24 o0 h0
  have k1 := h1
  have lt1 : ∀ x ∈ p1, x.block < W.heap.size := by obtain ⟨m, hm⟩ := k1; exact DataW.trod_lt m _ _ _ hm
  have o1 : Value.okWide Try.prog W .any base 24 v1 := hval 1 24 v1 rfl rfl
  obtain ⟨a1, rfl, rfl, rfl, w1⟩ := open_int Try.underlying24 o1 h1
  have k2 := h2
  have lt2 : ∀ x ∈ p2, x.block < W.heap.size := by obtain ⟨m, hm⟩ := k2; exact DataW.trod_lt m _ _ _ hm
  have o2 : Value.okWide Try.prog W .any base 22 v2 := hval 2 22 v2 rfl rfl
  obtain ⟨a2, len2, cap2, rfl⟩ := okWide_slice Try.underlying22 o2
  obtain ⟨z2, w2⟩ : ∃ zs, Ints .u8 W a2 len2 cap2 zs := ints_of_trod Try.underlying22 Try.underlying5 (by kernel_rfl) h2
  have k3 := h3
  have lt3 : ∀ x ∈ p3, x.block < W.heap.size := by obtain ⟨m, hm⟩ := k3; exact DataW.trod_lt m _ _ _ hm
  have o3 : Value.okWide Try.prog W .any base 22 v3 := hval 3 22 v3 rfl rfl
  obtain ⟨a3, len3, cap3, rfl⟩ := okWide_slice Try.underlying22 o3
  obtain ⟨z3, w3⟩ : ∃ zs, Ints .u8 W a3 len3 cap3 zs := ints_of_trod Try.underlying22 Try.underlying5 (by kernel_rfl) h3
  clear hA0 hval0
  refine (walk a0 a1 a2 len2 cap2 z2 a3 len3 cap3 z3 W (in32_of_wf w0) (in32_of_wf w1) w2 w3).mono fun e W' ⟨he, bel⟩ => ?_
  subst he
  exact ⟨_, rfl, _, _, _, [], _, [], hW', trodAll_mk1 (shut_bool Try.underlying4 _), (trodAll_cons_mk (Below.trod laidOut (by kernel_rfl) (of_decide_eq_true (by kernel_rfl)) k0 bel lt0) (trodAll_cons_mk (Below.trod laidOut (by kernel_rfl) (of_decide_eq_true (by kernel_rfl)) k1 bel lt1) (trodAll_cons_mk (Below.trod laidOut (by kernel_rfl) (of_decide_eq_true (by kernel_rfl)) k2 bel lt2) (trodAll_cons_mk (Below.trod laidOut (by kernel_rfl) (of_decide_eq_true (by kernel_rfl)) k3 bel lt3) trodAll_mk0)))), rfl, bel.frame _, fun h => by cases h⟩

theorem over : Rows.frameTwoRow.holds Try.pinned (OpenSpec.ofChange Rows.frameTwoSpec) :=
  OpenClaim.holds_of_wide 12 Try.f12 rfl rfl rfl rfl rfl rfl rfl ⟨rfl, rfl, rfl, rfl, rfl⟩ rfl rfl rfl rfl rfl (by kernel_rfl) Try.func12 (by kernel_rfl)
    (of_decide_eq_true (by kernel_rfl)) (by unfold Func.isWrapper; first | (rw [if_pos (by decide +kernel)]; kernel_rfl) | (rw [if_neg (by decide +kernel)]; exact ⟨rfl, rfl⟩))
    (fun os started H enc _ => lifted os started H enc)

/-- The statement. -/
theorem proved : Rows.FrameTwoSaid := over
#print axioms proved

end Go.Proofs.Ytbochncjmcblkaa.frameTwo
