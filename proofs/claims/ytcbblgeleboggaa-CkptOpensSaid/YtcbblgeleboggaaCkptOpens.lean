
/- CkptOpens holds for every two slices of bytes and either bool. No conditions. -/
import Derived.Test.YtcbblgeleboggaaCk8
import Derived.BigQuiet
namespace Go.Proofs.Ytcbblgeleboggaa.ckptOpens
open Go.ChangeShapes Go.WideShapes Go.ChangeAt Go.RowKit
open Go.ChangeMaps (open_string shut_string)
set_option linter.unusedVariables false
open Go.RowKit Go.Sort Go.Maps
set_option linter.unusedSimpArgs false
set_option maxRecDepth 100000 in
set_option maxHeartbeats 16000000 in
theorem walk (a : Option Addr) (len cap : Nat) (l : List Int) (a2 : Option Addr) (len2 cap2 : Nat) (m : List Int) (is : Bool) (w : World) (hl : Ints .u8 w a len cap l) (hm : Ints .u8 w a2 len2 cap2 m) :
    Calls Try.prog 5 #[.slice a len cap, .slice a2 len2 cap2, .bool is] w fun e w' => e = .returned (.bool true) ∧ Below w.heap.size w w' := by
  have hw : Below w.heap.size w w := Below.refl _ _
  have hbel := hw
  obtain ⟨hl1, hl2, hl3⟩ := hl.bounds
  obtain ⟨hm1, hm2, hm3⟩ := hm.bounds
  have HL := Lib.hid hl
  have HM := Lib.hid hm
  clear hl hm
  by_cases hL : 1000 < len
  · go_enter Try.func5, Try.ntmps5
    go_wp2_with (first | (go_at_call 8; (with_reducible refine (awake_11 _).mono ?_); rintro e wa ⟨rfl, ha⟩; have hbel := belStep hbel ha; clear ha))
    go_ret
    exact ⟨rfl, hbel⟩
  · by_cases hM : 1000 < len2
    · go_enter Try.func5, Try.ntmps5
      go_wp2_with (first | (go_at_call 8; (with_reducible refine (awake_11 _).mono ?_); rintro e wa ⟨rfl, ha⟩; have hbel := belStep hbel ha; clear ha))
      go_ret
      exact ⟨rfl, hbel⟩
    cases is with
    | false =>
      go_enter Try.func5, Try.ntmps5
      go_upto_region 6 with (first | (go_at_call 8; (with_reducible refine (awake_11 _).mono ?_); rintro e wa ⟨rfl, ha⟩; have hbel := belStep hbel ha; clear ha) | (go_at_call 10; (with_reducible refine (dl_New w.heap.size [] _ (fun b hb => absurd hb List.not_mem_nil) hbel.size).mono ?_); rintro e w1 ⟨M, rfl, hd_, hb_⟩; have HD := Lib.hid (show DKv w.heap.size w1 M [] (ckD 0 none none) from hd_); have HB1 := Lib.hid (hbel.trans hb_); clear hd_ hb_))
      clear hbel hw
      have C1 := Lib.hid (ck_doK w.heap.size M [] _ w1 HD.out (fun b hb => absurd hb List.not_mem_nil) HB1.out.size (by decide) a len cap l hl1 (HL.out.later HB1.out) (by omega))
      go_upto_region 9 with (go_at_call 21; (with_reducible refine (C1.out).mono ?_); rintro e w2 ⟨rfl, hd_, hb_, -⟩; have HD2 := Lib.hid hd_; have HB2 := Lib.hid (HB1.out.trans hb_); clear hd_ hb_ C1 HD)
      have C3 := Lib.hid (dl_Sync w.heap.size M [] _ w2 HD2.out (fun b hb => absurd hb List.not_mem_nil) HB2.out.size (cap_1 l))
      rw [open_1] at C3
      go_upto_region 10 with (go_at_call 22; (with_reducible refine (C3.out).mono ?_); rintro e w4 ⟨rfl, hd_, hb_, -⟩; have HD4 := Lib.hid hd_; have HB4 := Lib.hid (HB2.out.trans hb_); clear hd_ hb_ C3 HD2)
      rcases frame_cases l with ⟨v, x, hf⟩ | hno
      · have hfl := hf.len
        obtain ⟨k, ek⟩ : ∃ k, x.length = k := ⟨_, rfl⟩
        rw [ek, hl1] at hfl
        have CO := Lib.hid (ck_Open_ok w.heap.size M [] 1 none w4 l v x k hf ek HD4.out (fun b hb => absurd hb List.not_mem_nil) HB4.out.size (by omega))
        have hv := hf.2.1
        have HF := Lib.hid hf
        clear hf ek
        go_upto_region 11 with (go_at_call 11; (with_reducible refine (CO.out).mono ?_); rintro e w5 ⟨N, g, c2, ax, cx, rfl, -, hq_, -, hi_, hs_, hn_, hg_, ⟨⟨c1, hc1, hd_⟩, hb_, -⟩⟩; have hNl5 := Blk.lt hs_; have HD5 := Lib.hid hd_; have HB5 := Lib.hid (HB4.out.trans hb_); have HI5 := Lib.hid hi_; have HS5 := Lib.hid hs_; have hNB := Nat.le_trans HB4.out.size hn_; obtain ⟨-, hq1, hq2⟩ := hq_; clear hd_ hb_ hi_ hs_ hn_ CO HD4)
        subst hfl
        have CG := Lib.hid (fref_Get_ok a k cap l w5 (HL.out.later HB5.out) (by omega) v x HF.out)
        go_upto_region 12 with (go_at_call 23; (with_reducible refine (CG.out).mono ?_); rintro e w6 ⟨a3, c3, rfl, hi_, hb_⟩; have HD6 := Lib.hid (HD5.out.later hb_); have HB6 := Lib.hid (belStep HB5.out hb_); have hz56 := hb_.size; have HI6 := Lib.hid (HI5.out.later hb_); have HJ6 := Lib.hid hi_; have HS6 := Lib.hid (Blk.later HS5.out hb_); clear hi_ hb_ CG HD5 HI5 HS5)
        have CN := Lib.hid (ck_Names w.heap.size M _ c1 (some l) w6 HD6.out HB6.out.size (by omega))
        go_upto_region 16 with (go_at_call 18; (with_reducible refine (CN.out).mono ?_); rintro e w7 ⟨na, nk, rfl, hnk1, hnk2, hd_, hb_⟩; have HD7 := Lib.hid hd_; have HB7 := Lib.hid (belStep HB6.out hb_); have hz67 := hb_.size; have HI7 := Lib.hid (HI6.out.later hb_); have HJ7 := Lib.hid (HJ6.out.later hb_); have HS7 := Lib.hid (Blk.later HS6.out hb_); clear hd_ hb_ CN HD6 HI6 HJ6 HS6)
        have CV := Lib.hid (ck_Vn w7 N M v HS7.out)
        have CS := Lib.hid ((beq_self_eq_true x) ▸ sref_Same ax k cx x a3 k c3 x w7 HI7.out HJ7.out)
        go_upto_region 18 with (first | (go_at_call 13; (with_reducible refine (CV.out).mono ?_); rintro e wx ⟨rfl, hz9⟩; have hz8 := hz9.symm; subst hz8) | (go_at_call 15; (with_reducible refine (CS.out).mono ?_); rintro e wx ⟨rfl, hz9⟩; subst hz9))
        by_cases hv9 : v = 4294967295
        · subst hv9
          have CS9 := Lib.hid (ck_Save_no N M w7 HS7.out none 0 0 ⟨by omega, by omega⟩)
          have hvi : ((4294967295 : Nat) : Int) = 4294967295 := rfl
          go_wp2_with (first | (go_at_call 12; (with_reducible refine (CS9.out).mono ?_); rintro e wx ⟨rfl, hz9⟩; have hz8 := hz9.symm; subst hz8) | (go_at_call 13; (with_reducible refine (CV.out).mono ?_); rintro e wx ⟨rfl, hz9⟩; have hz8 := hz9.symm; subst hz8))
          go_ret
          exact ⟨by first | rfl | simp, HB7.out⟩
        · have hgl : ∀ b ∈ [N, g], b < w7.heap.size := fun b hb => by simp only [List.mem_cons, List.not_mem_nil, or_false] at hb; omega
          have hv8 : (v : Int) < 4294967295 := by omega
          have hv7 : decide ((v : Int) < 4294967295) = true := decide_eq_true hv8
          have hv6 : IntKind.i64.wrap ((v : Int) + 1) = (v : Int) + 1 := IntWalk.i64_in _ (by omega)
          have CS9 := Lib.hid (ck_Save w.heap.size N M [N, g] [] c1 (some l) w7 v HD7.out HS7.out hgl HB7.out.size List.mem_cons_self hNB (fun b hb => absurd hb List.not_mem_nil) List.not_mem_nil (by omega) none 0 0 [] (ints_nil _ _) (by omega) (by omega))
          go_upto_region 19 with (go_at_call 12; (with_reducible refine (CS9.out).mono ?_); rintro e w8 ⟨rfl, -, hs_, hb_, -⟩; have HS8 := Lib.hid hs_; have HB8 := Lib.hid (HB7.out.trans hb_); clear hs_ hb_ CS9 HD7 HS7)
          have CV8 := Lib.hid (ck_Vn w8 N M _ HS8.out)
          go_wp2_with (go_at_call 13; (with_reducible refine (CV8.out).mono ?_); rintro e wx ⟨rfl, hz9⟩; have hz8 := hz9.symm; subst hz8)
          go_ret
          exact ⟨by first | rfl | simp, HB8.out⟩
      · have CO := Lib.hid (ck_Open_no w.heap.size M [] 1 none w4 l hno HD4.out (fun b hb => absurd hb List.not_mem_nil) HB4.out.size (by omega))
        go_upto_region 11 with (go_at_call 11; (with_reducible refine (CO.out).mono ?_); rintro e w5 ⟨rfl, ⟨c1, hc1, hd_⟩, hb_, -⟩; have HD5 := Lib.hid hd_; have HB5 := Lib.hid (HB4.out.trans hb_); clear hd_ hb_ CO HD4)
        have CG := Lib.hid (fref_Get_no a len cap l w5 (HL.out.later HB5.out) (by omega) hno)
        go_upto_region 12 with (go_at_call 23; (with_reducible refine (CG.out).mono ?_); rintro e w6 ⟨rfl, hb_⟩; have HD6 := Lib.hid (HD5.out.later hb_); have HB6 := Lib.hid (belStep HB5.out hb_); clear hb_ CG HD5)
        have CN := Lib.hid (ck_Names w.heap.size M _ c1 (some l) w6 HD6.out HB6.out.size (by omega))
        go_wp2_with (go_at_call 18; (with_reducible refine (CN.out).mono ?_); rintro e w7 ⟨na, nk, rfl, hnk1, hnk2, -, hb_⟩)
        go_ret
        exact ⟨by first | rfl | simp, belStep HB6.out hb_⟩
    | true =>
      go_enter Try.func5, Try.ntmps5
      go_upto_region 6 with (first | (go_at_call 8; (with_reducible refine (awake_11 _).mono ?_); rintro e wa ⟨rfl, ha⟩; have hbel := belStep hbel ha; clear ha) | (go_at_call 10; (with_reducible refine (dl_New w.heap.size [] _ (fun b hb => absurd hb List.not_mem_nil) hbel.size).mono ?_); rintro e w1 ⟨M, rfl, hd_, hb_⟩; have HD := Lib.hid (show DKv w.heap.size w1 M [] (ckD 0 none none) from hd_); have HB1 := Lib.hid (hbel.trans hb_); clear hd_ hb_))
      clear hbel hw
      have C1 := Lib.hid (ck_doK w.heap.size M [] _ w1 HD.out (fun b hb => absurd hb List.not_mem_nil) HB1.out.size (by decide) a len cap l hl1 (HL.out.later HB1.out) (by omega))
      go_upto_region 8 with (go_at_call 21; (with_reducible refine (C1.out).mono ?_); rintro e w2 ⟨rfl, hd_, hb_, -⟩; have HD2 := Lib.hid hd_; have HB2 := Lib.hid (HB1.out.trans hb_); clear hd_ hb_ C1 HD)
      have C2 := Lib.hid (ck_doT w.heap.size M [] _ w2 HD2.out (fun b hb => absurd hb List.not_mem_nil) HB2.out.size (cap_1 l) a2 len2 cap2 m hm1 (HM.out.later HB2.out) (by omega))
      go_upto_region 9 with (go_at_call 21; (with_reducible refine (C2.out).mono ?_); rintro e w3 ⟨rfl, hd_, hb_, -⟩; have HD3 := Lib.hid hd_; have HB3 := Lib.hid (HB2.out.trans hb_); clear hd_ hb_ C2 HD2)
      have C3 := Lib.hid (dl_Sync w.heap.size M [] _ w3 HD3.out (fun b hb => absurd hb List.not_mem_nil) HB3.out.size (cap_2 l m))
      rw [open_2] at C3
      go_upto_region 10 with (go_at_call 22; (with_reducible refine (C3.out).mono ?_); rintro e w4 ⟨rfl, hd_, hb_, -⟩; have HD4 := Lib.hid hd_; have HB4 := Lib.hid (HB3.out.trans hb_); clear hd_ hb_ C3 HD3)
      rcases frame_cases l with ⟨v, x, hf⟩ | hno
      · have hfl := hf.len
        obtain ⟨k, ek⟩ : ∃ k, x.length = k := ⟨_, rfl⟩
        rw [ek, hl1] at hfl
        have CO := Lib.hid (ck_Open_ok w.heap.size M [] 2 (some m) w4 l v x k hf ek HD4.out (fun b hb => absurd hb List.not_mem_nil) HB4.out.size (by omega))
        have hv := hf.2.1
        have HF := Lib.hid hf
        clear hf ek
        go_upto_region 11 with (go_at_call 11; (with_reducible refine (CO.out).mono ?_); rintro e w5 ⟨N, g, c2, ax, cx, rfl, -, hq_, -, hi_, hs_, hn_, hg_, ⟨⟨c1, hc1, hd_⟩, hb_, -⟩⟩; have hNl5 := Blk.lt hs_; have HD5 := Lib.hid hd_; have HB5 := Lib.hid (HB4.out.trans hb_); have HI5 := Lib.hid hi_; have HS5 := Lib.hid hs_; have hNB := Nat.le_trans HB4.out.size hn_; obtain ⟨-, hq1, hq2⟩ := hq_; clear hd_ hb_ hi_ hs_ hn_ CO HD4)
        subst hfl
        have CG := Lib.hid (fref_Get_ok a k cap l w5 (HL.out.later HB5.out) (by omega) v x HF.out)
        go_upto_region 12 with (go_at_call 23; (with_reducible refine (CG.out).mono ?_); rintro e w6 ⟨a3, c3, rfl, hi_, hb_⟩; have HD6 := Lib.hid (HD5.out.later hb_); have HB6 := Lib.hid (belStep HB5.out hb_); have hz56 := hb_.size; have HI6 := Lib.hid (HI5.out.later hb_); have HJ6 := Lib.hid hi_; have HS6 := Lib.hid (Blk.later HS5.out hb_); clear hi_ hb_ CG HD5 HI5 HS5)
        have CN := Lib.hid (ck_Names w.heap.size M _ c1 (some l) w6 HD6.out HB6.out.size (by omega))
        go_upto_region 16 with (go_at_call 18; (with_reducible refine (CN.out).mono ?_); rintro e w7 ⟨na, nk, rfl, hnk1, hnk2, hd_, hb_⟩; have HD7 := Lib.hid hd_; have HB7 := Lib.hid (belStep HB6.out hb_); have hz67 := hb_.size; have HI7 := Lib.hid (HI6.out.later hb_); have HJ7 := Lib.hid (HJ6.out.later hb_); have HS7 := Lib.hid (Blk.later HS6.out hb_); clear hd_ hb_ CN HD6 HI6 HJ6 HS6)
        have CV := Lib.hid (ck_Vn w7 N M v HS7.out)
        have CS := Lib.hid ((beq_self_eq_true x) ▸ sref_Same ax k cx x a3 k c3 x w7 HI7.out HJ7.out)
        go_upto_region 18 with (first | (go_at_call 13; (with_reducible refine (CV.out).mono ?_); rintro e wx ⟨rfl, hz9⟩; have hz8 := hz9.symm; subst hz8) | (go_at_call 15; (with_reducible refine (CS.out).mono ?_); rintro e wx ⟨rfl, hz9⟩; subst hz9))
        by_cases hv9 : v = 4294967295
        · subst hv9
          have CS9 := Lib.hid (ck_Save_no N M w7 HS7.out none 0 0 ⟨by omega, by omega⟩)
          have hvi : ((4294967295 : Nat) : Int) = 4294967295 := rfl
          go_wp2_with (first | (go_at_call 12; (with_reducible refine (CS9.out).mono ?_); rintro e wx ⟨rfl, hz9⟩; have hz8 := hz9.symm; subst hz8) | (go_at_call 13; (with_reducible refine (CV.out).mono ?_); rintro e wx ⟨rfl, hz9⟩; have hz8 := hz9.symm; subst hz8))
          go_ret
          exact ⟨by first | rfl | simp, HB7.out⟩
        · have hgl : ∀ b ∈ [N, g], b < w7.heap.size := fun b hb => by simp only [List.mem_cons, List.not_mem_nil, or_false] at hb; omega
          have hv8 : (v : Int) < 4294967295 := by omega
          have hv7 : decide ((v : Int) < 4294967295) = true := decide_eq_true hv8
          have hv6 : IntKind.i64.wrap ((v : Int) + 1) = (v : Int) + 1 := IntWalk.i64_in _ (by omega)
          have CS9 := Lib.hid (ck_Save w.heap.size N M [N, g] [] c1 (some l) w7 v HD7.out HS7.out hgl HB7.out.size List.mem_cons_self hNB (fun b hb => absurd hb List.not_mem_nil) List.not_mem_nil (by omega) none 0 0 [] (ints_nil _ _) (by omega) (by omega))
          go_upto_region 19 with (go_at_call 12; (with_reducible refine (CS9.out).mono ?_); rintro e w8 ⟨rfl, -, hs_, hb_, -⟩; have HS8 := Lib.hid hs_; have HB8 := Lib.hid (HB7.out.trans hb_); clear hs_ hb_ CS9 HD7 HS7)
          have CV8 := Lib.hid (ck_Vn w8 N M _ HS8.out)
          go_wp2_with (go_at_call 13; (with_reducible refine (CV8.out).mono ?_); rintro e wx ⟨rfl, hz9⟩; have hz8 := hz9.symm; subst hz8)
          go_ret
          exact ⟨by first | rfl | simp, HB8.out⟩
      · have CO := Lib.hid (ck_Open_no w.heap.size M [] 2 (some m) w4 l hno HD4.out (fun b hb => absurd hb List.not_mem_nil) HB4.out.size (by omega))
        go_upto_region 11 with (go_at_call 11; (with_reducible refine (CO.out).mono ?_); rintro e w5 ⟨rfl, ⟨c1, hc1, hd_⟩, hb_, -⟩; have HD5 := Lib.hid hd_; have HB5 := Lib.hid (HB4.out.trans hb_); clear hd_ hb_ CO HD4)
        have CG := Lib.hid (fref_Get_no a len cap l w5 (HL.out.later HB5.out) (by omega) hno)
        go_upto_region 12 with (go_at_call 23; (with_reducible refine (CG.out).mono ?_); rintro e w6 ⟨rfl, hb_⟩; have HD6 := Lib.hid (HD5.out.later hb_); have HB6 := Lib.hid (belStep HB5.out hb_); clear hb_ CG HD5)
        have CN := Lib.hid (ck_Names w.heap.size M _ c1 (some l) w6 HD6.out HB6.out.size (by omega))
        go_wp2_with (go_at_call 18; (with_reducible refine (CN.out).mono ?_); rintro e w7 ⟨na, nk, rfl, hnk1, hnk2, -, hb_⟩)
        go_ret
        exact ⟨by first | rfl | simp, belStep HB6.out hb_⟩

set_option maxRecDepth 100000 in
theorem lifted (os : Os) (started : os.Started) (H : Type) (enc : TypeId × Value → H) :
    ReturnsInHanded {} Try.checked os 5 .any (Rows.ckptOpensSpec.pre6 enc Try.prog Try.f5 Rows.ckptOpensRow.domain false) (Rows.ckptOpensSpec.post enc Try.prog Try.f5 false true false false) := by
  refine returnsInHanded_of_change (C := Try.checked) own started (by kernel_rfl) Try.func5
    (ChangeSpec.witness6 (enc := enc) (C := Try.checked) false ⟨#[], #[.slice none 0 0, .slice none 0 0, .bool false], []⟩ 8 (by kernel_rfl) (by kernel_rfl) (by kernel_rfl) (by kernel_rfl)) ?_
  intro W base args ds gs before hval0 hW hcnd _
  have hval : ∀ (j : Nat) t v, Try.f5.params[j]? = some t → args[j]? = some v → Value.okWide Try.prog W .any base t v := hval0
  have hW' := hW
  obtain ⟨p, q, hA0, hV, rfl, hfz, hnd⟩ := hW
  have hA : DataW.TrodAll enc Try.prog W 0 (fun _ => true) true Try.f5.params.toList args.toList ds p := hA0
  rw [Try.params5] at hA hval
  obtain ⟨v0, vs0, d0, ds0, p0, q0, hargs, rfl, rfl, h0, r0⟩ := trodAll_cons hA
  obtain ⟨v1, vs1, d1, ds1, p1, q1, rfl, rfl, rfl, h1, r1⟩ := trodAll_cons r0
  obtain ⟨v2, vs2, d2, ds2, p2, q2, rfl, rfl, rfl, h2, r2⟩ := trodAll_cons r1
  obtain ⟨rfl, rfl, rfl⟩ := trodAll_nil r2
  obtain rfl : args = #[v0, v1, v2] := by cases args; simp_all
  obtain ⟨rfl, rfl⟩ := trodVars_none hV
  have k0 := h0
  have lt0 : ∀ x ∈ p0, x.block < W.heap.size := by obtain ⟨m, hm⟩ := k0; exact DataW.trod_lt m _ _ _ hm
  have o0 : Value.okWide Try.prog W .any base 29 v0 := hval 0 29 v0 rfl rfl
  obtain ⟨a0, len0, cap0, rfl⟩ := okWide_slice Try.underlying29 o0
  obtain ⟨z0, w0⟩ : ∃ zs, Ints .u8 W a0 len0 cap0 zs := ints_of_trod Try.underlying29 Try.underlying5 (by kernel_rfl) h0
  have k1 := h1
  have lt1 : ∀ x ∈ p1, x.block < W.heap.size := by obtain ⟨m, hm⟩ := k1; exact DataW.trod_lt m _ _ _ hm
  have o1 : Value.okWide Try.prog W .any base 29 v1 := hval 1 29 v1 rfl rfl
  obtain ⟨a1, len1, cap1, rfl⟩ := okWide_slice Try.underlying29 o1
  obtain ⟨z1, w1⟩ : ∃ zs, Ints .u8 W a1 len1 cap1 zs := ints_of_trod Try.underlying29 Try.underlying5 (by kernel_rfl) h1
  have k2 := h2
  have lt2 : ∀ x ∈ p2, x.block < W.heap.size := by obtain ⟨m, hm⟩ := k2; exact DataW.trod_lt m _ _ _ hm
  have o2 : Value.okWide Try.prog W .any base 4 v2 := hval 2 4 v2 rfl rfl
  obtain ⟨a2, rfl, rfl, rfl⟩ := open_bool Try.underlying4 o2 h2
  clear hA0 hval0
  refine (walk a0 len0 cap0 z0 a1 len1 cap1 z1 a2 W w0 w1).mono fun e W' ⟨he, bel⟩ => ?_
  subst he
  exact ⟨_, rfl, _, _, _, [], _, [], hW', trodAll_mk1 (shut_bool Try.underlying4 _), (trodAll_cons_mk (Below.trod laidOut (by kernel_rfl) (of_decide_eq_true (by kernel_rfl)) k0 bel lt0) (trodAll_cons_mk (Below.trod laidOut (by kernel_rfl) (of_decide_eq_true (by kernel_rfl)) k1 bel lt1) (trodAll_cons_mk (Below.trod laidOut (by kernel_rfl) (of_decide_eq_true (by kernel_rfl)) k2 bel lt2) trodAll_mk0))), rfl, bel.frame _, fun h => by cases h⟩

theorem over : Rows.ckptOpensRow.holds Try.pinned (OpenSpec.ofChange Rows.ckptOpensSpec) :=
  OpenClaim.holds_of_wide 5 Try.f5 rfl rfl rfl rfl rfl rfl rfl ⟨rfl, rfl, rfl, rfl, rfl⟩ rfl rfl rfl rfl rfl (by kernel_rfl) Try.func5 (by kernel_rfl)
    (of_decide_eq_true (by kernel_rfl)) (by unfold Func.isWrapper; first | (rw [if_pos (by decide +kernel)]; kernel_rfl) | (rw [if_neg (by decide +kernel)]; exact ⟨rfl, rfl⟩))
    (fun os started H enc _ => lifted os started H enc)

/-- The statement. -/
theorem proved : Rows.CkptOpensSaid := over
#print axioms proved

end Go.Proofs.Ytcbblgeleboggaa.ckptOpens
