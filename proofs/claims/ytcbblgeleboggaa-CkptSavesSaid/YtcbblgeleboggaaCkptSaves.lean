
/- CkptSaves holds for every list of slices of bytes and every uint32. No conditions. -/
import Derived.Test.YtcbblgeleboggaaCk8
import Derived.BigQuiet
namespace Go.Proofs.Ytcbblgeleboggaa.ckptSaves
open Go.ChangeShapes Go.WideShapes Go.ChangeAt Go.RowKit
open Go.ChangeMaps (open_string shut_string)
set_option linter.unusedVariables false
open Go.RowKit Go.Sort Go.Maps
set_option linter.unusedSimpArgs false
set_option maxRecDepth 100000 in
set_option maxHeartbeats 16000000 in
theorem walk (a : Option Addr) (len cap : Nat) (L : List BodyV) (r : Int) (w : World) (hl : L.length = len) (hg : ∀ x ∈ L, x.good w) (hR : Row w a len cap 1 (L.flatMap BodyV.cells)) (hr : 0 ≤ r ∧ r ≤ 4294967295) :
    Calls Try.prog 3 #[.slice a len cap, .int .u32 r] w fun e w' => e = .returned (.bool true) ∧ Below w.heap.size w w' := by
  have hw : Below w.heap.size w w := Below.refl _ _
  have hbel := hw
  have hbd_a : len ≤ cap ∧ cap ≤ 9223372036854775807 := by obtain ⟨_, h1, h2, _⟩ := hR; unfold maxLen at h2; exact ⟨h1, h2⟩
  obtain ⟨hbd1_a, hbd2_a⟩ := hbd_a
  have HR := Lib.hid hR
  have HG := Lib.hid hg
  subst hl
  have CF := Lib.hid (fun u (hu : Below w.heap.size w u) => few_11 a L.length cap L u rfl (Row.later hR hu) (fun x hx => (hg x hx).later hu))
  clear hR hg
  obtain ⟨t, rfl⟩ : ∃ t : Nat, r = t := ⟨r.toNat, by have := hr.1; omega⟩
  cases hfb : fewB L with
  | false =>
    rw [hfb] at CF
    go_enter Try.func3, Try.ntmps3
    go_wp2_with (first | (go_at_call 8; (with_reducible refine (awake_11 _).mono ?_); rintro e wa ⟨rfl, ha⟩; have hbel := belStep hbel ha; clear ha) | (go_at_call 9; (with_reducible refine (CF.out _ hbel).mono ?_); rintro e wa ⟨rfl, ha⟩; have hbel := belStep hbel ha; clear ha))
    go_ret
    exact ⟨rfl, hbel⟩
  | true =>
    rw [hfb] at CF
    have HFB := Lib.hid hfb
    have hL20 := fewB_len hfb
    clear hfb
    go_enter Try.func3, Try.ntmps3
    go_upto_region 6 with (first | (go_at_call 8; (with_reducible refine (awake_11 _).mono ?_); rintro e wa ⟨rfl, ha⟩; have hbel := belStep hbel ha; clear ha) | (go_at_call 9; (with_reducible refine (CF.out _ hbel).mono ?_); rintro e wa ⟨rfl, ha⟩; have hbel := belStep hbel ha; clear ha) | (go_at_call 10; (with_reducible refine (dl_New w.heap.size [] _ (fun b hb => absurd hb List.not_mem_nil) hbel.size).mono ?_); rintro e w1 ⟨M, rfl, hd_, hb_⟩; have HD := Lib.hid (show DKv w.heap.size w1 M [] (ckD 0 none none) from hd_); have HB1 := Lib.hid (hbel.trans hb_); clear hd_ hb_))
    clear hbel hw CF
    have C1 := Lib.hid (ck_Open_none w.heap.size M [] 0 none w1 HD.out (fun b hb => absurd hb List.not_mem_nil) HB1.out.size (by omega))
    go_upto_region 9 with (go_at_call 11; (with_reducible refine (C1.out).mono ?_); rintro e w2 ⟨N, rfl, hs_, hn_, ⟨⟨c1, hc1, hd_⟩, hb_, -⟩⟩; have HS := Lib.hid hs_; have HD2 := Lib.hid hd_; have HB2 := Lib.hid (HB1.out.trans hb_); have hN : w.heap.size ≤ N := Nat.le_trans HB1.out.size hn_; clear hs_ hd_ hb_ hn_ C1 HD HB1)
    go_wp2
    go_loopw [6, 9] (fun s i wr => ∃ (k N c : Nat), k ≤ L.length ∧ i = .int .i64 k ∧ s = .pointer (some ⟨N, 0, none⟩) ∧ w.heap.size ≤ N ∧ c ≤ 3 * k + 1 ∧ DKv w.heap.size wr M [N] (ckD c (savedF L k) none) ∧ StA wr N M (k : Int) ∧ Below w.heap.size w wr) (fun _ i _ => L.length - (intOf i).toNat)
    case atStart => exact ⟨0, N, c1, Nat.zero_le _, rfl, rfl, hN, by omega, HD2.out, HS.out, HB2.out⟩
    case round =>
      clear HS HD2 HB2 hN
      obtain ⟨k, N, c, hk, rfl, rfl, hN, hc, hd, hs, hbel⟩ := hrel
      have HD := Lib.hid hd
      have HS := Lib.hid hs
      have HB := Lib.hid hbel
      clear hd hs
      by_cases hlt : k < L.length
      · have hd : decide ((k : Int) < (L.length : Int)) = true := decide_eq_true (by omega)
        have hki : (k : Int) < (L.length : Int) := by omega
        have hk0 : (0 : Int) ≤ (k : Int) := by omega
        have hwk : IntKind.i64.wrap ((k : Int) + 1) = (k : Int) + 1 := IntWalk.i64_in _ (by omega)
        obtain ⟨x, hx⟩ : ∃ x, L[k]? = some x := ⟨L[k], List.getElem?_eq_getElem hlt⟩
        obtain ⟨bc, oc, ec, _, hcc⟩ := (HR.out).elem BodyV.cells_len (by omega) hx
        subst ec
        have c0 := keep (hcc 0 _ rfl)
        rw [Nat.add_zero] at c0
        rw [Nat.mul_one] at c0
        have HX := Lib.hid hx
        have hx300 := fewB_body HFB.out (List.mem_of_getElem? hx)
        have HG2 := Lib.hid (HG.out _ (List.mem_of_getElem? hx))
        clear hx hcc
        have hNl := Blk.lt HS.out
        have CS := Lib.hid (ck_Save w.heap.size N M [N] [] c (savedF L k) wr k HD.out HS.out (fun b hb => by simp at hb; subst hb; exact hNl) HB.out.size List.mem_cons_self hN (fun b hb => absurd hb List.not_mem_nil) List.not_mem_nil (by omega) x.ba x.Z.length x.bc x.Z (HG2.out.later HB.out) (by omega) (by omega))
        rw [← savedF_next HX.out] at CS
        go_upto_region 12 with fail
        go_upto_region 14 with (first | (go_at_call 12; (with_reducible refine (CS.out).mono ?_); rintro e w3 ⟨rfl, hd_, hs_, hb_, -⟩; have HD3 := Lib.hid hd_; have HS3 := Lib.hid hs_; have HB3 := Lib.hid (HB.out.trans hb_); have CV := Lib.hid (ck_Vn w3 N M _ hs_); have hbel := HB3.out; clear hd_ hs_ hb_ CS HD HS) | (go_at_call 13; (with_reducible refine (CV.out).mono ?_); rintro e wx ⟨rfl, hz9⟩; have hz8 := hz9.symm; subst hz8))
        have CM := Lib.hid (ck_main w.heap.size M [N] (c + 2) (savedF L (k + 1)) w3 HD3.out HB3.out.size (by omega))
        rw [savedF_next HX.out] at CM
        have hlf : (frameL (k + 1) x.Z).length = x.Z.length + 16 := frameL_len _ _
        have CM2 := CM.out
        rw [show rdE (some (frameL (k + 1) x.Z)) = 0 from rfl, show (Option.getD (some (frameL (k + 1) x.Z)) ([] : List Int)) = frameL (k + 1) x.Z from rfl, hlf] at CM2
        have CM3 := Lib.hid CM2
        clear CM CM2 hlf
        go_upto_region 15 with (go_at_call 14; (with_reducible refine (CM3.out).mono ?_); rintro e w4 ⟨a4, c4, rfl, hi_, -, hd_, hb_⟩; have HD4 := Lib.hid hd_; have HI4 := Lib.hid hi_; have HS4 := Lib.hid (Blk.later HS3.out hb_); have HB4 := Lib.hid (belStep HB3.out hb_); have hbel := HB4.out; clear hi_ hd_ hb_ CM3 HD3 HS3)
        have CP := Lib.hid (ref_Put k x.ba x.Z.length x.bc x.Z w4 (by omega) (HG2.out.later HB4.out) (by omega))
        go_upto_region 17 with (first | (go_at_call 16; (with_reducible refine (CP.out).mono ?_); rintro e w5 ⟨a5, c5, rfl, hi_, hb_⟩; have HD5 := Lib.hid (HD4.out.later hb_); have HS5 := Lib.hid (Blk.later HS4.out hb_); have HB5 := Lib.hid (belStep HB4.out hb_); have CSm := Lib.hid (same_self _ _ _ _ _ _ w5 (HI4.out.later hb_) hi_); have COp := Lib.hid (ck_nOpen w.heap.size M [N] (c + 2) _ none w5 HD5.out HB5.out.size); have CN := Lib.hid (ck_Names w.heap.size M [N] (c + 2) (some (frameL (k + 1) x.Z)) w5 HD5.out HB5.out.size (by omega)); clear hi_ hb_ CP HD4 HS4 HI4) | (go_at_call 15; (with_reducible refine (CSm.out).mono ?_); rintro e wx ⟨rfl, hz9⟩; subst hz9) | (go_at_call 17; (with_reducible refine (COp.out).mono ?_); rintro e wx ⟨rfl, hz9⟩; have hz8 := hz9.symm; subst hz8) | (go_at_call 18; (with_reducible refine (CN.out).mono ?_); rintro e w6 ⟨na, nk, rfl, hnk1, hnk2, hd_, hb_⟩; have HD6 := Lib.hid hd_; have HS6 := Lib.hid (Blk.later HS5.out hb_); have HB6 := Lib.hid (belStep HB5.out hb_); have hbel := HB6.out; clear hd_ hb_ hnk1 hnk2 CN COp CSm HD5 HS5))
        rcases Bool.eq_false_or_eq_true (bits .and .u32 ((t : Int) / 2 ^ k) 1 == 1) with hr1 | hr1
        · have C6 := Lib.hid (ck_Open_ok w.heap.size M [N] (c + 2) none w6 (frameL (k + 1) x.Z) (k + 1) x.Z x.Z.length ⟨rfl, by omega, by omega⟩ rfl HD6.out (fun b hb => by simp at hb; subst hb; exact Blk.lt HS6.out) HB6.out.size (by omega))
          go_upto_region 19 with (go_at_call 11; (with_reducible refine (C6.out).mono ?_); rintro e w7 ⟨N2, g, c7, ax, cx, rfl, -, hq_, -, hi_, hs_, hn_, -, ⟨⟨c8, hc8, hd_⟩, hb_, -⟩⟩; have HD7 := Lib.hid hd_; have HB7 := Lib.hid (HB6.out.trans hb_); have HI7 := Lib.hid hi_; have HS7 := Lib.hid (show StA w7 N2 M ((k : Int) + 1) from hs_); have hN2 : w.heap.size ≤ N2 := Nat.le_trans HB6.out.size hn_; have hbel := HB7.out; clear hq_ hd_ hb_ hi_ hs_ hn_ C6 HD6 HS6)
          have CV7 := Lib.hid (ck_Vn w7 N2 M _ HS7.out)
          have CSm := Lib.hid (same_self _ _ _ _ _ _ w7 HI7.out (HG2.out.later HB7.out))
          go_wp2_with (first | (go_at_call 15; (with_reducible refine (CSm.out).mono ?_); rintro e wx ⟨rfl, hz9⟩; subst hz9) | (go_at_call 13; (with_reducible refine (CV7.out).mono ?_); rintro e wx ⟨rfl, hz9⟩; have hz8 := hz9.symm; subst hz8))
          go_roundw
          case rel => exact ⟨k + 1, N2, c8, by omega, by push_cast; rfl, rfl, hN2, by omega, by rw [savedF_next HX.out]; exact HD7.out.more (fun b hb => .inl (by simp at hb; subst hb; exact List.mem_cons_self)), by push_cast; exact HS7.out, HB7.out⟩
          case measure => simp [intOf] <;> omega
        · go_wp2
          go_roundw
          case rel => exact ⟨k + 1, N, c + 2, by omega, by push_cast; rfl, rfl, hN, by omega, by rw [savedF_next HX.out]; exact HD6.out, by push_cast; exact HS6.out, HB6.out⟩
          case measure => simp [intOf] <;> omega
      · obtain rfl : k = L.length := by omega
        go_wp2
        go_ret
        exact ⟨rfl, HB.out⟩

set_option maxRecDepth 100000 in
theorem lifted (os : Os) (started : os.Started) (H : Type) (enc : TypeId × Value → H) :
    ReturnsInHanded {} Try.checked os 3 .any (Rows.ckptSavesSpec.pre6 enc Try.prog Try.f3 Rows.ckptSavesRow.domain false) (Rows.ckptSavesSpec.post enc Try.prog Try.f3 false true false false) := by
  refine returnsInHanded_of_change (C := Try.checked) own started (by kernel_rfl) Try.func3
    (ChangeSpec.witness6 (enc := enc) (C := Try.checked) false ⟨#[], #[.slice none 0 0, .int .u32 0], []⟩ 8 (by kernel_rfl) (by kernel_rfl) (by kernel_rfl) (by kernel_rfl)) ?_
  intro W base args ds gs before hval0 hW hcnd _
  have hval : ∀ (j : Nat) t v, Try.f3.params[j]? = some t → args[j]? = some v → Value.okWide Try.prog W .any base t v := hval0
  have hW' := hW
  obtain ⟨p, q, hA0, hV, rfl, hfz, hnd⟩ := hW
  have hA : DataW.TrodAll enc Try.prog W 0 (fun _ => true) true Try.f3.params.toList args.toList ds p := hA0
  rw [Try.params3] at hA hval
  obtain ⟨v0, vs0, d0, ds0, p0, q0, hargs, rfl, rfl, h0, r0⟩ := trodAll_cons hA
  obtain ⟨v1, vs1, d1, ds1, p1, q1, rfl, rfl, rfl, h1, r1⟩ := trodAll_cons r0
  obtain ⟨rfl, rfl, rfl⟩ := trodAll_nil r1
  obtain rfl : args = #[v0, v1] := by cases args; simp_all
  obtain ⟨rfl, rfl⟩ := trodVars_none hV
  have k0 := h0
  have lt0 : ∀ x ∈ p0, x.block < W.heap.size := by obtain ⟨m, hm⟩ := k0; exact DataW.trod_lt m _ _ _ hm
  have o0 : Value.okWide Try.prog W .any base 22 v0 := hval 0 22 v0 rfl rfl
  obtain ⟨xa0, xn0, xc0, xl0, rfl, fl0, fo0, fr0⟩ := open_bodies o0 h0
  have k1 := h1
  have lt1 : ∀ x ∈ p1, x.block < W.heap.size := by obtain ⟨m, hm⟩ := k1; exact DataW.trod_lt m _ _ _ hm
  have o1 : Value.okWide Try.prog W .any base 23 v1 := hval 1 23 v1 rfl rfl
  obtain ⟨a1, rfl, rfl, rfl, w1⟩ := open_int Try.underlying23 o1 h1
  clear hA0 hval0
  refine (walk xa0 xn0 xc0 xl0 a1 W fl0 fo0 fr0 (in32_of_wf w1)).mono fun e W' ⟨he, bel⟩ => ?_
  subst he
  exact ⟨_, rfl, _, _, _, [], _, [], hW', trodAll_mk1 (shut_bool Try.underlying4 _), (trodAll_cons_mk (Below.trod laidOut (by kernel_rfl) (of_decide_eq_true (by kernel_rfl)) k0 bel lt0) (trodAll_cons_mk (Below.trod laidOut (by kernel_rfl) (of_decide_eq_true (by kernel_rfl)) k1 bel lt1) trodAll_mk0)), rfl, bel.frame _, fun h => by cases h⟩

theorem over : Rows.ckptSavesRow.holds Try.pinned (OpenSpec.ofChange Rows.ckptSavesSpec) :=
  OpenClaim.holds_of_wide 3 Try.f3 rfl rfl rfl rfl rfl rfl rfl ⟨rfl, rfl, rfl, rfl, rfl⟩ rfl rfl rfl rfl rfl (by kernel_rfl) Try.func3 (by kernel_rfl)
    (of_decide_eq_true (by kernel_rfl)) (by unfold Func.isWrapper; first | (rw [if_pos (by decide +kernel)]; kernel_rfl) | (rw [if_neg (by decide +kernel)]; exact ⟨rfl, rfl⟩))
    (fun os started H enc _ => lifted os started H enc)

/-- The statement. -/
theorem proved : Rows.CkptSavesSaid := over
#print axioms proved

end Go.Proofs.Ytcbblgeleboggaa.ckptSaves
