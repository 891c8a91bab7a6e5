
/- CkptCrash holds for every list of slices of bytes, every slice of bytes, every whole number and every list of whole numbers. No conditions. -/
import Derived.Test.YtcbblgeleboggaaCkB
import Derived.BigQuiet
namespace Go.Proofs.Ytcbblgeleboggaa.ckptCrash
open Go.ChangeShapes Go.WideShapes Go.ChangeAt Go.RowKit
open Go.ChangeMaps (open_string shut_string)
set_option linter.unusedVariables false
open Go.RowKit Go.Sort Go.Maps
set_option linter.unusedSimpArgs false
theorem ck_temp (B M : Nat) (X : List Nat) (c : Nat) (o : Option (List Int)) (w : World) (h : DKv B w M X (ckD c o none)) (hB : B ≤ w.heap.size) (hc : c ≤ 90001) : Calls Try.prog 14 #[.pointer (some ⟨M, 0, none⟩), .string ⟨#[116, 101, 109, 112]⟩] w (fun e w' => ∃ v, e = .returned (.tuple #[v, .int .i64 4]) ∧ DKv B w' M X (ckD c o none) ∧ Below w.heap.size w w') := by
  have z := dl_Read B M X _ w h hB (show c + 0 ≤ 100000 by omega) nTemp (by decide +kernel)
  have e1 : getF (ckD c o none).look nTemp = none := ckF_temp o none
  rw [e1] at z
  refine z.mono ?_
  rintro e wq ⟨a, k, rfl, _, _, _, h4, h5⟩
  exact ⟨_, rfl, h4, h5⟩
theorem a_again : ((strOfNums [97, 103, 97, 105, 110]).toList == [97, 103, 97, 105, 110]) = true := by decide +kernel
set_option maxRecDepth 100000 in
set_option maxHeartbeats 16000000 in
theorem walk (a : Option Addr) (len cap : Nat) (L : List BodyV) (b0 : Option Addr) (bn bc : Nat) (m : List Int) (s : Int) (ka : Option Addr) (kn kc : Nat) (K : List Int) (w : World) (hl : L.length = len) (hg : ∀ x ∈ L, x.good w) (hR : Row w a len cap 1 (L.flatMap BodyV.cells)) (hm : Ints .u8 w b0 bn bc m) (hs : InI s) (hk : Ints .i64 w ka kn kc K) :
    Calls Try.prog 4 #[.slice a len cap, .slice b0 bn bc, .int .i64 s, .slice ka kn kc] w fun e w' => e = .returned (.bool true) ∧ Below w.heap.size w w' := by
  have hst := a_again
  have hcb := fun (v : World) (C : Array Value) (n c : Nat) => Lib.run_convert_bytes_const (P := Try.prog) v 29 5 C n c Try.underlying29 Try.underlying5
  have hw : Below w.heap.size w w := Below.refl _ _
  have hbel := hw
  have hbd_a : len ≤ cap ∧ cap ≤ 9223372036854775807 := by obtain ⟨_, h1, h2, _⟩ := hR; unfold maxLen at h2; exact ⟨h1, h2⟩
  obtain ⟨hbd1_a, hbd2_a⟩ := hbd_a
  have HR := Lib.hid hR
  have HG := Lib.hid hg
  subst hl
  have CF := Lib.hid (fun u (hu : Below w.heap.size w u) => few_11 a L.length cap L u rfl (Row.later hR hu) (fun x hx => (hg x hx).later hu))
  clear hR hg
  obtain ⟨hm1, hm2, hm3⟩ := hm.bounds
  obtain ⟨hk1, hk2, hk3⟩ := hk.bounds
  have HM := Lib.hid hm
  have HK := Lib.hid hk
  clear hm hk
  subst hm1
  subst hk1
  obtain ⟨hs1, hs2⟩ := hs
  cases hfb : fewB L with
  | false =>
    rw [hfb] at CF
    go_enter Try.func4, Try.ntmps4
    go_wp2_with (first | (go_at_call 8; (with_reducible refine (awake_11 _).mono ?_); rintro e wa ⟨rfl, ha⟩; have hbel := belStep hbel ha; clear ha) | (go_at_call 9; (with_reducible refine (CF.out _ hbel).mono ?_); rintro e wa ⟨rfl, ha⟩; have hbel := belStep hbel ha; clear ha))
    go_ret
    exact ⟨rfl, hbel⟩
  | true =>
    rw [hfb] at CF
    have HFB := Lib.hid hfb
    have hL20 := fewB_len hfb
    clear hfb
    by_cases h300 : 300 < m.length
    · go_enter Try.func4, Try.ntmps4
      go_wp2_with (first | (go_at_call 8; (with_reducible refine (awake_11 _).mono ?_); rintro e wa ⟨rfl, ha⟩; have hbel := belStep hbel ha; clear ha) | (go_at_call 9; (with_reducible refine (CF.out _ hbel).mono ?_); rintro e wa ⟨rfl, ha⟩; have hbel := belStep hbel ha; clear ha))
      go_ret
      exact ⟨rfl, hbel⟩
    · by_cases h60 : 60 < K.length
      · go_enter Try.func4, Try.ntmps4
        go_wp2_with (first | (go_at_call 8; (with_reducible refine (awake_11 _).mono ?_); rintro e wa ⟨rfl, ha⟩; have hbel := belStep hbel ha; clear ha) | (go_at_call 9; (with_reducible refine (CF.out _ hbel).mono ?_); rintro e wa ⟨rfl, ha⟩; have hbel := belStep hbel ha; clear ha))
        go_ret
        exact ⟨rfl, hbel⟩
      · go_enter Try.func4, Try.ntmps4
        go_upto_region 6 with (first | (go_at_call 8; (with_reducible refine (awake_11 _).mono ?_); rintro e wa ⟨rfl, ha⟩; have hbel := belStep hbel ha; clear ha) | (go_at_call 9; (with_reducible refine (CF.out _ hbel).mono ?_); rintro e wa ⟨rfl, ha⟩; have hbel := belStep hbel ha; clear ha) | (go_at_call 10; (with_reducible refine (dl_New w.heap.size [] _ (fun b hb => absurd hb List.not_mem_nil) hbel.size).mono ?_); rintro e w1 ⟨M, rfl, hd_, hb_⟩; have HD := Lib.hid (show DKv w.heap.size w1 M [] (ckD 0 none none) from hd_); have HB1 := Lib.hid (hbel.trans hb_); clear hd_ hb_))
        clear hbel hw CF
        have C1 := Lib.hid (ck_Open_none w.heap.size M [] 0 none w1 HD.out (fun b hb => absurd hb List.not_mem_nil) HB1.out.size (by omega))
        go_upto_region 9 with (go_at_call 11; (with_reducible refine (C1.out).mono ?_); rintro e w2 ⟨N, rfl, hs_, hn_, ⟨⟨c1, hc1, hd_⟩, hb_, -⟩⟩; have HS := Lib.hid hs_; have HD2 := Lib.hid hd_; have HB2 := Lib.hid (HB1.out.trans hb_); have hN : w.heap.size ≤ N := Nat.le_trans HB1.out.size hn_; clear hs_ hd_ hb_ hn_ C1 HD HB1)
        go_wp2
        go_loopw [13] (fun i wr => ∃ (k c : Nat), k ≤ L.length ∧ i = .int .i64 k ∧ c ≤ 2 * k + 1 ∧ DKv w.heap.size wr M [N] (ckD c (savedF L k) none) ∧ StA wr N M (k : Int) ∧ Below w.heap.size w wr) (fun i _ => L.length - (intOf i).toNat)
        case atStart => exact ⟨0, c1, Nat.zero_le _, rfl, by omega, HD2.out, HS.out, HB2.out⟩
        case round =>
          clear HS HD2 HB2
          obtain ⟨k, c, hkk, rfl, hc, hd, hst, hbel⟩ := hrel
          have HD := Lib.hid hd
          have HS := Lib.hid hst
          have HB := Lib.hid hbel
          clear hd hst
          by_cases hlt : k < L.length
          · have hd : decide ((k : Int) < (L.length : Int)) = true := decide_eq_true (by omega)
            have hki : (k : Int) < (L.length : Int) := by omega
            have hk0 : (0 : Int) ≤ (k : Int) := by omega
            obtain ⟨x, hx⟩ : ∃ x, L[k]? = some x := ⟨L[k], List.getElem?_eq_getElem hlt⟩
            obtain ⟨bc, oc, ec, _, hcc⟩ := (HR.out).elem BodyV.cells_len (by omega) hx
            subst ec
            have c0 := keep (hcc 0 _ rfl)
            rw [Nat.add_zero] at c0
            rw [Nat.mul_one] at c0
            have HX := Lib.hid hx
            have hx300 := fewB_body HFB.out (List.mem_of_getElem? hx)
            have HG2 := Lib.hid (HG.out _ (List.mem_of_getElem? hx))
            clear hx hcc
            have hNl := Blk.lt HS.out
            have CS := Lib.hid (ck_Save w.heap.size N M [N] [] c (savedF L k) wr k HD.out HS.out (fun b hb => by simp at hb; subst hb; exact hNl) HB.out.size List.mem_cons_self hN (fun b hb => absurd hb List.not_mem_nil) List.not_mem_nil (by omega) x.ba x.Z.length x.bc x.Z (HG2.out.later HB.out) (by omega) (by omega))
            rw [← savedF_next HX.out] at CS
            go_wp2_with (go_at_call 12; (with_reducible refine (CS.out).mono ?_); rintro e w3 ⟨rfl, hd_, hs_, hb_, -⟩)
            go_roundw
            case rel => exact ⟨k + 1, c + 2, by omega, by push_cast; rfl, by omega, hd_, by push_cast; exact hs_, HB.out.trans hb_⟩
            case measure => simp [intOf] <;> omega
          · obtain rfl : k = L.length := by omega
            have hNl := Blk.lt HS.out
            obtain ⟨f, hf⟩ : ∃ f, frameL (L.length + 1) m = f := ⟨_, rfl⟩
            obtain ⟨o, ho⟩ : ∃ o, savedF L L.length = o := ⟨_, rfl⟩
            have HF := Lib.hid hf
            have HOo := Lib.hid ho
            rw [ho] at HD
            have CP := Lib.hid (ck_Part w.heap.size N M [N] [] c o wr L.length HD.out HS.out (fun b hb => by simp at hb; subst hb; exact hNl) HB.out.size List.mem_cons_self hN (fun b hb => absurd hb List.not_mem_nil) List.not_mem_nil (by omega) b0 m.length bc m (HM.out.later HB.out) (by omega) (by omega) s ⟨hs1, hs2⟩ (clampN s) rfl)
            rw [hf] at CP
            clear hf ho hbel
            have hwk : IntKind.i64.wrap ((L.length : Int) + 1) = (L.length : Int) + 1 := IntWalk.i64_in _ (by omega)
            have hne1 : ((L.length : Int) + 1 == (L.length : Int)) = false := by rw [beq_eq_false_iff_ne]; omega
            have hne2 : ((L.length : Int) == (L.length : Int) + 1) = false := by rw [beq_eq_false_iff_ne]; omega
            by_cases hs4 : 4 ≤ s
            · have hcl : clampN s = 4 := by unfold clampN; omega
              rw [hcl] at CP
              have hd4 : decide (s < 4) = false := decide_eq_false (by omega)
              have hd5 : decide ((4 : Int) ≤ s) = true := decide_eq_true hs4
              have hi4 : ¬ s < 4 := by omega
              go_upto_region 14 with fail
              go_upto_region 16 with (go_at_call 19; (with_reducible refine (CP.out).mono ?_); rintro e w4 ⟨rfl, hd_, hs_, hb_, -⟩; have HD4 := Lib.hid hd_; have HS4 := Lib.hid (show StA w4 N M ((L.length : Int) + 1) from by first | exact hs_ | (rw [if_pos rfl] at hs_; exact hs_) | (rw [if_neg (by omega)] at hs_; exact hs_)); have HB4 := Lib.hid (HB.out.trans hb_); clear hd_ hs_ hb_ CP HD HS HB)
              have CV := Lib.hid (ck_Vn w4 N M _ HS4.out)
              have hNl4 := Blk.lt HS4.out
              go_upto_region 18 with (go_at_call 13; (with_reducible refine (CV.out).mono ?_); rintro e wx ⟨rfl, hz9⟩; have hz8 := hz9.symm; subst hz8)
              obtain ⟨cz, tz, hcz, hcr⟩ := crash_part c o f 4 K
              have CC := Lib.hid (dl_Crash w.heap.size M [N] _ w4 HD4.out (fun b hb => by simp at hb; subst hb; exact hNl4) HB4.out.size (Nat.le_trans (part_cap c o f 4) (by omega)) ka K.length kc K (HK.out.later HB4.out))
              rw [hcr] at CC
              clear hcr
              go_upto_region 19 with (go_at_call 20; (with_reducible refine (CC.out).mono ?_); rintro e w5 ⟨rfl, hd_, hb_, hf_⟩; have HD5 := Lib.hid hd_; have HB5 := Lib.hid (HB4.out.trans hb_); have hs5 : w4.heap.size ≤ w5.heap.size := hf_.size; clear hd_ hb_ hf_ CC CV HD4 HS4 HB4)
              have hk4 : keptF o f 4 K = some f := by unfold keptF; rw [if_pos (.inl (by omega))]
              rw [hk4] at HD5
              have hd3 : decide (s < 3) = false := decide_eq_false (by omega)
              have hi3 : ¬ s < 3 := by omega
              rw [← HF.out] at HD5
              have CO := Lib.hid (ck_Open_ok w.heap.size M [N] cz tz w5 (frameL (L.length + 1) m) (L.length + 1) (m) (m.length) ⟨rfl, by omega, by omega⟩ rfl HD5.out (fun b hb => by simp at hb; subst hb; exact Nat.lt_of_lt_of_le hNl4 hs5) HB5.out.size (by omega))
              go_upto_region 22 with (go_at_call 11; (with_reducible refine (CO.out).mono ?_); rintro e wa ⟨N2, g, c7, ax, cx, rfl, -, hq_, -, hi_, hs_, hn_, -, ⟨⟨c9, hc9, hd_⟩, hb_, -⟩⟩; have HDa := Lib.hid (hd_.more (Y := [N2]) (fun b hb => .inl (by simp at hb; subst hb; exact List.mem_cons_self))); have HSa := Lib.hid hs_; have HBa := Lib.hid (HB5.out.trans hb_); have HIa := Lib.hid hi_; have hN2 : w.heap.size ≤ N2 := Nat.le_trans HB5.out.size hn_; have hbel := HBa.out; clear hq_ hd_ hb_ hi_ hs_ hn_ CO HD5)
              have CV := Lib.hid (ck_Vn wa N2 M ((L.length : Int) + 1) (show StA wa N2 M ((L.length : Int) + 1) from HSa.out))
              have CSm := Lib.hid (same_self ax m.length cx m b0 bc wa HIa.out (HM.out.later HBa.out))
              go_upto_region 26 with (first | (go_at_call 13; (with_reducible refine (CV.out).mono ?_); rintro e wx ⟨rfl, hz9⟩; have hz8 := hz9.symm; subst hz8) | (go_at_call 15; (with_reducible refine (CSm.out).mono ?_); rintro e wx ⟨rfl, hz9⟩; subst hz9))
              clear CV CSm
              have CT := Lib.hid (ck_temp w.heap.size M [N2] c9 (some (frameL (L.length + 1) m)) wa HDa.out HBa.out.size (by omega))
              go_upto_region 27 with (go_at_call 14; (with_reducible refine (CT.out).mono ?_); rintro e wb ⟨vt, rfl, hd_, hb_⟩; have HDb := Lib.hid hd_; have HSb := Lib.hid (Blk.later HSa.out hb_); have HBb := Lib.hid (belStep HBa.out hb_); clear hd_ hb_ CT HDa HSa HBa)
              have k1 := belAlloc (Below.refl wb.heap.size wb) (.cells #[.int .u8 97, .int .u8 103, .int .u8 97, .int .u8 105, .int .u8 110] 5 (5, 6))
              have hz : Ints .u8 (wb.alloc (.cells #[.int .u8 97, .int .u8 103, .int .u8 97, .int .u8 105, .int .u8 110] 5 (5, 6))) (some ⟨wb.heap.size, 0, none⟩) 5 5 [97, 103, 97, 105, 110] := ints_new (k := .u8) wb [97, 103, 97, 105, 110] 5 (5, 6) (by unfold maxLen; simp) (fun m hm => by simp at hm; rcases hm with rfl | rfl | rfl | rfl | rfl <;> exact WalkArith.wf_u8 ⟨by omega, by omega⟩)
              have hNb := Blk.lt HSb.out
              have HBc := Lib.hid (belStep HBb.out k1)
              have CS := Lib.hid (ck_Save w.heap.size N2 M [N2] [] c9 (some (frameL (L.length + 1) m)) (wb.alloc (.cells #[.int .u8 97, .int .u8 103, .int .u8 97, .int .u8 105, .int .u8 110] 5 (5, 6))) (L.length + 1) (HDb.out.later k1) (Blk.later HSb.out k1) (fun b hb => by simp at hb; subst hb; exact Nat.lt_of_lt_of_le hNb k1.size) HBc.out.size List.mem_cons_self hN2 (fun b hb => absurd hb List.not_mem_nil) List.not_mem_nil (by omega) (some ⟨wb.heap.size, 0, none⟩) 5 5 [97, 103, 97, 105, 110] hz (by omega) (by omega))
              clear hz k1
              obtain ⟨V, hV⟩ : ∃ z : Nat, (L.length + 1) + 1 = z := ⟨_, rfl⟩
              have hvi : ((L.length + 1 : Nat) : Int) + 1 = (V : Int) := by omega
              rw [hvi, hV] at CS
              have hV2 : V ≤ 30 := by omega
              clear hvi hV
              go_upto_region 29 with (go_at_call 12; (with_reducible refine (CS.out).mono ?_); rintro e wd ⟨rfl, hd_, hs_, hb_, -⟩; have HDd := Lib.hid hd_; have HSd := Lib.hid hs_; have HBd := Lib.hid (HBc.out.trans hb_); clear hd_ hs_ hb_ CS HDb HSb HBb HBc)
              have CO := Lib.hid (ck_Open_ok w.heap.size M [N2] (c9 + 2) none wd (frameL V [97, 103, 97, 105, 110]) V [97, 103, 97, 105, 110] 5 ⟨rfl, by omega, by simp⟩ rfl HDd.out (fun b hb => by simp at hb; subst hb; exact Blk.lt HSd.out) HBd.out.size (by omega))
              go_upto_region 30 with (go_at_call 11; (with_reducible refine (CO.out).mono ?_); rintro e we ⟨N3, g3, c4, ay, cy, rfl, -, -, -, hi_, hs_, -, -, ⟨-, hb_, hf_⟩⟩; have hcv := conv_str hi_; have HBe := Lib.hid (HBd.out.trans hb_); have CV3 := Lib.hid (ck_Vn we N3 M _ hs_); have CV2 := Lib.hid (ck_Vn we N2 M _ (hf_.blk HSd.out List.mem_cons_self)); clear hi_ hb_ hf_ hs_ CO HDd HSd HBd)
              go_wp2_with (first | (go_at_call 13; (with_reducible refine (CV3.out).mono ?_); rintro e wx ⟨rfl, hz9⟩; have hz8 := hz9.symm; subst hz8) | (go_at_call 13; (with_reducible refine (CV2.out).mono ?_); rintro e wx ⟨rfl, hz9⟩; have hz8 := hz9.symm; subst hz8))
              go_ret
              exact ⟨by first | rfl | simp, HBe.out⟩
            · obtain ⟨j, hj⟩ : ∃ j, clampN s = j := ⟨_, rfl⟩
              rw [hj] at CP
              have hj3 : j ≤ 3 ∧ (j = 3 ↔ s = 3) := by unfold clampN at hj; omega
              have hd4 : decide (s < 4) = true := decide_eq_true (by omega)
              have hd5 : decide ((4 : Int) ≤ s) = false := decide_eq_false (by omega)
              have hi4 : s < 4 := by omega
              go_upto_region 14 with fail
              go_upto_region 16 with (go_at_call 19; (with_reducible refine (CP.out).mono ?_); rintro e w4 ⟨rfl, hd_, hs_, hb_, -⟩; have HD4 := Lib.hid hd_; have HS4 := Lib.hid (show StA w4 N M (L.length : Int) from by first | exact hs_ | (rw [if_pos rfl] at hs_; exact hs_) | (rw [if_neg (by omega)] at hs_; exact hs_)); have HB4 := Lib.hid (HB.out.trans hb_); clear hd_ hs_ hb_ CP HD HS HB)
              have CV := Lib.hid (ck_Vn w4 N M _ HS4.out)
              have hNl4 := Blk.lt HS4.out
              go_upto_region 18 with (go_at_call 13; (with_reducible refine (CV.out).mono ?_); rintro e wx ⟨rfl, hz9⟩; have hz8 := hz9.symm; subst hz8)
              obtain ⟨cz, tz, hcz, hcr⟩ := crash_part c o f j K
              have CC := Lib.hid (dl_Crash w.heap.size M [N] _ w4 HD4.out (fun b hb => by simp at hb; subst hb; exact hNl4) HB4.out.size (Nat.le_trans (part_cap c o f j) (by omega)) ka K.length kc K (HK.out.later HB4.out))
              rw [hcr] at CC
              clear hcr
              go_upto_region 19 with (go_at_call 20; (with_reducible refine (CC.out).mono ?_); rintro e w5 ⟨rfl, hd_, hb_, hf_⟩; have HD5 := Lib.hid hd_; have HB5 := Lib.hid (HB4.out.trans hb_); have hs5 : w4.heap.size ≤ w5.heap.size := hf_.size; clear hd_ hb_ hf_ CC CV HD4 HS4 HB4)
              by_cases hfr : j = 3 ∧ K.headD 0 ≠ 0
              · have hk4 : keptF o f j K = some f := by unfold keptF; rw [if_pos (.inr hfr)]
                rw [hk4] at HD5
                have hd3 : decide (s < 3) = false := decide_eq_false (by omega)
                have hi3 : ¬ s < 3 := by omega
                rw [← HF.out] at HD5
                have CO := Lib.hid (ck_Open_ok w.heap.size M [N] cz tz w5 (frameL (L.length + 1) m) (L.length + 1) (m) (m.length) ⟨rfl, by omega, by omega⟩ rfl HD5.out (fun b hb => by simp at hb; subst hb; exact Nat.lt_of_lt_of_le hNl4 hs5) HB5.out.size (by omega))
                go_upto_region 22 with (go_at_call 11; (with_reducible refine (CO.out).mono ?_); rintro e wa ⟨N2, g, c7, ax, cx, rfl, -, hq_, -, hi_, hs_, hn_, -, ⟨⟨c9, hc9, hd_⟩, hb_, -⟩⟩; have HDa := Lib.hid (hd_.more (Y := [N2]) (fun b hb => .inl (by simp at hb; subst hb; exact List.mem_cons_self))); have HSa := Lib.hid hs_; have HBa := Lib.hid (HB5.out.trans hb_); have HIa := Lib.hid hi_; have hN2 : w.heap.size ≤ N2 := Nat.le_trans HB5.out.size hn_; have hbel := HBa.out; clear hq_ hd_ hb_ hi_ hs_ hn_ CO HD5)
                have CV := Lib.hid (ck_Vn wa N2 M ((L.length : Int) + 1) (show StA wa N2 M ((L.length : Int) + 1) from HSa.out))
                have CSm := Lib.hid (same_self ax m.length cx m b0 bc wa HIa.out (HM.out.later HBa.out))
                go_upto_region 26 with (first | (go_at_call 13; (with_reducible refine (CV.out).mono ?_); rintro e wx ⟨rfl, hz9⟩; have hz8 := hz9.symm; subst hz8) | (go_at_call 15; (with_reducible refine (CSm.out).mono ?_); rintro e wx ⟨rfl, hz9⟩; subst hz9))
                clear CV CSm
                have CT := Lib.hid (ck_temp w.heap.size M [N2] c9 (some (frameL (L.length + 1) m)) wa HDa.out HBa.out.size (by omega))
                go_upto_region 27 with (go_at_call 14; (with_reducible refine (CT.out).mono ?_); rintro e wb ⟨vt, rfl, hd_, hb_⟩; have HDb := Lib.hid hd_; have HSb := Lib.hid (Blk.later HSa.out hb_); have HBb := Lib.hid (belStep HBa.out hb_); clear hd_ hb_ CT HDa HSa HBa)
                have k1 := belAlloc (Below.refl wb.heap.size wb) (.cells #[.int .u8 97, .int .u8 103, .int .u8 97, .int .u8 105, .int .u8 110] 5 (5, 6))
                have hz : Ints .u8 (wb.alloc (.cells #[.int .u8 97, .int .u8 103, .int .u8 97, .int .u8 105, .int .u8 110] 5 (5, 6))) (some ⟨wb.heap.size, 0, none⟩) 5 5 [97, 103, 97, 105, 110] := ints_new (k := .u8) wb [97, 103, 97, 105, 110] 5 (5, 6) (by unfold maxLen; simp) (fun m hm => by simp at hm; rcases hm with rfl | rfl | rfl | rfl | rfl <;> exact WalkArith.wf_u8 ⟨by omega, by omega⟩)
                have hNb := Blk.lt HSb.out
                have HBc := Lib.hid (belStep HBb.out k1)
                have CS := Lib.hid (ck_Save w.heap.size N2 M [N2] [] c9 (some (frameL (L.length + 1) m)) (wb.alloc (.cells #[.int .u8 97, .int .u8 103, .int .u8 97, .int .u8 105, .int .u8 110] 5 (5, 6))) (L.length + 1) (HDb.out.later k1) (Blk.later HSb.out k1) (fun b hb => by simp at hb; subst hb; exact Nat.lt_of_lt_of_le hNb k1.size) HBc.out.size List.mem_cons_self hN2 (fun b hb => absurd hb List.not_mem_nil) List.not_mem_nil (by omega) (some ⟨wb.heap.size, 0, none⟩) 5 5 [97, 103, 97, 105, 110] hz (by omega) (by omega))
                clear hz k1
                obtain ⟨V, hV⟩ : ∃ z : Nat, (L.length + 1) + 1 = z := ⟨_, rfl⟩
                have hvi : ((L.length + 1 : Nat) : Int) + 1 = (V : Int) := by omega
                rw [hvi, hV] at CS
                have hV2 : V ≤ 30 := by omega
                clear hvi hV
                go_upto_region 29 with (go_at_call 12; (with_reducible refine (CS.out).mono ?_); rintro e wd ⟨rfl, hd_, hs_, hb_, -⟩; have HDd := Lib.hid hd_; have HSd := Lib.hid hs_; have HBd := Lib.hid (HBc.out.trans hb_); clear hd_ hs_ hb_ CS HDb HSb HBb HBc)
                have CO := Lib.hid (ck_Open_ok w.heap.size M [N2] (c9 + 2) none wd (frameL V [97, 103, 97, 105, 110]) V [97, 103, 97, 105, 110] 5 ⟨rfl, by omega, by simp⟩ rfl HDd.out (fun b hb => by simp at hb; subst hb; exact Blk.lt HSd.out) HBd.out.size (by omega))
                go_upto_region 30 with (go_at_call 11; (with_reducible refine (CO.out).mono ?_); rintro e we ⟨N3, g3, c4, ay, cy, rfl, -, -, -, hi_, hs_, -, -, ⟨-, hb_, hf_⟩⟩; have hcv := conv_str hi_; have HBe := Lib.hid (HBd.out.trans hb_); have CV3 := Lib.hid (ck_Vn we N3 M _ hs_); have CV2 := Lib.hid (ck_Vn we N2 M _ (hf_.blk HSd.out List.mem_cons_self)); clear hi_ hb_ hf_ hs_ CO HDd HSd HBd)
                go_wp2_with (first | (go_at_call 13; (with_reducible refine (CV3.out).mono ?_); rintro e wx ⟨rfl, hz9⟩; have hz8 := hz9.symm; subst hz8) | (go_at_call 13; (with_reducible refine (CV2.out).mono ?_); rintro e wx ⟨rfl, hz9⟩; have hz8 := hz9.symm; subst hz8))
                go_ret
                exact ⟨by first | rfl | simp, HBe.out⟩
              · have hk4 : keptF o f j K = o := by unfold keptF; rw [if_neg (fun q => q.elim (fun z => by omega) hfr)]
                rw [hk4] at HD5
                clear hfr hk4
                by_cases hn0 : L.length = 0
                · by_cases hs3 : s < 3
                  · have hd3 : decide (s < 3) = true := decide_eq_true (by omega)
                    have hi3 : s < 3 := by omega
                    obtain rfl : L = [] := List.eq_nil_of_length_eq_zero hn0
                    obtain rfl : o = none := HOo.out.symm
                    have CO := Lib.hid (ck_Open_none w.heap.size M [N] cz tz w5 HD5.out (fun b hb => by simp at hb; subst hb; exact Nat.lt_of_lt_of_le hNl4 hs5) HB5.out.size (by omega))
                    go_upto_region 22 with (go_at_call 11; (with_reducible refine (CO.out).mono ?_); rintro e wa ⟨N2, rfl, hs_, hn_, ⟨⟨c9, hc9, hd_⟩, hb_, -⟩⟩; have HDa := Lib.hid (hd_.more (Y := [N2]) (fun b hb => .inl (by simp at hb; subst hb; exact List.mem_cons_self))); have HSa := Lib.hid hs_; have HBa := Lib.hid (HB5.out.trans hb_); have hN2 : w.heap.size ≤ N2 := Nat.le_trans HB5.out.size hn_; have hbel := HBa.out; clear hd_ hb_ hs_ hn_ CO HD5)
                    have CV := Lib.hid (ck_Vn wa N2 M 0 HSa.out)
                    go_upto_region 26 with (go_at_call 13; (with_reducible refine (CV.out).mono ?_); rintro e wx ⟨rfl, hz9⟩; have hz8 := hz9.symm; subst hz8)
                    clear CV
                    have CT := Lib.hid (ck_temp w.heap.size M [N2] c9 (none) wa HDa.out HBa.out.size (by omega))
                    go_upto_region 27 with (go_at_call 14; (with_reducible refine (CT.out).mono ?_); rintro e wb ⟨vt, rfl, hd_, hb_⟩; have HDb := Lib.hid hd_; have HSb := Lib.hid (Blk.later HSa.out hb_); have HBb := Lib.hid (belStep HBa.out hb_); clear hd_ hb_ CT HDa HSa HBa)
                    have k1 := belAlloc (Below.refl wb.heap.size wb) (.cells #[.int .u8 97, .int .u8 103, .int .u8 97, .int .u8 105, .int .u8 110] 5 (5, 6))
                    have hz : Ints .u8 (wb.alloc (.cells #[.int .u8 97, .int .u8 103, .int .u8 97, .int .u8 105, .int .u8 110] 5 (5, 6))) (some ⟨wb.heap.size, 0, none⟩) 5 5 [97, 103, 97, 105, 110] := ints_new (k := .u8) wb [97, 103, 97, 105, 110] 5 (5, 6) (by unfold maxLen; simp) (fun m hm => by simp at hm; rcases hm with rfl | rfl | rfl | rfl | rfl <;> exact WalkArith.wf_u8 ⟨by omega, by omega⟩)
                    have hNb := Blk.lt HSb.out
                    have HBc := Lib.hid (belStep HBb.out k1)
                    have CS := Lib.hid (ck_Save w.heap.size N2 M [N2] [] c9 (none) (wb.alloc (.cells #[.int .u8 97, .int .u8 103, .int .u8 97, .int .u8 105, .int .u8 110] 5 (5, 6))) (0) (HDb.out.later k1) (Blk.later HSb.out k1) (fun b hb => by simp at hb; subst hb; exact Nat.lt_of_lt_of_le hNb k1.size) HBc.out.size List.mem_cons_self hN2 (fun b hb => absurd hb List.not_mem_nil) List.not_mem_nil (by omega) (some ⟨wb.heap.size, 0, none⟩) 5 5 [97, 103, 97, 105, 110] hz (by omega) (by omega))
                    clear hz k1
                    obtain ⟨V, hV⟩ : ∃ z : Nat, (0) + 1 = z := ⟨_, rfl⟩
                    have hvi : ((0 : Nat) : Int) + 1 = (V : Int) := by omega
                    rw [hvi, hV] at CS
                    have hV2 : V ≤ 30 := by omega
                    clear hvi hV
                    go_upto_region 29 with (go_at_call 12; (with_reducible refine (CS.out).mono ?_); rintro e wd ⟨rfl, hd_, hs_, hb_, -⟩; have HDd := Lib.hid hd_; have HSd := Lib.hid hs_; have HBd := Lib.hid (HBc.out.trans hb_); clear hd_ hs_ hb_ CS HDb HSb HBb HBc)
                    have CO := Lib.hid (ck_Open_ok w.heap.size M [N2] (c9 + 2) none wd (frameL V [97, 103, 97, 105, 110]) V [97, 103, 97, 105, 110] 5 ⟨rfl, by omega, by simp⟩ rfl HDd.out (fun b hb => by simp at hb; subst hb; exact Blk.lt HSd.out) HBd.out.size (by omega))
                    go_upto_region 30 with (go_at_call 11; (with_reducible refine (CO.out).mono ?_); rintro e we ⟨N3, g3, c4, ay, cy, rfl, -, -, -, hi_, hs_, -, -, ⟨-, hb_, hf_⟩⟩; have hcv := conv_str hi_; have HBe := Lib.hid (HBd.out.trans hb_); have CV3 := Lib.hid (ck_Vn we N3 M _ hs_); have CV2 := Lib.hid (ck_Vn we N2 M _ (hf_.blk HSd.out List.mem_cons_self)); clear hi_ hb_ hf_ hs_ CO HDd HSd HBd)
                    go_wp2_with (first | (go_at_call 13; (with_reducible refine (CV3.out).mono ?_); rintro e wx ⟨rfl, hz9⟩; have hz8 := hz9.symm; subst hz8) | (go_at_call 13; (with_reducible refine (CV2.out).mono ?_); rintro e wx ⟨rfl, hz9⟩; have hz8 := hz9.symm; subst hz8))
                    go_ret
                    exact ⟨by first | rfl | simp, HBe.out⟩
                  · have hd3 : decide (s < 3) = false := decide_eq_false (by omega)
                    have hi3 : ¬ s < 3 := by omega
                    obtain rfl : L = [] := List.eq_nil_of_length_eq_zero hn0
                    obtain rfl : o = none := HOo.out.symm
                    have CO := Lib.hid (ck_Open_none w.heap.size M [N] cz tz w5 HD5.out (fun b hb => by simp at hb; subst hb; exact Nat.lt_of_lt_of_le hNl4 hs5) HB5.out.size (by omega))
                    go_upto_region 22 with (go_at_call 11; (with_reducible refine (CO.out).mono ?_); rintro e wa ⟨N2, rfl, hs_, hn_, ⟨⟨c9, hc9, hd_⟩, hb_, -⟩⟩; have HDa := Lib.hid (hd_.more (Y := [N2]) (fun b hb => .inl (by simp at hb; subst hb; exact List.mem_cons_self))); have HSa := Lib.hid hs_; have HBa := Lib.hid (HB5.out.trans hb_); have hN2 : w.heap.size ≤ N2 := Nat.le_trans HB5.out.size hn_; have hbel := HBa.out; clear hd_ hb_ hs_ hn_ CO HD5)
                    have CV := Lib.hid (ck_Vn wa N2 M 0 HSa.out)
                    go_upto_region 26 with (go_at_call 13; (with_reducible refine (CV.out).mono ?_); rintro e wx ⟨rfl, hz9⟩; have hz8 := hz9.symm; subst hz8)
                    clear CV
                    have CT := Lib.hid (ck_temp w.heap.size M [N2] c9 (none) wa HDa.out HBa.out.size (by omega))
                    go_upto_region 27 with (go_at_call 14; (with_reducible refine (CT.out).mono ?_); rintro e wb ⟨vt, rfl, hd_, hb_⟩; have HDb := Lib.hid hd_; have HSb := Lib.hid (Blk.later HSa.out hb_); have HBb := Lib.hid (belStep HBa.out hb_); clear hd_ hb_ CT HDa HSa HBa)
                    have k1 := belAlloc (Below.refl wb.heap.size wb) (.cells #[.int .u8 97, .int .u8 103, .int .u8 97, .int .u8 105, .int .u8 110] 5 (5, 6))
                    have hz : Ints .u8 (wb.alloc (.cells #[.int .u8 97, .int .u8 103, .int .u8 97, .int .u8 105, .int .u8 110] 5 (5, 6))) (some ⟨wb.heap.size, 0, none⟩) 5 5 [97, 103, 97, 105, 110] := ints_new (k := .u8) wb [97, 103, 97, 105, 110] 5 (5, 6) (by unfold maxLen; simp) (fun m hm => by simp at hm; rcases hm with rfl | rfl | rfl | rfl | rfl <;> exact WalkArith.wf_u8 ⟨by omega, by omega⟩)
                    have hNb := Blk.lt HSb.out
                    have HBc := Lib.hid (belStep HBb.out k1)
                    have CS := Lib.hid (ck_Save w.heap.size N2 M [N2] [] c9 (none) (wb.alloc (.cells #[.int .u8 97, .int .u8 103, .int .u8 97, .int .u8 105, .int .u8 110] 5 (5, 6))) (0) (HDb.out.later k1) (Blk.later HSb.out k1) (fun b hb => by simp at hb; subst hb; exact Nat.lt_of_lt_of_le hNb k1.size) HBc.out.size List.mem_cons_self hN2 (fun b hb => absurd hb List.not_mem_nil) List.not_mem_nil (by omega) (some ⟨wb.heap.size, 0, none⟩) 5 5 [97, 103, 97, 105, 110] hz (by omega) (by omega))
                    clear hz k1
                    obtain ⟨V, hV⟩ : ∃ z : Nat, (0) + 1 = z := ⟨_, rfl⟩
                    have hvi : ((0 : Nat) : Int) + 1 = (V : Int) := by omega
                    rw [hvi, hV] at CS
                    have hV2 : V ≤ 30 := by omega
                    clear hvi hV
                    go_upto_region 29 with (go_at_call 12; (with_reducible refine (CS.out).mono ?_); rintro e wd ⟨rfl, hd_, hs_, hb_, -⟩; have HDd := Lib.hid hd_; have HSd := Lib.hid hs_; have HBd := Lib.hid (HBc.out.trans hb_); clear hd_ hs_ hb_ CS HDb HSb HBb HBc)
                    have CO := Lib.hid (ck_Open_ok w.heap.size M [N2] (c9 + 2) none wd (frameL V [97, 103, 97, 105, 110]) V [97, 103, 97, 105, 110] 5 ⟨rfl, by omega, by simp⟩ rfl HDd.out (fun b hb => by simp at hb; subst hb; exact Blk.lt HSd.out) HBd.out.size (by omega))
                    go_upto_region 30 with (go_at_call 11; (with_reducible refine (CO.out).mono ?_); rintro e we ⟨N3, g3, c4, ay, cy, rfl, -, -, -, hi_, hs_, -, -, ⟨-, hb_, hf_⟩⟩; have hcv := conv_str hi_; have HBe := Lib.hid (HBd.out.trans hb_); have CV3 := Lib.hid (ck_Vn we N3 M _ hs_); have CV2 := Lib.hid (ck_Vn we N2 M _ (hf_.blk HSd.out List.mem_cons_self)); clear hi_ hb_ hf_ hs_ CO HDd HSd HBd)
                    go_wp2_with (first | (go_at_call 13; (with_reducible refine (CV3.out).mono ?_); rintro e wx ⟨rfl, hz9⟩; have hz8 := hz9.symm; subst hz8) | (go_at_call 13; (with_reducible refine (CV2.out).mono ?_); rintro e wx ⟨rfl, hz9⟩; have hz8 := hz9.symm; subst hz8))
                    go_ret
                    exact ⟨by first | rfl | simp, HBe.out⟩
                · by_cases hs3 : s < 3
                  · have hd3 : decide (s < 3) = true := decide_eq_true (by omega)
                    have hi3 : s < 3 := by omega
                    obtain ⟨i, hi⟩ : ∃ i, L.length = i + 1 := ⟨L.length - 1, by omega⟩
                    have hil : i < L.length := by omega
                    have hdi : decide ((i : Int) < (L.length : Int)) = true := decide_eq_true (by omega)
                    have hii : (i : Int) < (L.length : Int) := by omega
                    have hi0 : (0 : Int) ≤ (i : Int) := by omega
                    have hsub : IntKind.i64.wrap ((L.length : Int) - 1) = (i : Int) := by rw [IntWalk.i64_in _ (by omega)]; omega
                    have hn1 : ((L.length : Int) == 0) = false := by rw [beq_eq_false_iff_ne]; omega
                    have hn2 : (0 : Int) < (L.length : Int) := by omega
                    have hn3 : decide ((0 : Int) < (L.length : Int)) = true := decide_eq_true hn2
                    have hn4 : ¬ (L.length : Int) = 0 := by omega
                    obtain ⟨x, hx⟩ : ∃ x, L[i]? = some x := ⟨L[i], List.getElem?_eq_getElem hil⟩
                    obtain ⟨bc, oc, ec, _, hcc⟩ := (HR.out).elem BodyV.cells_len (by omega) hx
                    subst ec
                    have c0 := keep (hcc 0 _ rfl)
                    rw [Nat.add_zero] at c0
                    rw [Nat.mul_one] at c0
                    have HX := Lib.hid hx
                    have hx300 := fewB_body HFB.out (List.mem_of_getElem? hx)
                    have HG2 := Lib.hid (HG.out _ (List.mem_of_getElem? hx))
                    clear hx hcc
                    obtain rfl : o = some (frameL L.length x.Z) := by rw [← HOo.out, hi]; exact savedF_next HX.out
                    have CO := Lib.hid (ck_Open_ok w.heap.size M [N] cz tz w5 (frameL L.length x.Z) (L.length) (x.Z) (x.Z.length) ⟨rfl, by omega, by omega⟩ rfl HD5.out (fun b hb => by simp at hb; subst hb; exact Nat.lt_of_lt_of_le hNl4 hs5) HB5.out.size (by omega))
                    go_upto_region 22 with (go_at_call 11; (with_reducible refine (CO.out).mono ?_); rintro e wa ⟨N2, g, c7, ax, cx, rfl, -, hq_, -, hi_, hs_, hn_, -, ⟨⟨c9, hc9, hd_⟩, hb_, -⟩⟩; have HDa := Lib.hid (hd_.more (Y := [N2]) (fun b hb => .inl (by simp at hb; subst hb; exact List.mem_cons_self))); have HSa := Lib.hid hs_; have HBa := Lib.hid (HB5.out.trans hb_); have HIa := Lib.hid hi_; have hN2 : w.heap.size ≤ N2 := Nat.le_trans HB5.out.size hn_; have hbel := HBa.out; clear hq_ hd_ hb_ hi_ hs_ hn_ CO HD5)
                    have CV := Lib.hid (ck_Vn wa N2 M (L.length : Int) HSa.out)
                    have CSm := Lib.hid (same_self ax x.Z.length cx x.Z x.ba x.bc wa HIa.out (HG2.out.later HBa.out))
                    go_upto_region 26 with (first | (go_at_call 13; (with_reducible refine (CV.out).mono ?_); rintro e wx ⟨rfl, hz9⟩; have hz8 := hz9.symm; subst hz8) | (go_at_call 15; (with_reducible refine (CSm.out).mono ?_); rintro e wx ⟨rfl, hz9⟩; subst hz9))
                    clear CV CSm
                    have CT := Lib.hid (ck_temp w.heap.size M [N2] c9 (some (frameL L.length x.Z)) wa HDa.out HBa.out.size (by omega))
                    go_upto_region 27 with (go_at_call 14; (with_reducible refine (CT.out).mono ?_); rintro e wb ⟨vt, rfl, hd_, hb_⟩; have HDb := Lib.hid hd_; have HSb := Lib.hid (Blk.later HSa.out hb_); have HBb := Lib.hid (belStep HBa.out hb_); clear hd_ hb_ CT HDa HSa HBa)
                    have k1 := belAlloc (Below.refl wb.heap.size wb) (.cells #[.int .u8 97, .int .u8 103, .int .u8 97, .int .u8 105, .int .u8 110] 5 (5, 6))
                    have hz : Ints .u8 (wb.alloc (.cells #[.int .u8 97, .int .u8 103, .int .u8 97, .int .u8 105, .int .u8 110] 5 (5, 6))) (some ⟨wb.heap.size, 0, none⟩) 5 5 [97, 103, 97, 105, 110] := ints_new (k := .u8) wb [97, 103, 97, 105, 110] 5 (5, 6) (by unfold maxLen; simp) (fun m hm => by simp at hm; rcases hm with rfl | rfl | rfl | rfl | rfl <;> exact WalkArith.wf_u8 ⟨by omega, by omega⟩)
                    have hNb := Blk.lt HSb.out
                    have HBc := Lib.hid (belStep HBb.out k1)
                    have CS := Lib.hid (ck_Save w.heap.size N2 M [N2] [] c9 (some (frameL L.length x.Z)) (wb.alloc (.cells #[.int .u8 97, .int .u8 103, .int .u8 97, .int .u8 105, .int .u8 110] 5 (5, 6))) (L.length) (HDb.out.later k1) (Blk.later HSb.out k1) (fun b hb => by simp at hb; subst hb; exact Nat.lt_of_lt_of_le hNb k1.size) HBc.out.size List.mem_cons_self hN2 (fun b hb => absurd hb List.not_mem_nil) List.not_mem_nil (by omega) (some ⟨wb.heap.size, 0, none⟩) 5 5 [97, 103, 97, 105, 110] hz (by omega) (by omega))
                    clear hz k1
                    obtain ⟨V, hV⟩ : ∃ z : Nat, (L.length) + 1 = z := ⟨_, rfl⟩
                    have hvi : ((L.length : Nat) : Int) + 1 = (V : Int) := by omega
                    rw [hvi, hV] at CS
                    have hV2 : V ≤ 30 := by omega
                    clear hvi hV
                    go_upto_region 29 with (go_at_call 12; (with_reducible refine (CS.out).mono ?_); rintro e wd ⟨rfl, hd_, hs_, hb_, -⟩; have HDd := Lib.hid hd_; have HSd := Lib.hid hs_; have HBd := Lib.hid (HBc.out.trans hb_); clear hd_ hs_ hb_ CS HDb HSb HBb HBc)
                    have CO := Lib.hid (ck_Open_ok w.heap.size M [N2] (c9 + 2) none wd (frameL V [97, 103, 97, 105, 110]) V [97, 103, 97, 105, 110] 5 ⟨rfl, by omega, by simp⟩ rfl HDd.out (fun b hb => by simp at hb; subst hb; exact Blk.lt HSd.out) HBd.out.size (by omega))
                    go_upto_region 30 with (go_at_call 11; (with_reducible refine (CO.out).mono ?_); rintro e we ⟨N3, g3, c4, ay, cy, rfl, -, -, -, hi_, hs_, -, -, ⟨-, hb_, hf_⟩⟩; have hcv := conv_str hi_; have HBe := Lib.hid (HBd.out.trans hb_); have CV3 := Lib.hid (ck_Vn we N3 M _ hs_); have CV2 := Lib.hid (ck_Vn we N2 M _ (hf_.blk HSd.out List.mem_cons_self)); clear hi_ hb_ hf_ hs_ CO HDd HSd HBd)
                    go_wp2_with (first | (go_at_call 13; (with_reducible refine (CV3.out).mono ?_); rintro e wx ⟨rfl, hz9⟩; have hz8 := hz9.symm; subst hz8) | (go_at_call 13; (with_reducible refine (CV2.out).mono ?_); rintro e wx ⟨rfl, hz9⟩; have hz8 := hz9.symm; subst hz8))
                    go_ret
                    exact ⟨by first | rfl | simp, HBe.out⟩
                  · have hd3 : decide (s < 3) = false := decide_eq_false (by omega)
                    have hi3 : ¬ s < 3 := by omega
                    obtain ⟨i, hi⟩ : ∃ i, L.length = i + 1 := ⟨L.length - 1, by omega⟩
                    have hil : i < L.length := by omega
                    have hdi : decide ((i : Int) < (L.length : Int)) = true := decide_eq_true (by omega)
                    have hii : (i : Int) < (L.length : Int) := by omega
                    have hi0 : (0 : Int) ≤ (i : Int) := by omega
                    have hsub : IntKind.i64.wrap ((L.length : Int) - 1) = (i : Int) := by rw [IntWalk.i64_in _ (by omega)]; omega
                    have hn1 : ((L.length : Int) == 0) = false := by rw [beq_eq_false_iff_ne]; omega
                    have hn2 : (0 : Int) < (L.length : Int) := by omega
                    have hn3 : decide ((0 : Int) < (L.length : Int)) = true := decide_eq_true hn2
                    have hn4 : ¬ (L.length : Int) = 0 := by omega
                    obtain ⟨x, hx⟩ : ∃ x, L[i]? = some x := ⟨L[i], List.getElem?_eq_getElem hil⟩
                    obtain ⟨bc, oc, ec, _, hcc⟩ := (HR.out).elem BodyV.cells_len (by omega) hx
                    subst ec
                    have c0 := keep (hcc 0 _ rfl)
                    rw [Nat.add_zero] at c0
                    rw [Nat.mul_one] at c0
                    have HX := Lib.hid hx
                    have hx300 := fewB_body HFB.out (List.mem_of_getElem? hx)
                    have HG2 := Lib.hid (HG.out _ (List.mem_of_getElem? hx))
                    clear hx hcc
                    obtain rfl : o = some (frameL L.length x.Z) := by rw [← HOo.out, hi]; exact savedF_next HX.out
                    have CO := Lib.hid (ck_Open_ok w.heap.size M [N] cz tz w5 (frameL L.length x.Z) (L.length) (x.Z) (x.Z.length) ⟨rfl, by omega, by omega⟩ rfl HD5.out (fun b hb => by simp at hb; subst hb; exact Nat.lt_of_lt_of_le hNl4 hs5) HB5.out.size (by omega))
                    go_upto_region 22 with (go_at_call 11; (with_reducible refine (CO.out).mono ?_); rintro e wa ⟨N2, g, c7, ax, cx, rfl, -, hq_, -, hi_, hs_, hn_, -, ⟨⟨c9, hc9, hd_⟩, hb_, -⟩⟩; have HDa := Lib.hid (hd_.more (Y := [N2]) (fun b hb => .inl (by simp at hb; subst hb; exact List.mem_cons_self))); have HSa := Lib.hid hs_; have HBa := Lib.hid (HB5.out.trans hb_); have HIa := Lib.hid hi_; have hN2 : w.heap.size ≤ N2 := Nat.le_trans HB5.out.size hn_; have hbel := HBa.out; clear hq_ hd_ hb_ hi_ hs_ hn_ CO HD5)
                    have CV := Lib.hid (ck_Vn wa N2 M (L.length : Int) HSa.out)
                    have CSm := Lib.hid (same_self ax x.Z.length cx x.Z x.ba x.bc wa HIa.out (HG2.out.later HBa.out))
                    go_upto_region 26 with (first | (go_at_call 13; (with_reducible refine (CV.out).mono ?_); rintro e wx ⟨rfl, hz9⟩; have hz8 := hz9.symm; subst hz8) | (go_at_call 15; (with_reducible refine (CSm.out).mono ?_); rintro e wx ⟨rfl, hz9⟩; subst hz9))
                    clear CV CSm
                    have CT := Lib.hid (ck_temp w.heap.size M [N2] c9 (some (frameL L.length x.Z)) wa HDa.out HBa.out.size (by omega))
                    go_upto_region 27 with (go_at_call 14; (with_reducible refine (CT.out).mono ?_); rintro e wb ⟨vt, rfl, hd_, hb_⟩; have HDb := Lib.hid hd_; have HSb := Lib.hid (Blk.later HSa.out hb_); have HBb := Lib.hid (belStep HBa.out hb_); clear hd_ hb_ CT HDa HSa HBa)
                    have k1 := belAlloc (Below.refl wb.heap.size wb) (.cells #[.int .u8 97, .int .u8 103, .int .u8 97, .int .u8 105, .int .u8 110] 5 (5, 6))
                    have hz : Ints .u8 (wb.alloc (.cells #[.int .u8 97, .int .u8 103, .int .u8 97, .int .u8 105, .int .u8 110] 5 (5, 6))) (some ⟨wb.heap.size, 0, none⟩) 5 5 [97, 103, 97, 105, 110] := ints_new (k := .u8) wb [97, 103, 97, 105, 110] 5 (5, 6) (by unfold maxLen; simp) (fun m hm => by simp at hm; rcases hm with rfl | rfl | rfl | rfl | rfl <;> exact WalkArith.wf_u8 ⟨by omega, by omega⟩)
                    have hNb := Blk.lt HSb.out
                    have HBc := Lib.hid (belStep HBb.out k1)
                    have CS := Lib.hid (ck_Save w.heap.size N2 M [N2] [] c9 (some (frameL L.length x.Z)) (wb.alloc (.cells #[.int .u8 97, .int .u8 103, .int .u8 97, .int .u8 105, .int .u8 110] 5 (5, 6))) (L.length) (HDb.out.later k1) (Blk.later HSb.out k1) (fun b hb => by simp at hb; subst hb; exact Nat.lt_of_lt_of_le hNb k1.size) HBc.out.size List.mem_cons_self hN2 (fun b hb => absurd hb List.not_mem_nil) List.not_mem_nil (by omega) (some ⟨wb.heap.size, 0, none⟩) 5 5 [97, 103, 97, 105, 110] hz (by omega) (by omega))
                    clear hz k1
                    obtain ⟨V, hV⟩ : ∃ z : Nat, (L.length) + 1 = z := ⟨_, rfl⟩
                    have hvi : ((L.length : Nat) : Int) + 1 = (V : Int) := by omega
                    rw [hvi, hV] at CS
                    have hV2 : V ≤ 30 := by omega
                    clear hvi hV
                    go_upto_region 29 with (go_at_call 12; (with_reducible refine (CS.out).mono ?_); rintro e wd ⟨rfl, hd_, hs_, hb_, -⟩; have HDd := Lib.hid hd_; have HSd := Lib.hid hs_; have HBd := Lib.hid (HBc.out.trans hb_); clear hd_ hs_ hb_ CS HDb HSb HBb HBc)
                    have CO := Lib.hid (ck_Open_ok w.heap.size M [N2] (c9 + 2) none wd (frameL V [97, 103, 97, 105, 110]) V [97, 103, 97, 105, 110] 5 ⟨rfl, by omega, by simp⟩ rfl HDd.out (fun b hb => by simp at hb; subst hb; exact Blk.lt HSd.out) HBd.out.size (by omega))
                    go_upto_region 30 with (go_at_call 11; (with_reducible refine (CO.out).mono ?_); rintro e we ⟨N3, g3, c4, ay, cy, rfl, -, -, -, hi_, hs_, -, -, ⟨-, hb_, hf_⟩⟩; have hcv := conv_str hi_; have HBe := Lib.hid (HBd.out.trans hb_); have CV3 := Lib.hid (ck_Vn we N3 M _ hs_); have CV2 := Lib.hid (ck_Vn we N2 M _ (hf_.blk HSd.out List.mem_cons_self)); clear hi_ hb_ hf_ hs_ CO HDd HSd HBd)
                    go_wp2_with (first | (go_at_call 13; (with_reducible refine (CV3.out).mono ?_); rintro e wx ⟨rfl, hz9⟩; have hz8 := hz9.symm; subst hz8) | (go_at_call 13; (with_reducible refine (CV2.out).mono ?_); rintro e wx ⟨rfl, hz9⟩; have hz8 := hz9.symm; subst hz8))
                    go_ret
                    exact ⟨by first | rfl | simp, HBe.out⟩

set_option maxRecDepth 100000 in
theorem lifted (os : Os) (started : os.Started) (H : Type) (enc : TypeId × Value → H) :
    ReturnsInHanded {} Try.checked os 4 .any (Rows.ckptCrashSpec.pre6 enc Try.prog Try.f4 Rows.ckptCrashRow.domain false) (Rows.ckptCrashSpec.post enc Try.prog Try.f4 false true false false) := by
  refine returnsInHanded_of_change (C := Try.checked) own started (by kernel_rfl) Try.func4
    (ChangeSpec.witness6 (enc := enc) (C := Try.checked) false ⟨#[], #[.slice none 0 0, .slice none 0 0, .int .i64 0, .slice none 0 0], []⟩ 8 (by kernel_rfl) (by kernel_rfl) (by kernel_rfl) (by kernel_rfl)) ?_
  intro W base args ds gs before hval0 hW hcnd _
  have hval : ∀ (j : Nat) t v, Try.f4.params[j]? = some t → args[j]? = some v → Value.okWide Try.prog W .any base t v := hval0
  have hW' := hW
  obtain ⟨p, q, hA0, hV, rfl, hfz, hnd⟩ := hW
  have hA : DataW.TrodAll enc Try.prog W 0 (fun _ => true) true Try.f4.params.toList args.toList ds p := hA0
  rw [Try.params4] at hA hval
  obtain ⟨v0, vs0, d0, ds0, p0, q0, hargs, rfl, rfl, h0, r0⟩ := trodAll_cons hA
  obtain ⟨v1, vs1, d1, ds1, p1, q1, rfl, rfl, rfl, h1, r1⟩ := trodAll_cons r0
  obtain ⟨v2, vs2, d2, ds2, p2, q2, rfl, rfl, rfl, h2, r2⟩ := trodAll_cons r1
  obtain ⟨v3, vs3, d3, ds3, p3, q3, rfl, rfl, rfl, h3, r3⟩ := trodAll_cons r2
  obtain ⟨rfl, rfl, rfl⟩ := trodAll_nil r3
  obtain rfl : args = #[v0, v1, v2, v3] := by cases args; simp_all
  obtain ⟨rfl, rfl⟩ := trodVars_none hV
  have k0 := h0
  have lt0 : ∀ x ∈ p0, x.block < W.heap.size := by obtain ⟨m, hm⟩ := k0; exact DataW.trod_lt m _ _ _ hm
  have o0 : Value.okWide Try.prog W .any base 22 v0 := hval 0 22 v0 rfl rfl
  obtain ⟨xa0, xn0, xc0, xl0, rfl, fl0, fo0, fr0⟩ := open_bodies o0 h0
  have k1 := h1
  have lt1 : ∀ x ∈ p1, x.block < W.heap.size := by obtain ⟨m, hm⟩ := k1; exact DataW.trod_lt m _ _ _ hm
  have o1 : Value.okWide Try.prog W .any base 29 v1 := hval 1 29 v1 rfl rfl
  obtain ⟨a1, len1, cap1, rfl⟩ := okWide_slice Try.underlying29 o1
  obtain ⟨z1, w1⟩ : ∃ zs, Ints .u8 W a1 len1 cap1 zs := ints_of_trod Try.underlying29 Try.underlying5 (by kernel_rfl) h1
  have k2 := h2
  have lt2 : ∀ x ∈ p2, x.block < W.heap.size := by obtain ⟨m, hm⟩ := k2; exact DataW.trod_lt m _ _ _ hm
  have o2 : Value.okWide Try.prog W .any base 3 v2 := hval 2 3 v2 rfl rfl
  obtain ⟨a2, rfl, rfl, rfl, w2⟩ := open_int Try.underlying3 o2 h2
  have k3 := h3
  have lt3 : ∀ x ∈ p3, x.block < W.heap.size := by obtain ⟨m, hm⟩ := k3; exact DataW.trod_lt m _ _ _ hm
  have o3 : Value.okWide Try.prog W .any base 43 v3 := hval 3 43 v3 rfl rfl
  obtain ⟨a3, len3, cap3, rfl⟩ := okWide_slice Try.underlying43 o3
  obtain ⟨z3, w3⟩ : ∃ zs, Ints .i64 W a3 len3 cap3 zs := ints_of_trod Try.underlying43 Try.underlying3 (by kernel_rfl) h3
  clear hA0 hval0
  refine (walk xa0 xn0 xc0 xl0 a1 len1 cap1 z1 a2 a3 len3 cap3 z3 W fl0 fo0 fr0 w1 (inI_of_wf w2) w3).mono fun e W' ⟨he, bel⟩ => ?_
  subst he
  exact ⟨_, rfl, _, _, _, [], _, [], hW', trodAll_mk1 (shut_bool Try.underlying4 _), (trodAll_cons_mk (Below.trod laidOut (by kernel_rfl) (of_decide_eq_true (by kernel_rfl)) k0 bel lt0) (trodAll_cons_mk (Below.trod laidOut (by kernel_rfl) (of_decide_eq_true (by kernel_rfl)) k1 bel lt1) (trodAll_cons_mk (Below.trod laidOut (by kernel_rfl) (of_decide_eq_true (by kernel_rfl)) k2 bel lt2) (trodAll_cons_mk (Below.trod laidOut (by kernel_rfl) (of_decide_eq_true (by kernel_rfl)) k3 bel lt3) trodAll_mk0)))), rfl, bel.frame _, fun h => by cases h⟩

theorem over : Rows.ckptCrashRow.holds Try.pinned (OpenSpec.ofChange Rows.ckptCrashSpec) :=
  OpenClaim.holds_of_wide 4 Try.f4 rfl rfl rfl rfl rfl rfl rfl ⟨rfl, rfl, rfl, rfl, rfl⟩ rfl rfl rfl rfl rfl (by kernel_rfl) Try.func4 (by kernel_rfl)
    (of_decide_eq_true (by kernel_rfl)) (by unfold Func.isWrapper; first | (rw [if_pos (by decide +kernel)]; kernel_rfl) | (rw [if_neg (by decide +kernel)]; exact ⟨rfl, rfl⟩))
    (fun os started H enc _ => lifted os started H enc)

/-- The statement. -/
theorem proved : Rows.CkptCrashSaid := over
#print axioms proved

end Go.Proofs.Ytcbblgeleboggaa.ckptCrash
