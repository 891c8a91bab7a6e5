
/- Stage 11: awake: contract. -/
import Derived.Test.YtcbblgeleboggaaCk6
import Derived.Test.YtcbblgeleboggaaFrameRef
import Derived.Lib.SlBytesConst
namespace Go.Proofs.Ytcbblgeleboggaa
open Go.RowKit Go.Sort Go.Maps
set_option linter.unusedVariables false
set_option linter.unusedSimpArgs false
theorem a_one : ((strOfNums [111, 110, 101]).toList == [111, 110, 101]) = true := by decide +kernel
/-- How many names there are. -/
theorem ck_Names (B M : Nat) (X : List Nat) (c : Nat) (o : Option (List Int)) (w : World) (h : DKv B w M X (ckD c o none)) (hB : B ≤ w.heap.size) (hc : c ≤ 90000) :
    Calls Try.prog 18 #[.pointer (some ⟨M, 0, none⟩)] w fun e w' => ∃ a k, e = .returned (.slice a (if o.isSome then 1 else 0) k) ∧ (if o.isSome then 1 else 0) ≤ k ∧ k ≤ 9223372036854775807 ∧ DKv B w' M X (ckD c o none) ∧ Below w.heap.size w w' := by
  refine (dl_Names B M X _ w h hB (show c + 0 ≤ 100000 by omega) (ckF_sorted o none)).mono ?_
  rintro e wq ⟨v, rfl, h1, h2, h3⟩
  have e1 : (ckD c o none).look.length = if o.isSome then 1 else 0 := ckF_len o
  rw [e1] at h1
  obtain ⟨a, k, rfl, h4, h5, h6, _⟩ := rowR_of_own h1
  exact ⟨a, k, rfl, h5, by unfold maxLen at h6; exact h6, h2, h3⟩
theorem ck_nOpen (B M : Nat) (X : List Nat) (c : Nat) (o t : Option (List Int)) (w : World) (h : DKv B w M X (ckD c o t)) (hB : B ≤ w.heap.size) : Calls Try.prog 17 #[.pointer (some ⟨M, 0, none⟩)] w fun e w' => e = .returned (.int .i64 0) ∧ w' = w := dl_Open B M X _ w h hB
set_option maxRecDepth 100000 in
set_option maxHeartbeats 8000000 in
theorem awake_11 (w : World) :
    Calls Try.prog 8 #[] w fun e w' => e = .returned (.bool true) ∧ Below w.heap.size w w' := by
  have hst := a_one
  have hcb := fun (v : World) (C : Array Value) (n c : Nat) => Lib.run_convert_bytes_const (P := Try.prog) v 29 5 C n c Try.underlying29 Try.underlying5
  go_enter Try.func8, Try.ntmps8
  go_upto_region 4 with (go_at_call 10; (with_reducible refine (dl_New w.heap.size [] w (fun b hb => absurd hb List.not_mem_nil) (Nat.le_refl _)).mono ?_); rintro e w1 ⟨M, rfl, hd_, hb_⟩; have HD := Lib.hid hd_; have HB := Lib.hid hb_; clear hd_ hb_)
  have C1 := Lib.hid (ck_Open_none w.heap.size M [] 0 none w1 HD.out (fun b hb => absurd hb List.not_mem_nil) HB.out.size (by omega))
  go_upto_region 7 with (go_at_call 11; (with_reducible refine (C1.out).mono ?_); rintro e w2 ⟨N, rfl, hs_, hn_, ⟨⟨c1, hc1, hd_⟩, hb_, -⟩⟩; have HS := Lib.hid hs_; have HD2 := Lib.hid hd_; have HB2 := Lib.hid (HB.out.trans hb_); clear hs_ hd_ hb_ C1 HD)
  have hN : w.heap.size ≤ N := Nat.le_trans HB.out.size hn_
  have hNl := Blk.lt HS.out
  have CV := Lib.hid (ck_Vn w2 N M 0 HS.out)
  go_upto_region 8 with (go_at_call 13; (with_reducible refine (CV.out).mono ?_); rintro e wx ⟨rfl, hz9⟩; have hz8 := hz9.symm; subst hz8)
  have k1 := belAlloc (Below.refl w2.heap.size w2) (.cells #[.int .u8 111, .int .u8 110, .int .u8 101] 5 (3, 4))
  have hz : Ints .u8 (w2.alloc (.cells #[.int .u8 111, .int .u8 110, .int .u8 101] 5 (3, 4))) (some ⟨w2.heap.size, 0, none⟩) 3 3 [111, 110, 101] := ints_new (k := .u8) w2 [111, 110, 101] 5 (3, 4) (by unfold maxLen; simp) (fun m hm => by simp at hm; rcases hm with rfl | rfl | rfl <;> exact WalkArith.wf_u8 ⟨by omega, by omega⟩)
  have CS := Lib.hid (ck_Save w.heap.size N M [N] [] c1 none (w2.alloc (.cells #[.int .u8 111, .int .u8 110, .int .u8 101] 5 (3, 4))) 0 (HD2.out.later k1) (Blk.later HS.out k1) (fun b hb => by simp at hb; subst hb; exact Nat.lt_of_lt_of_le hNl k1.size) (Nat.le_trans HB2.out.size k1.size) List.mem_cons_self hN (fun b hb => absurd hb List.not_mem_nil) List.not_mem_nil (by omega) (some ⟨w2.heap.size, 0, none⟩) 3 3 [111, 110, 101] hz (by omega) (by omega))
  have HB3 := Lib.hid (belStep HB2.out k1)
  clear hz k1 CV
  go_upto_region 9 with (go_at_call 12; (with_reducible refine (CS.out).mono ?_); rintro e w3 ⟨rfl, hd_, hs_, hb_, -⟩; have HD3 := Lib.hid hd_; have HS3 := Lib.hid (show StA w3 N M 1 from hs_); have HB4 := Lib.hid (HB3.out.trans hb_); clear hs_ hd_ hb_ CS HD2 HS)
  have hNl3 := Blk.lt HS3.out
  have C2 := Lib.hid (ck_Open_ok w.heap.size M [N] (c1 + 2) none w3 (frameL (0 + 1) [111, 110, 101]) 1 [111, 110, 101] 3 ⟨rfl, by omega, by simp⟩ rfl HD3.out (fun b hb => by simp at hb; subst hb; exact hNl3) HB4.out.size (by omega))
  go_upto_region 10 with (go_at_call 11; (with_reducible refine (C2.out).mono ?_); rintro e w4 ⟨N2, g, c2, ax, cx, rfl, -, -, -, hi_, hs_, -, -, ⟨⟨c3, hc3, hd_⟩, hb_, hf_⟩⟩; have HD4 := Lib.hid hd_; have HI := Lib.hid hi_; have HS2 := Lib.hid (show StA w4 N2 M 1 from hs_); have HS4 := Lib.hid (hf_.blk HS3.out List.mem_cons_self); have HB5 := Lib.hid (HB4.out.trans hb_); clear hs_ hd_ hb_ hf_ hi_ C2 HD3 HS3)
  have CV1 := Lib.hid (ck_Vn w4 N M 1 HS4.out)
  have CV2 := Lib.hid (ck_Vn w4 N2 M 1 HS2.out)
  have hcv := conv_str HI.out
  have CN := Lib.hid (ck_Names w.heap.size M _ c3 (some (frameL (0 + 1) [111, 110, 101])) w4 HD4.out HB5.out.size (by omega))
  go_wp2_with (first | (go_at_call 13; (with_reducible refine (CV1.out).mono ?_); rintro e wx ⟨rfl, hz9⟩; have hz8 := hz9.symm; subst hz8) | (go_at_call 13; (with_reducible refine (CV2.out).mono ?_); rintro e wx ⟨rfl, hz9⟩; have hz8 := hz9.symm; subst hz8) | (go_at_call 24; (with_reducible refine (ck_Sn _).mono ?_); rintro e wx ⟨rfl, hz9⟩; have hz8 := hz9.symm; subst hz8) | (go_at_call 18; (with_reducible refine (CN.out).mono ?_); rintro e w5 ⟨na, nk, rfl, -, -, -, hb_⟩))
  go_ret
  exact ⟨by first | rfl | simp, belStep HB5.out hb_⟩
end Go.Proofs.Ytcbblgeleboggaa
