
/- Stage 11: Save; readers; few: contracts. Stage 11: awake: contract. Stage 11: what the laws share. -/
import Derived.Test.YtcbblgeleboggaaCk5
import Derived.Test.YtcbblgeleboggaaDkRd
import Derived.Test.YtcbblgeleboggaaFrameRef
import Derived.Lib.SlBytesConst
namespace Go.Proofs.Ytcbblgeleboggaa
open Go.RowKit Go.Sort
set_option linter.unusedVariables false
set_option linter.unusedSimpArgs false
section
variable (B N M : Nat) (X Y : List Nat) (c : Nat) (o : Option (List Int)) (w : World) (v : Nat) (h : DKv B w M X (ckD c o none)) (hn : StA w N M v) (hX : ∀ b ∈ X, b < w.heap.size) (hB : B ≤ w.heap.size) (hNX : N ∈ X) (hBN : B ≤ N) (hYX : ∀ b ∈ Y, b ∈ X) (hYN : N ∉ Y) (hc : c ≤ 90000)
include h hn hX hB hNX hBN hYX hYN hc
set_option maxHeartbeats 4000000 in
theorem ck_Save (a : Option Addr) (len cap : Nat) (Z : List Int) (hZ : Ints .u8 w a len cap Z) (hl : len ≤ 900000) (hv : v + 1 < 4294967296) :
    Calls Try.prog 12 #[.pointer (some ⟨N, 0, none⟩), .slice a len cap] w fun e w' => e = .returned (.int .i64 0) ∧ DKv B w' M X (ckD (c + 2) (some (frameL (v + 1) Z)) none) ∧ StA w' N M ((v : Int) + 1) ∧ Below B w w' ∧ Free Y w w' := by
  have CP := Lib.hid (ck_Part B N M X Y c o w v h hn hX hB hNX hBN hYX hYN hc a len cap Z hZ hl hv 4 ⟨by omega, by omega⟩ 4 (by decide))
  clear h hn hX hYX hYN hNX hZ
  go_enter Try.func12, Try.ntmps12
  go_wp2_with (first | (go_at_call 24; (with_reducible refine (ck_Sn _).mono ?_); rintro e wx ⟨rfl, hz9⟩; have hz8 := hz9.symm; subst hz8) | (go_at_call 19; (with_reducible refine (CP.out).mono ?_); rintro e w1 ⟨rfl, h1, h2, h3, h4⟩))
  go_ret
  exact ⟨rfl, h1, h2, h3, h4⟩
end
set_option maxHeartbeats 4000000 in
theorem ck_Part_no (N M : Nat) (w : World) (hn : StA w N M 4294967295) (a : Option Addr) (len cap : Nat) (hb : len ≤ cap ∧ cap ≤ 9223372036854775807) (n : Int) :
    Calls Try.prog 19 #[.pointer (some ⟨N, 0, none⟩), .slice a len cap, .int .i64 n] w fun e w' => e = .returned (.int .i64 1) ∧ w' = w := by
  have n1 := Blk.cell hn (j := 1) rfl
  have CP := Lib.hid (frame_Put_no 4294967296 a len cap w ⟨by omega, by omega⟩ hb (.inr (.inl (by omega))))
  clear hn
  go_enter Try.func19, Try.ntmps19
  go_wp2_with (go_at_call 33; (with_reducible refine (CP.out).mono ?_); rintro e w1 ⟨rfl, hz9⟩; have hz8 := hz9.symm; subst hz8)
  go_ret
  exact ⟨rfl, rfl⟩
set_option maxHeartbeats 4000000 in
/-- Behind the last version there is none. -/
theorem ck_Save_no (N M : Nat) (w : World) (hn : StA w N M 4294967295) (a : Option Addr) (len cap : Nat) (hb : len ≤ cap ∧ cap ≤ 9223372036854775807) :
    Calls Try.prog 12 #[.pointer (some ⟨N, 0, none⟩), .slice a len cap] w fun e w' => e = .returned (.int .i64 1) ∧ w' = w := by
  have CP := Lib.hid (ck_Part_no N M w hn a len cap hb 4)
  clear hn
  go_enter Try.func12, Try.ntmps12
  go_wp2_with (first | (go_at_call 24; (with_reducible refine (ck_Sn _).mono ?_); rintro e wx ⟨rfl, hz9⟩; have hz8 := hz9.symm; subst hz8) | (go_at_call 19; (with_reducible refine (CP.out).mono ?_); rintro e w1 ⟨rfl, hz9⟩; have hz8 := hz9.symm; subst hz8))
  go_ret
  exact ⟨rfl, rfl⟩
/-- A slice of bytes among others. -/
structure BodyV where
  ba : Option Addr
  bc : Nat
  Z : List Int
def BodyV.cells (o : BodyV) : List Value := [.slice o.ba o.Z.length o.bc]
theorem BodyV.cells_len (o : BodyV) : o.cells.length = 1 := rfl
def BodyV.good (W : World) (o : BodyV) : Prop := Ints .u8 W o.ba o.Z.length o.bc o.Z
theorem BodyV.good.later {u w : World} {o : BodyV} (h : o.good u) (hb : Below u.heap.size u w) : o.good w := Ints.later h hb
theorem rd_body {w : World} {cs : List Value} (h : Rd Try.prog w 29 cs) : ∃ x : BodyV, cs = x.cells ∧ x.good w := by
  rcases Rd.slice Try.underlying29 h with h0 | ⟨ad, len, cap, h1, _⟩
  · subst h0; exact ⟨⟨none, 0, []⟩, rfl, ints_nil w .u8⟩
  · subst h1
    obtain ⟨Z, g1, g2, g3⟩ := Rd.rows (fun n : Int => [Value.int .u8 n]) 1 Try.underlying29 (by kernel_rfl) (by omega) (fun _ => rfl) (fun n => (Lit.int .u8 n).wf = true) (fun es hes => Rd.int Try.underlying5 hes) h
    subst g1
    exact ⟨⟨_, cap, Z⟩, rfl, ⟨by rw [flat_int] at g3; exact g3, g2⟩⟩
set_option maxRecDepth 100000 in
theorem open_bodies {H : Type} {enc : TypeId × Value → H} {W : World} {v : Value} {b : Nat} {d : DataW H} {p : List MemPlace} (o : Value.okWide Try.prog W .any b 22 v) (h : DataW.Trod enc Try.prog W 0 (fun _ => true) true 22 v d p) :
    ∃ (a : Option Addr) (len cap : Nat) (L : List BodyV), v = .slice a len cap ∧ L.length = len ∧ (∀ x ∈ L, x.good W) ∧ Row W a len cap 1 (L.flatMap BodyV.cells) := by
  obtain ⟨a, len, cap, rfl⟩ := slice_of_ok Try.underlying22 o
  obtain ⟨L, h1, h2, h3⟩ := Rd.rows BodyV.cells 1 Try.underlying22 (by kernel_rfl) (by omega) BodyV.cells_len (BodyV.good W) (fun es hes => rd_body hes) (Rd.of h)
  exact ⟨a, len, cap, L, rfl, h1, h2, h3⟩
def bodyB (x : BodyV) : Bool := decide (x.Z.length ≤ 300)
def fewB (L : List BodyV) : Bool := (L.take 40).all bodyB && decide (L.length ≤ 20)
theorem fewB_len {L : List BodyV} (h : fewB L = true) : L.length ≤ 20 := by unfold fewB at h; rw [Bool.and_eq_true] at h; exact of_decide_eq_true h.2
theorem fewB_body {L : List BodyV} (h : fewB L = true) {x : BodyV} (hx : x ∈ L) : x.Z.length ≤ 300 := by
  have hl := fewB_len h
  unfold fewB at h
  rw [Bool.and_eq_true, List.take_of_length_le (by omega)] at h
  exact of_decide_eq_true (List.all_eq_true.1 h.1 x hx)
set_option maxRecDepth 100000 in
set_option maxHeartbeats 16000000 in
theorem few_11 (a : Option Addr) (len cap : Nat) (L : List BodyV) (w : World) (hl : L.length = len) (hR : Row w a len cap 1 (L.flatMap BodyV.cells)) (hg : ∀ x ∈ L, x.good w) :
    Calls Try.prog 9 #[.slice a len cap] w fun e w' => e = .returned (.bool (fewB L)) ∧ Below w.heap.size w w' := by
  have hw : Below w.heap.size w w := Below.refl _ _
  have hbd_a : len ≤ cap ∧ cap ≤ 9223372036854775807 := by obtain ⟨_, h1, h2, _⟩ := hR; unfold maxLen at h2; exact ⟨h1, h2⟩
  obtain ⟨hbd1_a, hbd2_a⟩ := hbd_a
  have HR := Lib.hid hR
  clear hR
  subst hl
  have HG := Lib.hid hg
  clear hg
  go_enter Try.func9, Try.ntmps9
  go_wp2
  go_loopw [3] (fun i wr => ∃ k : Nat, k ≤ L.length ∧ k ≤ 40 ∧ i = .int .i64 k ∧ Hid ((L.take k).all bodyB = true) ∧ Below w.heap.size w wr) (fun i _ => L.length - (intOf i).toNat)
  case atStart => exact ⟨0, Nat.zero_le _, by omega, rfl, Lib.hid rfl, hw⟩
  case round =>
    clear hw
    obtain ⟨k, hk, hk2, rfl, HC, hbel⟩ := hrel
    by_cases hlt2 : k < min L.length 40
    · have hlt : k < L.length := by omega
      have hd : decide ((k : Int) < (L.length : Int)) = true := decide_eq_true (by omega)
      have hki : (k : Int) < (L.length : Int) := by omega
      have hk0 : (0 : Int) ≤ (k : Int) := by omega
      have hd2 : decide ((k : Int) < 40) = true := decide_eq_true (by omega)
      have hd3 : (k : Int) < 40 := by omega
      obtain ⟨x, hx⟩ : ∃ x, L[k]? = some x := ⟨L[k], List.getElem?_eq_getElem hlt⟩
      obtain ⟨bc, oc, ec, _, hcc⟩ := (HR.out).elem BodyV.cells_len (by omega) hx
      subst ec
      have c0 := keep (hcc 0 _ rfl)
      rw [Nat.add_zero] at c0
      rw [Nat.mul_one] at c0
      have HX := Lib.hid hx
      obtain ⟨⟨_, hz1, hz2, _⟩, _⟩ := HG.out _ (List.mem_of_getElem? hx)
      unfold maxLen at hz2
      have hsz2 : x.Z.length ≤ 9223372036854775807 := by omega
      clear hx hcc
      by_cases hqa : 300 < x.Z.length
      · have ea1 : decide ((300 : Int) < (x.Z.length : Int)) = true := decide_eq_true (by omega)
        have ea2 : (300 : Int) < (x.Z.length : Int) := by omega
        have HN := Lib.hid (show fewB L = false by unfold fewB; rw [allG_not HX.out (show bodyB x = false by unfold bodyB; rw [decide_eq_false (show ¬ x.Z.length ≤ 300 by omega)]) (show k < 40 by omega)]; rfl)
        go_wp2
        go_ret
        exact ⟨by rw [HN.out]; rfl, hbel⟩
      · have ea1 : decide ((300 : Int) < (x.Z.length : Int)) = false := decide_eq_false (by omega)
        have ea2 : ¬ (300 : Int) < (x.Z.length : Int) := by omega
        have HN := Lib.hid (show (L.take (k + 1)).all bodyB = true by rw [allG_next HX.out, HC.out, show bodyB x = true by unfold bodyB; rw [decide_eq_true (show x.Z.length ≤ 300 by omega)]]; rfl)
        go_wp2
        go_roundw
        case rel => exact ⟨k + 1, by omega, by omega, by push_cast; rfl, HN, hbel⟩
        case measure => simp [intOf] <;> omega
    · obtain rfl : k = min L.length 40 := by omega
      by_cases h100 : L.length < 40
      · have hmi : min L.length 40 = L.length := by omega
        rw [hmi] at HC ⊢
        have HF := Lib.hid (show fewB L = decide (L.length ≤ 20) by unfold fewB; rw [List.take_of_length_le (by omega)]; rw [List.take_length] at HC; rw [HC.out]; rfl)
        have hd : decide ((L.length : Int) < (L.length : Int)) = false := decide_eq_false (by omega)
        have k10 : decide ((L.length : Int) ≤ 20) = decide (L.length ≤ 20) := decide_eq_decide.2 (by omega)
        go_wp2
        go_ret
        exact ⟨by rw [HF.out]; first | rfl | (rw [← k10]; rfl), hbel⟩
      · have hmi : min L.length 40 = 40 := by omega
        rw [hmi] at HC ⊢
        have HF := Lib.hid (show fewB L = false by unfold fewB; rw [show decide (L.length ≤ 20) = false from decide_eq_false (by omega), Bool.and_false])
        have k10 : decide ((L.length : Int) ≤ 20) = false := decide_eq_false (by omega)
        have k11 : ¬ (L.length : Int) ≤ 20 := by omega
        by_cases h9 : L.length = 40
        · have hd : decide (((40 : Nat) : Int) < (L.length : Int)) = false := decide_eq_false (by omega)
          have hd4 : decide ((40 : Int) < (L.length : Int)) = false := decide_eq_false (by omega)
          go_wp2
          go_ret
          exact ⟨by rw [HF.out]; rfl, hbel⟩
        · have hd : decide (((40 : Nat) : Int) < (L.length : Int)) = true := decide_eq_true (by omega)
          have hd4 : decide ((40 : Int) < (L.length : Int)) = true := decide_eq_true (by omega)
          have hd5 : (40 : Int) < (L.length : Int) := by omega
          go_wp2
          go_ret
          exact ⟨by rw [HF.out]; rfl, hbel⟩
end Go.Proofs.Ytcbblgeleboggaa
namespace Go.Proofs.Ytcbblgeleboggaa
open Go.RowKit Go.Sort Go.Maps
set_option linter.unusedVariables false
set_option linter.unusedSimpArgs false
theorem a_one : ((strOfNums [111, 110, 101]).toList == [111, 110, 101]) = true := by decide +kernel
/-- How many names there are. -/
theorem ck_Names (B M : Nat) (X : List Nat) (c : Nat) (o : Option (List Int)) (w : World) (h : DKv B w M X (ckD c o none)) (hB : B ≤ w.heap.size) (hc : c ≤ 90000) :
    Calls Try.prog 18 #[.pointer (some ⟨M, 0, none⟩)] w fun e w' => ∃ a k, e = .returned (.slice a (if o.isSome then 1 else 0) k) ∧ (if o.isSome then 1 else 0) ≤ k ∧ k ≤ 9223372036854775807 ∧ DKv B w' M X (ckD c o none) ∧ Below w.heap.size w w' := by
  refine (dl_Names B M X _ w h hB (show c + 0 ≤ 100000 by omega) (ckF_sorted o none)).mono ?_
  rintro e wq ⟨v, rfl, h1, h2, h3⟩
  have e1 : (ckD c o none).look.length = if o.isSome then 1 else 0 := ckF_len o
  rw [e1] at h1
  obtain ⟨a, k, rfl, h4, h5, h6, _⟩ := rowR_of_own h1
  exact ⟨a, k, rfl, h5, by unfold maxLen at h6; exact h6, h2, h3⟩
theorem ck_nOpen (B M : Nat) (X : List Nat) (c : Nat) (o t : Option (List Int)) (w : World) (h : DKv B w M X (ckD c o t)) (hB : B ≤ w.heap.size) : Calls Try.prog 17 #[.pointer (some ⟨M, 0, none⟩)] w fun e w' => e = .returned (.int .i64 0) ∧ w' = w := dl_Open B M X _ w h hB
set_option maxRecDepth 100000 in
set_option maxHeartbeats 8000000 in
theorem awake_11 (w : World) :
    Calls Try.prog 8 #[] w fun e w' => e = .returned (.bool true) ∧ Below w.heap.size w w' := by
  have hst := a_one
  have hcb := fun (v : World) (C : Array Value) (n c : Nat) => Lib.run_convert_bytes_const (P := Try.prog) v 29 5 C n c Try.underlying29 Try.underlying5
  go_enter Try.func8, Try.ntmps8
  go_upto_region 4 with (go_at_call 10; (with_reducible refine (dl_New w.heap.size [] w (fun b hb => absurd hb List.not_mem_nil) (Nat.le_refl _)).mono ?_); rintro e w1 ⟨M, rfl, hd_, hb_⟩; have HD := Lib.hid hd_; have HB := Lib.hid hb_; clear hd_ hb_)
  have C1 := Lib.hid (ck_Open_none w.heap.size M [] 0 none w1 HD.out (fun b hb => absurd hb List.not_mem_nil) HB.out.size (by omega))
  go_upto_region 7 with (go_at_call 11; (with_reducible refine (C1.out).mono ?_); rintro e w2 ⟨N, rfl, hs_, hn_, ⟨⟨c1, hc1, hd_⟩, hb_, -⟩⟩; have HS := Lib.hid hs_; have HD2 := Lib.hid hd_; have HB2 := Lib.hid (HB.out.trans hb_); clear hs_ hd_ hb_ C1 HD)
  have hN : w.heap.size ≤ N := Nat.le_trans HB.out.size hn_
  have hNl := Blk.lt HS.out
  have CV := Lib.hid (ck_Vn w2 N M 0 HS.out)
  go_upto_region 8 with (go_at_call 13; (with_reducible refine (CV.out).mono ?_); rintro e wx ⟨rfl, hz9⟩; have hz8 := hz9.symm; subst hz8)
  have k1 := belAlloc (Below.refl w2.heap.size w2) (.cells #[.int .u8 111, .int .u8 110, .int .u8 101] 5 (3, 4))
  have hz : Ints .u8 (w2.alloc (.cells #[.int .u8 111, .int .u8 110, .int .u8 101] 5 (3, 4))) (some ⟨w2.heap.size, 0, none⟩) 3 3 [111, 110, 101] := ints_new (k := .u8) w2 [111, 110, 101] 5 (3, 4) (by unfold maxLen; simp) (fun m hm => by simp at hm; rcases hm with rfl | rfl | rfl <;> exact WalkArith.wf_u8 ⟨by omega, by omega⟩)
  have CS := Lib.hid (ck_Save w.heap.size N M [N] [] c1 none (w2.alloc (.cells #[.int .u8 111, .int .u8 110, .int .u8 101] 5 (3, 4))) 0 (HD2.out.later k1) (Blk.later HS.out k1) (fun b hb => by simp at hb; subst hb; exact Nat.lt_of_lt_of_le hNl k1.size) (Nat.le_trans HB2.out.size k1.size) List.mem_cons_self hN (fun b hb => absurd hb List.not_mem_nil) List.not_mem_nil (by omega) (some ⟨w2.heap.size, 0, none⟩) 3 3 [111, 110, 101] hz (by omega) (by omega))
  have HB3 := Lib.hid (belStep HB2.out k1)
  clear hz k1 CV
  go_upto_region 9 with (go_at_call 12; (with_reducible refine (CS.out).mono ?_); rintro e w3 ⟨rfl, hd_, hs_, hb_, -⟩; have HD3 := Lib.hid hd_; have HS3 := Lib.hid (show StA w3 N M 1 from hs_); have HB4 := Lib.hid (HB3.out.trans hb_); clear hs_ hd_ hb_ CS HD2 HS)
  have hNl3 := Blk.lt HS3.out
  have C2 := Lib.hid (ck_Open_ok w.heap.size M [N] (c1 + 2) none w3 (frameL (0 + 1) [111, 110, 101]) 1 [111, 110, 101] 3 ⟨rfl, by omega, by simp⟩ rfl HD3.out (fun b hb => by simp at hb; subst hb; exact hNl3) HB4.out.size (by omega))
  go_upto_region 10 with (go_at_call 11; (with_reducible refine (C2.out).mono ?_); rintro e w4 ⟨N2, g, c2, ax, cx, rfl, -, -, -, hi_, hs_, -, -, ⟨⟨c3, hc3, hd_⟩, hb_, hf_⟩⟩; have HD4 := Lib.hid hd_; have HI := Lib.hid hi_; have HS2 := Lib.hid (show StA w4 N2 M 1 from hs_); have HS4 := Lib.hid (hf_.blk HS3.out List.mem_cons_self); have HB5 := Lib.hid (HB4.out.trans hb_); clear hs_ hd_ hb_ hf_ hi_ C2 HD3 HS3)
  have CV1 := Lib.hid (ck_Vn w4 N M 1 HS4.out)
  have CV2 := Lib.hid (ck_Vn w4 N2 M 1 HS2.out)
  have hcv := conv_str HI.out
  have CN := Lib.hid (ck_Names w.heap.size M _ c3 (some (frameL (0 + 1) [111, 110, 101])) w4 HD4.out HB5.out.size (by omega))
  go_wp2_with (first | (go_at_call 13; (with_reducible refine (CV1.out).mono ?_); rintro e wx ⟨rfl, hz9⟩; have hz8 := hz9.symm; subst hz8) | (go_at_call 13; (with_reducible refine (CV2.out).mono ?_); rintro e wx ⟨rfl, hz9⟩; have hz8 := hz9.symm; subst hz8) | (go_at_call 24; (with_reducible refine (ck_Sn _).mono ?_); rintro e wx ⟨rfl, hz9⟩; have hz8 := hz9.symm; subst hz8) | (go_at_call 18; (with_reducible refine (CN.out).mono ?_); rintro e w5 ⟨na, nk, rfl, -, -, -, hb_⟩))
  go_ret
  exact ⟨by first | rfl | simp, belStep HB5.out hb_⟩
end Go.Proofs.Ytcbblgeleboggaa
namespace Go.Proofs.Ytcbblgeleboggaa
open Go.RowKit Go.Sort Go.Maps
set_option linter.unusedVariables false
set_option linter.unusedSimpArgs false
theorem ck_doK (B M : Nat) (X : List Nat) (d : DiskV) (w : World) (h : DKv B w M X d) (hX : ∀ b ∈ X, b < w.heap.size) (hB : B ≤ w.heap.size) (hc : d.cap + d.done.length ≤ 100000) (a : Option Addr) (zn cap : Nat) (Z : List Int) (hzn : Z.length = zn) (hZ : Ints .u8 w a zn cap Z) (hl : zn ≤ 1000000) :
    Calls Try.prog 21 #[.pointer (some ⟨M, 0, none⟩), .agg #[.int .i64 1, .string ⟨#[109, 97, 105, 110]⟩, .string ⟨#[]⟩, .slice a zn cap]] w fun e w' => e = .returned (.int .i64 0) ∧ DKv B w' M X (doW d (kOp Z)) ∧ Below B w w' ∧ Free X w w' := by
  subst hzn
  exact (dl_Do B M X _ w h hX hB hc ⟨1, ⟨#[109, 97, 105, 110]⟩, ⟨#[]⟩, a, cap, Z⟩ hZ hl ⟨show (⟨#[109, 97, 105, 110]⟩ : ByteArray).size ≤ maxLen by decide +kernel, show (⟨#[]⟩ : ByteArray).size ≤ maxLen by decide +kernel, ⟨show (-9223372036854775808 : Int) ≤ 1 by omega, show (1 : Int) ≤ 9223372036854775807 by omega⟩⟩).mono (by rintro e wq ⟨h1, h2, h3⟩; exact ⟨h1.trans (congrArg (fun z => Ending.returned (.int .i64 z)) (e_k Z)), h2, h3⟩)
theorem ck_doT (B M : Nat) (X : List Nat) (d : DiskV) (w : World) (h : DKv B w M X d) (hX : ∀ b ∈ X, b < w.heap.size) (hB : B ≤ w.heap.size) (hc : d.cap + d.done.length ≤ 100000) (a : Option Addr) (zn cap : Nat) (Z : List Int) (hzn : Z.length = zn) (hZ : Ints .u8 w a zn cap Z) (hl : zn ≤ 1000000) :
    Calls Try.prog 21 #[.pointer (some ⟨M, 0, none⟩), .agg #[.int .i64 1, .string ⟨#[116, 101, 109, 112]⟩, .string ⟨#[]⟩, .slice a zn cap]] w fun e w' => e = .returned (.int .i64 0) ∧ DKv B w' M X (doW d (wOp Z)) ∧ Below B w w' ∧ Free X w w' := by
  subst hzn
  exact (dl_Do B M X _ w h hX hB hc ⟨1, ⟨#[116, 101, 109, 112]⟩, ⟨#[]⟩, a, cap, Z⟩ hZ hl ⟨show (⟨#[116, 101, 109, 112]⟩ : ByteArray).size ≤ maxLen by decide +kernel, show (⟨#[]⟩ : ByteArray).size ≤ maxLen by decide +kernel, ⟨show (-9223372036854775808 : Int) ≤ 1 by omega, show (1 : Int) ≤ 9223372036854775807 by omega⟩⟩).mono (by rintro e wq ⟨h1, h2, h3⟩; exact ⟨h1.trans (congrArg (fun z => Ending.returned (.int .i64 z)) (e_w Z)), h2, h3⟩)
theorem open_1 (l : List Int) : syncW (doW (ckD 0 none none) (kOp l)) = ckD 1 (some l) none := by
  rw [d_k]
  show (⟨applyF (ckF none none) (kOp l), [], 0 + 1⟩ : DiskV) = ⟨ckF (some l) none, [], 1⟩
  rw [a_k, ckF_putM]
theorem open_2 (l m : List Int) : syncW (doW (doW (ckD 0 none none) (kOp l)) (wOp m)) = ckD 2 (some l) (some m) := by
  rw [d_k, d_w]
  show (⟨applyF (applyF (ckF none none) (kOp l)) (wOp m), [], 0 + 2⟩ : DiskV) = ⟨ckF (some l) (some m), [], 2⟩
  rw [a_k, ckF_putM, a_w, ckF_putT]
theorem cap_1 (l : List Int) : (doW (ckD 0 none none) (kOp l)).cap + (doW (ckD 0 none none) (kOp l)).done.length ≤ 100000 := by rw [d_k]; show 0 + 1 ≤ 100000; omega
theorem cap_2 (l m : List Int) : (doW (doW (ckD 0 none none) (kOp l)) (wOp m)).cap + (doW (doW (ckD 0 none none) (kOp l)) (wOp m)).done.length ≤ 100000 := by rw [d_k, d_w]; show 0 + 2 ≤ 100000; omega
/-- What has been saved behind k saves. -/
def savedF (L : List BodyV) : Nat → Option (List Int)
  | 0 => none
  | k + 1 => (L[k]?).map (fun x => frameL (k + 1) x.Z)
theorem savedF_next {L : List BodyV} {k : Nat} {x : BodyV} (h : L[k]? = some x) : savedF L (k + 1) = some (frameL (k + 1) x.Z) := by show Option.map _ L[k]? = _; rw [h]; rfl
theorem same_self (a : Option Addr) (k cap : Nat) (l : List Int) (b : Option Addr) (cap2 : Nat) (w : World) (hl : Ints .u8 w a k cap l) (h2 : Ints .u8 w b k cap2 l) : Calls Try.prog 15 #[.slice a k cap, .slice b k cap2] w fun e w' => e = .returned (.bool true) ∧ w = w' := (beq_self_eq_true l) ▸ sref_Same a k cap l b k cap2 l w hl h2
theorem ref_Put (v : Nat) (a : Option Addr) (len cap : Nat) (l : List Int) (w : World) (hv : v + 1 < 4294967296) (hl : Ints .u8 w a len cap l) (hlen : len ≤ 900000) :
    Calls Try.prog 16 #[.int .i64 ((v : Int) + 1), .slice a len cap] w fun e w' => ∃ a2 c2, e = .returned (.slice a2 (len + 16) c2) ∧ Ints .u8 w' a2 (len + 16) c2 (frameL (v + 1) l) ∧ Below w.heap.size w w' := fref_Put (v + 1) a len cap l w hv hl hlen
theorem Free.ownV {u w : World} {X : List Nat} {B k n : Nat} {E : TypeId} {v : Value} {cs : List Value} (h : Free X u w) (ho : OwnR u B E k v n cs) (hX : ∀ b, v.ownBlock = some b → b ∈ X) : OwnR w B E k v n cs := by
  obtain ⟨F, hA, hF⟩ := h
  exact own_same ho (fun g e => hA.block g (own_type ho e).2.1 (hF g (hX g e)))
theorem mem_ownB {v : Value} {b : Nat} : v.ownBlock = some b ↔ b ∈ v.ownBlock.toList := by simp [Option.mem_toList]
end Go.Proofs.Ytcbblgeleboggaa
