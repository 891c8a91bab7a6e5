
/- Stage 11: Part, Save: contracts. -/
import Derived.Test.YtcbblgeleboggaaCkA
namespace Go.Proofs.Ytcbblgeleboggaa
open Go.RowKit Go.Sort Go.Maps
set_option linter.unusedVariables false
set_option linter.unusedSectionVars false
set_option linter.unusedSimpArgs false
def clampN (n : Int) : Nat := (min (max n 0) 4).toNat
theorem clampN_le (n : Int) : clampN n ≤ 4 := by unfold clampN; omega
theorem ck_Sn (w : World) : Calls Try.prog 24 #[] w fun e w' => e = .returned (.int .i64 4) ∧ w' = w := by
  go_enter Try.func24, Try.ntmps24
  go_wp2
  go_ret
  exact ⟨rfl, rfl⟩
theorem ck_Vn (w : World) (N M : Nat) (v : Int) (hn : StA w N M v) : Calls Try.prog 13 #[.pointer (some ⟨N, 0, none⟩)] w fun e w' => e = .returned (.int .i64 v) ∧ w' = w := by
  have n1 := Blk.cell hn (j := 1) rfl
  clear hn
  go_enter Try.func13, Try.ntmps13
  go_wp2
  go_ret
  exact ⟨rfl, rfl⟩
theorem ints_of_OwnI {w : World} {B g n cap : Nat} {l : List Int} (h : OwnI w B 5 .u8 (.slice (some ⟨g, 0, none⟩) n cap) l) (hl : Bytes l) : Ints .u8 w (some ⟨g, 0, none⟩) n cap l := ints_ownS h (fun m hm => wf8 m (hl m hm))
theorem Free.ownI {u w : World} {X : List Nat} {B g n c : Nat} {E : TypeId} {k : IntKind} {l : List Int} (h : Free X u w) (ho : OwnI u B E k (.slice (some ⟨g, 0, none⟩) n c) l) (hg : g ∈ X) : OwnI w B E k (.slice (some ⟨g, 0, none⟩) n c) l := by
  obtain ⟨F, hA, hF⟩ := h
  exact own_same ho (fun g' e => hA.block g' (own_type ho e).2.1 (hF g' (by cases e; exact hg)))
section
variable (B N M : Nat) (X Y : List Nat) (c : Nat) (o : Option (List Int)) (w : World) (v : Nat) (h : DKv B w M X (ckD c o none)) (hn : StA w N M v) (hX : ∀ b ∈ X, b < w.heap.size) (hB : B ≤ w.heap.size) (hNX : N ∈ X) (hBN : B ≤ N) (hYX : ∀ b ∈ Y, b ∈ X) (hYN : N ∉ Y) (hc : c ≤ 90000)
include h hn hX hB hNX hBN hYX hYN hc
/-- Ahead of the steps: what they want, and blocks that they leave alone. -/
theorem part_loop (f : List Int) (w1 w2 : World) (g0 bs bb gr len c2 : Nat) (hB1 : Below w.heap.size w w1) (hB2 : Below w1.heap.size w1 w2) (hO : OwnI w1 w.heap.size 5 .u8 (.slice (some ⟨g0, 0, none⟩) (len + 16) c2) f) (hlf : f.length = len + 16) (fb : Bytes f)
    (hs : Blk w2 bs [.pointer (some ⟨N, 0, none⟩)] 28) (hbb : Blk w2 bb [.slice (some ⟨g0, 0, none⟩) (len + 16) c2] 29) (C : List Value) (hr : Blk w2 gr C 1) (hq : w1.heap.size ≤ bs ∧ w1.heap.size ≤ bb ∧ w1.heap.size ≤ gr) (hg : w.heap.size ≤ g0) (hg2 : g0 < w1.heap.size) :
    ∃ X2 : List Nat, (∀ b ∈ X2, b < w2.heap.size) ∧ (∀ b ∈ X, b ∈ X2) ∧ bs ∈ X2 ∧ bb ∈ X2 ∧ gr ∈ X2 ∧ g0 ∈ X2 ∧ DKv B w2 M X2 (partD c o f 0) ∧ StA w2 N M v ∧ Ints .u8 w2 (some ⟨g0, 0, none⟩) (len + 16) c2 f ∧ OwnI w2 w.heap.size 5 .u8 (.slice (some ⟨g0, 0, none⟩) (len + 16) c2) f ∧ Below B w w2 ∧ Free Y w w2 ∧ B ≤ w2.heap.size := by
  have hl1 := hs.lt
  have hl2 := hbb.lt
  have hl3 := hr.lt
  have hs1 := hB1.size
  have hs2 := hB2.size
  have hO2 := hO.later hB2
  refine ⟨g0 :: bs :: bb :: gr :: X, fun b hb => ?_, fun b hb => by simp [hb], by simp, by simp, by simp, by simp, ?_, (Blk.later hn hB1).later hB2, ints_of_OwnI hO2 fb, hO2, (hB1.mono hB).trans (hB2.mono (Nat.le_trans hB hs1)), (Free.below hB1).trans (Free.below hB2), by omega⟩
  · simp only [List.mem_cons] at hb
    rcases hb with rfl | rfl | rfl | rfl | hb
    · omega
    · exact hl1
    · exact hl2
    · exact hl3
    · have := hX b hb; omega
  · refine ((h.more (Y := g0 :: bs :: bb :: gr :: X) (fun b hb => ?_)).later hB1).later hB2
    simp only [List.mem_cons] at hb
    rcases hb with rfl | rfl | rfl | rfl | hb
    · exact .inr hg
    · right; omega
    · right; omega
    · right; omega
    · exact .inl hb
set_option maxRecDepth 100000 in
set_option maxHeartbeats 16000000 in
theorem ck_Part (a : Option Addr) (len cap : Nat) (Z : List Int) (hZ : Ints .u8 w a len cap Z) (hl : len ≤ 900000) (hv : v + 1 < 4294967296) (n : Int) (hn63 : InI n) (j : Nat) (hj : clampN n = j) :
    Calls Try.prog 19 #[.pointer (some ⟨N, 0, none⟩), .slice a len cap, .int .i64 n] w fun e w' => e = .returned (.int .i64 0) ∧ DKv B w' M X (partD c o (frameL (v + 1) Z) j) ∧ StA w' N M ((if j = 4 then v + 1 else v : Nat) : Int) ∧ Below B w w' ∧ Free Y w w' := by
  have hby := bytes_of hZ
  have HFB := Lib.hid (frameL_B (v := v + 1) hby)
  have zP := frame_Put (v + 1) a len cap Z w hv hZ hl
  have hlZ : Z.length = len := hZ.bounds.1
  have hlF : (frameL (v + 1) Z).length = len + 16 := by rw [frameL_len, hlZ]
  rw [show (((v + 1 : Nat) : Nat) : Int) = (v : Int) + 1 by push_cast; rfl] at zP
  have CP := Lib.hid zP
  clear zP hby hZ hlZ
  obtain ⟨f, hf⟩ : ∃ f, frameL (v + 1) Z = f := ⟨_, rfl⟩
  rw [hf] at CP HFB hlF ⊢
  have HFL := Lib.hid hlF
  clear hf hlF
  have n1 := Blk.cell hn (j := 1) rfl
  have HN := Lib.hid hn
  have HD := Lib.hid h
  have HX := Lib.hid hX
  have HYX := Lib.hid hYX
  have HYN := Lib.hid hYN
  have HNX := Lib.hid hNX
  have hj4 : j ≤ 4 := by rw [← hj]; exact clampN_le n
  obtain ⟨hn1, hn2⟩ := hn63
  unfold clampN at hj
  have hwr : IntKind.i64.wrap ((v : Int) + 1) = (v : Int) + 1 := IntWalk.i64_in _ (by omega)
  clear hn h hX hYX hYN hNX
  go_enter Try.func19, Try.ntmps19
  go_upto_region 4 with (go_at_call 33; (with_reducible refine (CP.out).mono ?_); rintro e w1 ⟨g0, c2, rfl, ⟨hg1, hg2, hg3, hg4⟩, ho_, hb_⟩; have HO := Lib.hid ho_; have HB1 := Lib.hid hb_; clear ho_ hb_ CP n1)
  have hcs : n < 0 ∧ j = 0 ∨ n = (j : Int) ∨ 4 < n ∧ j = 4 := by omega
  clear hj
  have HN1 := Lib.hid (Blk.later HN.out HB1.out)
  have CS := Lib.hid (ck_steps w1 N M v (some ⟨g0, 0, none⟩) (len + 16) c2 HN1.out)
  have hj0 : (0 : Int) ≤ (j : Int) := by omega
  have hj5 : (j : Int) ≤ 4 := by omega
  have hj6 : decide ((j : Int) < 0) = false := decide_eq_false (by omega)
  have hj7 : decide ((4 : Int) < (j : Int)) = false := decide_eq_false (by omega)
  rcases hcs with ⟨hlt, rfl⟩ | rfl | ⟨hgt, rfl⟩
  · go_upto_region 5 with (go_at_call 24; (with_reducible refine (ck_Sn _).mono ?_); rintro e wx ⟨rfl, hz9⟩; have hz8 := hz9.symm; subst hz8)
    go_upto_region 6 with (go_at_call 34; (with_reducible refine (CS.out).mono ?_); rintro e w2 ⟨bs, bb, gr, rfl, hs_, hbb_, hr_, hq1_, hq2_, hq3_, hb_⟩; have HS := Lib.hid hs_; have HBB := Lib.hid hbb_; have HR := Lib.hid hr_; have HQ := Lib.hid (And.intro hq1_ (And.intro hq2_ hq3_)); have HB2 := Lib.hid hb_; clear hs_ hbb_ hr_ hq1_ hq2_ hq3_ hb_ CS)
    have hq := part_loop B N M X Y c o w v HD.out HN.out HX.out hB HNX.out hBN HYX.out HYN.out hc f w1 w2 g0 bs bb gr len c2 HB1.out HB2.out HO.out HFL.out HFB.out HS.out HBB.out _ HR.out HQ.out hg1 hg4
    obtain ⟨X2, hx1, hx2, hx3, hx4, hx5, hx6, hD2, hN2, hI2, hO2, hBel, hFr, hBz⟩ := hq
    have HX2 := Lib.hid hx1
    have HXX := Lib.hid hx2
    have HM := Lib.hid (And.intro hx3 (And.intro hx4 (And.intro hx5 hx6)))
    have HD2 := Lib.hid hD2
    have HN2 := Lib.hid hN2
    have HI2 := Lib.hid hI2
    have HO2 := Lib.hid hO2
    have HBel := Lib.hid hBel
    have HFr := Lib.hid hFr
    clear hx1 hx2 hx3 hx4 hx5 hx6 hD2 hN2 hI2 hO2 hBel hFr HD HX HB1 HB2 HO
    go_loopw [34] (fun i wr => ∃ k : Nat, k ≤ 0 ∧ i = .int .i64 k ∧ DKv B wr M X2 (partD c o f k) ∧ Below B w2 wr ∧ Free X2 w2 wr) (fun i _ => 0 - (intOf i).toNat)
    case atStart => exact ⟨0, Nat.zero_le _, rfl, HD2.out, Below.refl _ _, Free.below (Below.refl _ _)⟩
    case round =>
      obtain ⟨k, hk, rfl, hd, hbr, hfr⟩ := hrel
      have HDk := Lib.hid hd
      have HBr := Lib.hid hbr
      have HFrr := Lib.hid hfr
      have HNr := Lib.hid (hfr.blk HN2.out (HXX.out _ HNX.out))
      have HRr := Lib.hid (hfr.blk HR.out HM.out.2.2.1)
      have HSr := Lib.hid (hfr.blk HS.out HM.out.1)
      have HBBr := Lib.hid (hfr.blk HBB.out HM.out.2.1)
      have hor : OwnI wr w.heap.size 5 .u8 (.slice (some ⟨g0, 0, none⟩) (len + 16) c2) f := hfr.ownI HO2.out HM.out.2.2.2
      have HIr := Lib.hid (ints_of_OwnI hor HFB.out)
      have HXr := Lib.hid (show ∀ b ∈ X2, b < wr.heap.size from fun b hb => Nat.lt_of_lt_of_le (HX2.out b hb) hfr.size)
      have hBr : B ≤ wr.heap.size := Nat.le_trans hBz hfr.size
      clear hor hd hbr hfr
      by_cases hlt : k < 0
      · omega
      · obtain rfl : k = 0 := by omega
        have n1 := Blk.cell HNr.out (j := 1) rfl
        go_wp2_with (go_at_call 24; (with_reducible refine (ck_Sn _).mono ?_); rintro e wx ⟨rfl, hz9⟩; have hz8 := hz9.symm; subst hz8)
        go_ret
        refine ⟨rfl, HDk.out.more (fun b hb => .inl (HXX.out b hb)), ?_, HBel.out.trans HBr.out, HFr.out.trans (HFrr.out.mono (fun b hb => HXX.out b (HYX.out b hb)))⟩
        first | exact HNr.out | (rw [if_neg (by omega)]; exact HNr.out)
  · go_upto_region 5 with (go_at_call 24; (with_reducible refine (ck_Sn _).mono ?_); rintro e wx ⟨rfl, hz9⟩; have hz8 := hz9.symm; subst hz8)
    go_upto_region 6 with (go_at_call 34; (with_reducible refine (CS.out).mono ?_); rintro e w2 ⟨bs, bb, gr, rfl, hs_, hbb_, hr_, hq1_, hq2_, hq3_, hb_⟩; have HS := Lib.hid hs_; have HBB := Lib.hid hbb_; have HR := Lib.hid hr_; have HQ := Lib.hid (And.intro hq1_ (And.intro hq2_ hq3_)); have HB2 := Lib.hid hb_; clear hs_ hbb_ hr_ hq1_ hq2_ hq3_ hb_ CS)
    have hq := part_loop B N M X Y c o w v HD.out HN.out HX.out hB HNX.out hBN HYX.out HYN.out hc f w1 w2 g0 bs bb gr len c2 HB1.out HB2.out HO.out HFL.out HFB.out HS.out HBB.out _ HR.out HQ.out hg1 hg4
    obtain ⟨X2, hx1, hx2, hx3, hx4, hx5, hx6, hD2, hN2, hI2, hO2, hBel, hFr, hBz⟩ := hq
    have HX2 := Lib.hid hx1
    have HXX := Lib.hid hx2
    have HM := Lib.hid (And.intro hx3 (And.intro hx4 (And.intro hx5 hx6)))
    have HD2 := Lib.hid hD2
    have HN2 := Lib.hid hN2
    have HI2 := Lib.hid hI2
    have HO2 := Lib.hid hO2
    have HBel := Lib.hid hBel
    have HFr := Lib.hid hFr
    clear hx1 hx2 hx3 hx4 hx5 hx6 hD2 hN2 hI2 hO2 hBel hFr HD HX HB1 HB2 HO
    go_loopw [34] (fun i wr => ∃ k : Nat, k ≤ j ∧ i = .int .i64 k ∧ DKv B wr M X2 (partD c o f k) ∧ Below B w2 wr ∧ Free X2 w2 wr) (fun i _ => j - (intOf i).toNat)
    case atStart => exact ⟨0, Nat.zero_le _, rfl, HD2.out, Below.refl _ _, Free.below (Below.refl _ _)⟩
    case round =>
      obtain ⟨k, hk, rfl, hd, hbr, hfr⟩ := hrel
      have HDk := Lib.hid hd
      have HBr := Lib.hid hbr
      have HFrr := Lib.hid hfr
      have HNr := Lib.hid (hfr.blk HN2.out (HXX.out _ HNX.out))
      have HRr := Lib.hid (hfr.blk HR.out HM.out.2.2.1)
      have HSr := Lib.hid (hfr.blk HS.out HM.out.1)
      have HBBr := Lib.hid (hfr.blk HBB.out HM.out.2.1)
      have hor : OwnI wr w.heap.size 5 .u8 (.slice (some ⟨g0, 0, none⟩) (len + 16) c2) f := hfr.ownI HO2.out HM.out.2.2.2
      have HIr := Lib.hid (ints_of_OwnI hor HFB.out)
      have HXr := Lib.hid (show ∀ b ∈ X2, b < wr.heap.size from fun b hb => Nat.lt_of_lt_of_le (HX2.out b hb) hfr.size)
      have hBr : B ≤ wr.heap.size := Nat.le_trans hBz hfr.size
      clear hor hd hbr hfr
      by_cases hlt : k < j
      · rcases (show k = 0 ∨ k = 1 ∨ k = 2 ∨ k = 3 by omega) with rfl | rfl | rfl | rfl
        · have rk := HRr.out.cell (j := 0) rfl
          have rf := HRr.out.frozen
          have CW := Lib.hid (ck_write B M X2 _ wr HDk.out HXr.out hBr (Nat.le_trans (part_cap c o f 0) (by omega)) N bs bb v (some ⟨g0, 0, none⟩) c2 f (len + 16) HFL.out HNr.out HSr.out HBBr.out HIr.out (by rw [HFL.out]; omega))
          rw [part_1] at CW
          go_wp2_with (go_at_call 48; (with_reducible refine (CW.out).mono ?_); rintro e wn ⟨rfl, hd_, hb_, hf_⟩)
          go_roundw
          case rel => exact ⟨1, by omega, rfl, hd_, HBr.out.trans hb_, HFrr.out.trans hf_⟩
          case measure => simp [intOf] <;> omega
        · have rk := HRr.out.cell (j := 1) rfl
          have rf := HRr.out.frozen
          have CW := Lib.hid (dl_Sync B M X2 _ wr HDk.out HXr.out hBr (Nat.le_trans (part_cap c o f 1) (by omega)))
          rw [part_2] at CW
          go_wp2_with (go_at_call 22; (with_reducible refine (CW.out).mono ?_); rintro e wn ⟨rfl, hd_, hb_, hf_⟩)
          go_roundw
          case rel => exact ⟨2, by omega, rfl, hd_, HBr.out.trans hb_, HFrr.out.trans hf_⟩
          case measure => simp [intOf] <;> omega
        · have rk := HRr.out.cell (j := 2) rfl
          have rf := HRr.out.frozen
          have CW := Lib.hid (ck_rename B M X2 _ wr HDk.out HXr.out hBr (Nat.le_trans (part_cap c o f 2) (by omega)) N bs v HNr.out HSr.out)
          rw [part_3] at CW
          go_wp2_with (go_at_call 49; (with_reducible refine (CW.out).mono ?_); rintro e wn ⟨rfl, hd_, hb_, hf_⟩)
          go_roundw
          case rel => exact ⟨3, by omega, rfl, hd_, HBr.out.trans hb_, HFrr.out.trans hf_⟩
          case measure => simp [intOf] <;> omega
        · have rk := HRr.out.cell (j := 3) rfl
          have rf := HRr.out.frozen
          have CW := Lib.hid (dl_Sync B M X2 _ wr HDk.out HXr.out hBr (Nat.le_trans (part_cap c o f 3) (by omega)))
          rw [part_4] at CW
          go_wp2_with (go_at_call 22; (with_reducible refine (CW.out).mono ?_); rintro e wn ⟨rfl, hd_, hb_, hf_⟩)
          go_roundw
          case rel => exact ⟨4, by omega, rfl, hd_, HBr.out.trans hb_, HFrr.out.trans hf_⟩
          case measure => simp [intOf] <;> omega
      · obtain rfl : k = j := by omega
        by_cases h4 : k = 4
        · obtain rfl : k = 4 := h4
          have n1 := Blk.cell HNr.out (j := 1) rfl
          have nf := Blk.frozen HNr.out 1
          go_wp2_with (go_at_call 24; (with_reducible refine (ck_Sn _).mono ?_); rintro e wx ⟨rfl, hz9⟩; have hz8 := hz9.symm; subst hz8)
          go_ret
          have hA : Apart X2 wr (wr.setCell ⟨N, 1, none⟩ (.int .i64 ((v : Int) + 1))) := (Apart.refl X2 wr).set _ _ (HXX.out _ HNX.out)
          refine ⟨rfl, (HDk.out.mine hA).more (fun b hb => .inl (HXX.out b hb)), ?_, (HBel.out.trans HBr.out).trans ((Below.refl B wr).setCell hBN _), (HFr.out.trans (HFrr.out.mono (fun b hb => HXX.out b (HYX.out b hb)))).trans ⟨[N], (Apart.refl [N] wr).set _ _ List.mem_cons_self, fun b hb q => by simp at q; subst q; exact HYN.out hb⟩⟩
          first | exact Blk.set HNr.out 1 _ | (rw [if_pos rfl]; exact Blk.set HNr.out 1 _)
        · have h4i : ((k : Int) == 4) = false := by rw [beq_eq_false_iff_ne]; omega
          have h4j : ¬ (k : Int) = 4 := by omega
          have n1 := Blk.cell HNr.out (j := 1) rfl
          go_wp2_with (go_at_call 24; (with_reducible refine (ck_Sn _).mono ?_); rintro e wx ⟨rfl, hz9⟩; have hz8 := hz9.symm; subst hz8)
          go_ret
          refine ⟨rfl, HDk.out.more (fun b hb => .inl (HXX.out b hb)), ?_, HBel.out.trans HBr.out, HFr.out.trans (HFrr.out.mono (fun b hb => HXX.out b (HYX.out b hb)))⟩
          first | exact HNr.out | (rw [if_neg (by omega)]; exact HNr.out)
  · go_upto_region 5 with (go_at_call 24; (with_reducible refine (ck_Sn _).mono ?_); rintro e wx ⟨rfl, hz9⟩; have hz8 := hz9.symm; subst hz8)
    go_upto_region 6 with (go_at_call 34; (with_reducible refine (CS.out).mono ?_); rintro e w2 ⟨bs, bb, gr, rfl, hs_, hbb_, hr_, hq1_, hq2_, hq3_, hb_⟩; have HS := Lib.hid hs_; have HBB := Lib.hid hbb_; have HR := Lib.hid hr_; have HQ := Lib.hid (And.intro hq1_ (And.intro hq2_ hq3_)); have HB2 := Lib.hid hb_; clear hs_ hbb_ hr_ hq1_ hq2_ hq3_ hb_ CS)
    have hq := part_loop B N M X Y c o w v HD.out HN.out HX.out hB HNX.out hBN HYX.out HYN.out hc f w1 w2 g0 bs bb gr len c2 HB1.out HB2.out HO.out HFL.out HFB.out HS.out HBB.out _ HR.out HQ.out hg1 hg4
    obtain ⟨X2, hx1, hx2, hx3, hx4, hx5, hx6, hD2, hN2, hI2, hO2, hBel, hFr, hBz⟩ := hq
    have HX2 := Lib.hid hx1
    have HXX := Lib.hid hx2
    have HM := Lib.hid (And.intro hx3 (And.intro hx4 (And.intro hx5 hx6)))
    have HD2 := Lib.hid hD2
    have HN2 := Lib.hid hN2
    have HI2 := Lib.hid hI2
    have HO2 := Lib.hid hO2
    have HBel := Lib.hid hBel
    have HFr := Lib.hid hFr
    clear hx1 hx2 hx3 hx4 hx5 hx6 hD2 hN2 hI2 hO2 hBel hFr HD HX HB1 HB2 HO
    go_loopw [34] (fun i wr => ∃ k : Nat, k ≤ 4 ∧ i = .int .i64 k ∧ DKv B wr M X2 (partD c o f k) ∧ Below B w2 wr ∧ Free X2 w2 wr) (fun i _ => 4 - (intOf i).toNat)
    case atStart => exact ⟨0, Nat.zero_le _, rfl, HD2.out, Below.refl _ _, Free.below (Below.refl _ _)⟩
    case round =>
      obtain ⟨k, hk, rfl, hd, hbr, hfr⟩ := hrel
      have HDk := Lib.hid hd
      have HBr := Lib.hid hbr
      have HFrr := Lib.hid hfr
      have HNr := Lib.hid (hfr.blk HN2.out (HXX.out _ HNX.out))
      have HRr := Lib.hid (hfr.blk HR.out HM.out.2.2.1)
      have HSr := Lib.hid (hfr.blk HS.out HM.out.1)
      have HBBr := Lib.hid (hfr.blk HBB.out HM.out.2.1)
      have hor : OwnI wr w.heap.size 5 .u8 (.slice (some ⟨g0, 0, none⟩) (len + 16) c2) f := hfr.ownI HO2.out HM.out.2.2.2
      have HIr := Lib.hid (ints_of_OwnI hor HFB.out)
      have HXr := Lib.hid (show ∀ b ∈ X2, b < wr.heap.size from fun b hb => Nat.lt_of_lt_of_le (HX2.out b hb) hfr.size)
      have hBr : B ≤ wr.heap.size := Nat.le_trans hBz hfr.size
      clear hor hd hbr hfr
      by_cases hlt : k < 4
      · rcases (show k = 0 ∨ k = 1 ∨ k = 2 ∨ k = 3 by omega) with rfl | rfl | rfl | rfl
        · have rk := HRr.out.cell (j := 0) rfl
          have rf := HRr.out.frozen
          have CW := Lib.hid (ck_write B M X2 _ wr HDk.out HXr.out hBr (Nat.le_trans (part_cap c o f 0) (by omega)) N bs bb v (some ⟨g0, 0, none⟩) c2 f (len + 16) HFL.out HNr.out HSr.out HBBr.out HIr.out (by rw [HFL.out]; omega))
          rw [part_1] at CW
          go_wp2_with (go_at_call 48; (with_reducible refine (CW.out).mono ?_); rintro e wn ⟨rfl, hd_, hb_, hf_⟩)
          go_roundw
          case rel => exact ⟨1, by omega, rfl, hd_, HBr.out.trans hb_, HFrr.out.trans hf_⟩
          case measure => simp [intOf] <;> omega
        · have rk := HRr.out.cell (j := 1) rfl
          have rf := HRr.out.frozen
          have CW := Lib.hid (dl_Sync B M X2 _ wr HDk.out HXr.out hBr (Nat.le_trans (part_cap c o f 1) (by omega)))
          rw [part_2] at CW
          go_wp2_with (go_at_call 22; (with_reducible refine (CW.out).mono ?_); rintro e wn ⟨rfl, hd_, hb_, hf_⟩)
          go_roundw
          case rel => exact ⟨2, by omega, rfl, hd_, HBr.out.trans hb_, HFrr.out.trans hf_⟩
          case measure => simp [intOf] <;> omega
        · have rk := HRr.out.cell (j := 2) rfl
          have rf := HRr.out.frozen
          have CW := Lib.hid (ck_rename B M X2 _ wr HDk.out HXr.out hBr (Nat.le_trans (part_cap c o f 2) (by omega)) N bs v HNr.out HSr.out)
          rw [part_3] at CW
          go_wp2_with (go_at_call 49; (with_reducible refine (CW.out).mono ?_); rintro e wn ⟨rfl, hd_, hb_, hf_⟩)
          go_roundw
          case rel => exact ⟨3, by omega, rfl, hd_, HBr.out.trans hb_, HFrr.out.trans hf_⟩
          case measure => simp [intOf] <;> omega
        · have rk := HRr.out.cell (j := 3) rfl
          have rf := HRr.out.frozen
          have CW := Lib.hid (dl_Sync B M X2 _ wr HDk.out HXr.out hBr (Nat.le_trans (part_cap c o f 3) (by omega)))
          rw [part_4] at CW
          go_wp2_with (go_at_call 22; (with_reducible refine (CW.out).mono ?_); rintro e wn ⟨rfl, hd_, hb_, hf_⟩)
          go_roundw
          case rel => exact ⟨4, by omega, rfl, hd_, HBr.out.trans hb_, HFrr.out.trans hf_⟩
          case measure => simp [intOf] <;> omega
      · obtain rfl : k = 4 := by omega
        have n1 := Blk.cell HNr.out (j := 1) rfl
        have nf := Blk.frozen HNr.out 1
        go_wp2_with (go_at_call 24; (with_reducible refine (ck_Sn _).mono ?_); rintro e wx ⟨rfl, hz9⟩; have hz8 := hz9.symm; subst hz8)
        go_ret
        have hA : Apart X2 wr (wr.setCell ⟨N, 1, none⟩ (.int .i64 ((v : Int) + 1))) := (Apart.refl X2 wr).set _ _ (HXX.out _ HNX.out)
        refine ⟨rfl, (HDk.out.mine hA).more (fun b hb => .inl (HXX.out b hb)), ?_, (HBel.out.trans HBr.out).trans ((Below.refl B wr).setCell hBN _), (HFr.out.trans (HFrr.out.mono (fun b hb => HXX.out b (HYX.out b hb)))).trans ⟨[N], (Apart.refl [N] wr).set _ _ List.mem_cons_self, fun b hb q => by simp at q; subst q; exact HYN.out hb⟩⟩
        first | exact Blk.set HNr.out 1 _ | (rw [if_pos rfl]; exact Blk.set HNr.out 1 _)
end
end Go.Proofs.Ytcbblgeleboggaa
