/- SumLinear holds for every three slices of bytes. No conditions. -/
import Derived.Test.YtbochncjmcblkaaSumLin
namespace Go.Proofs.Ytbochncjmcblkaa.sumLinear
open Go.ChangeShapes Go.WideShapes Go.ChangeAt Go.RowKit
open Go.ChangeMaps (open_string shut_string)
set_option linter.unusedVariables false
set_option linter.unusedSimpArgs false

set_option maxRecDepth 100000 in
set_option maxHeartbeats 8000000 in
theorem walk (a : Option Addr) (len cap : Nat) (l : List Int) (b : Option Addr) (lb cb : Nat) (l2 : List Int) (c : Option Addr) (lc cc : Nat) (l3 : List Int) (w : World) (hl : Ints .u8 w a len cap l) (h2 : Ints .u8 w b lb cb l2) (h3 : Ints .u8 w c lc cc l3) :
    Calls Try.prog 7 #[.slice a len cap, .slice b lb cb, .slice c lc cc] w fun e w' => e = .returned (.bool true) ∧ Below w.heap.size w w' := by
  have hw : Below w.heap.size w w := Below.refl _ _
  have hbel := hw
  have hb := hl.bounds
  have hb2 := h2.bounds
  have hb3 := h3.bounds
  by_cases h500 : 500 < len
  · clear hb hb2 hb3 h2 h3
    have HL := Lib.hid hl
    clear hl
    go_enter Try.func7, Try.ntmps7
    go_wp2_with (first | (go_at_call 13; (with_reducible refine (awake08 _).mono ?_); rintro e w1 ⟨rfl, hb1⟩; replace hbel := belStep hbel hb1; clear hb1))
    go_ret
    exact ⟨rfl, hbel⟩
  obtain ⟨hln, hb4, hb5⟩ := hb
  obtain ⟨hln2, hb6, hb7⟩ := hb2
  obtain ⟨hln3, hb8, hb9⟩ := hb3
  have HN := Lib.hid hln
  have HN2 := Lib.hid hln2
  have HN3 := Lib.hid hln3
  have HL := Lib.hid hl
  have HL2 := Lib.hid h2
  have HL3 := Lib.hid h3
  have bdb := Lib.hid (fun k => (el_bd (bytes_of h2) k))
  have bdc := Lib.hid (fun k => (el_bd (bytes_of h3) k))
  clear hln hln2 hln3 hl h2 h3
  go_enter Try.func7, Try.ntmps7
  go_wp2_with (first | (go_at_call 13; (with_reducible refine (awake08 _).mono ?_); rintro e w1 ⟨rfl, hb1⟩; replace hbel := belStep hbel hb1; clear hb1))
  have hbw1 : Below w.heap.size w w1 := hbel
  go_loopw [7, 8, 9, 10] (fun x y z i wr => ∃ k : Nat, k ≤ len ∧ i = .int .i64 k ∧ OwnI wr w1.heap.size 5 .u8 x (padT l2 k) ∧ OwnI wr w1.heap.size 5 .u8 y (padT l3 k) ∧ OwnI wr w1.heap.size 5 .u8 z (mixT l l2 l3 k) ∧ Sep x y ∧ Sep x z ∧ Sep y z ∧ Below w1.heap.size w1 wr) (fun _ _ _ i _ => len - (intOf i).toNat)
  case atStart => exact ⟨0, Nat.zero_le _, rfl, OwnI.nil _ _ _ _, OwnI.nil _ _ _ _, OwnI.nil _ _ _ _, Sep.nilL _, Sep.nilL _, Sep.nilL _, Below.refl _ _⟩
  case round =>
    clear hbel
    obtain ⟨k, hk, rfl, ox, oy, oz, sxy, sxz, syz, hbel⟩ := hrel
    by_cases hlt : k < len
    · have HX := Lib.hid ox
      have HY := Lib.hid oy
      have HZ := Lib.hid oz
      clear ox oy oz
      obtain ⟨ba, offa, rfl, _, hca⟩ := (HL.out.later hbw1).opened (by omega)
      have xa := keep (hca k hlt)
      clear hca
      by_cases hB : k < lb
      · obtain ⟨b2, off2, rfl, _, hcb⟩ := (HL2.out.later hbw1).opened (by omega)
        have xb := keep (hcb k hB)
        clear hcb
        by_cases hC : k < lc
        · obtain ⟨b3, off3, rfl, _, hcc⟩ := (HL3.out.later hbw1).opened (by omega)
          have xc := keep (hcc k hC)
          clear hcc
          go_wp2_with (at_builtin; refine wpList_app_one rfl _ _ 22 rfl w1.heap.size 5 .u8 1 Try.underlying22 info_u8 _ _ rfl (HX.out.alloc (.cells #[.int .u8 (el l2 k)] 5)) _ _ rfl (by simp; rfl) ?c1 ?c2 ?c3 ?_)
          case c1 => rw [padT_len]; simp only [maxLen]; omega
          case c2 => rw [padT_len]; omega
          case c3 => have := hbel.size; simp; omega
          intro v2 w2 ho2 hb2 hg2 hm2
          have hal2 := (belAlloc hbel _ : Below w1.heap.size w1 _).trans hb2
          have HY2 := Lib.hid ((HY.out.alloc _).sep hg2 sxy)
          have HZ2 := Lib.hid ((HZ.out.alloc _).sep hg2 sxz)
          have sxy2 := hm2.sepI (HY.out.alloc _) sxy
          have sxz2 := hm2.sepI (HZ.out.alloc _) sxz
          have HX2 := Lib.hid ho2
          replace hbel := hal2
          clear ho2 hb2 hg2 hm2 HX HY HZ sxy sxz hal2
          go_wp2_with (at_builtin; refine wpList_app_one rfl _ _ 22 rfl w1.heap.size 5 .u8 1 Try.underlying22 info_u8 _ _ rfl (HY2.out.alloc (.cells #[.int .u8 (el l3 k)] 5)) _ _ rfl (by simp; rfl) ?c1 ?c2 ?c3 ?_)
          case c1 => rw [padT_len]; simp only [maxLen]; omega
          case c2 => rw [padT_len]; omega
          case c3 => have := hbel.size; simp; omega
          intro v3 w3 ho3 hb3 hg3 hm3
          have hal3 := (belAlloc hbel _ : Below w1.heap.size w1 _).trans hb3
          have HX3 := Lib.hid ((HX2.out.alloc _).sep hg3 sxy2.symm)
          have HZ3 := Lib.hid ((HZ2.out.alloc _).sep hg3 syz)
          have sxy3 := (hm3.sepI (HX2.out.alloc _) sxy2.symm).symm
          have syz3 := hm3.sepI (HZ2.out.alloc _) syz
          have HY3 := Lib.hid ho3
          replace hbel := hal3
          clear ho3 hb3 hg3 hm3 HX2 HY2 HZ2 sxy2 syz hal3
          go_wp2_with (at_builtin; refine wpList_app_one rfl _ _ 22 rfl w1.heap.size 5 .u8 1 Try.underlying22 info_u8 _ _ rfl (HZ3.out.alloc (.cells #[.int .u8 (bits .xor .u8 (bits .xor .u8 (el l k) (el l2 k)) (el l3 k))] 5)) _ _ rfl (by simp; rfl) ?c1 ?c2 ?c3 ?_)
          case c1 => rw [mixT_len]; simp only [maxLen]; omega
          case c2 => rw [mixT_len]; omega
          case c3 => have := hbel.size; simp; omega
          intro v4 w4 ho4 hb4 hg4 hm4
          have hal4 := (belAlloc hbel _ : Below w1.heap.size w1 _).trans hb4
          have HX4 := Lib.hid ((HX3.out.alloc _).sep hg4 sxz2.symm)
          have HY4 := Lib.hid ((HY3.out.alloc _).sep hg4 syz3.symm)
          have sxz4 := (hm4.sepI (HX3.out.alloc _) sxz2.symm).symm
          have syz4 := (hm4.sepI (HY3.out.alloc _) syz3.symm).symm
          have HZ4 := Lib.hid ho4
          replace hbel := hal4
          clear ho4 hb4 hg4 hm4 HX3 HY3 HZ3 sxz2 syz3 hal4
          go_wp2
          go_roundw
          case rel => exact ⟨k + 1, by omega, by push_cast; rfl, by rw [padT_snoc]; exact HX4.out, by rw [padT_snoc]; exact HY4.out, by rw [mixT_snoc]; exact HZ4.out, sxy3, sxz4, syz4, hbel⟩
          case measure => simp [intOf] <;> omega
        · skip
          have zc : el l3 k = 0 := el_out (by rw [HN3.out]; omega)
          have ZC := Lib.hid zc
          clear zc
          go_wp2_with (at_builtin; refine wpList_app_one rfl _ _ 22 rfl w1.heap.size 5 .u8 1 Try.underlying22 info_u8 _ _ rfl (HX.out.alloc (.cells #[.int .u8 (el l2 k)] 5)) _ _ rfl (by simp; rfl) ?c1 ?c2 ?c3 ?_)
          case c1 => rw [padT_len]; simp only [maxLen]; omega
          case c2 => rw [padT_len]; omega
          case c3 => have := hbel.size; simp; omega
          intro v2 w2 ho2 hb2 hg2 hm2
          have hal2 := (belAlloc hbel _ : Below w1.heap.size w1 _).trans hb2
          have HY2 := Lib.hid ((HY.out.alloc _).sep hg2 sxy)
          have HZ2 := Lib.hid ((HZ.out.alloc _).sep hg2 sxz)
          have sxy2 := hm2.sepI (HY.out.alloc _) sxy
          have sxz2 := hm2.sepI (HZ.out.alloc _) sxz
          have HX2 := Lib.hid ho2
          replace hbel := hal2
          clear ho2 hb2 hg2 hm2 HX HY HZ sxy sxz hal2
          go_wp2_with (at_builtin; refine wpList_app_one rfl _ _ 22 rfl w1.heap.size 5 .u8 1 Try.underlying22 info_u8 _ _ rfl (HY2.out.alloc (.cells #[.int .u8 0] 5)) _ _ rfl (by simp; rfl) ?c1 ?c2 ?c3 ?_)
          case c1 => rw [padT_len]; simp only [maxLen]; omega
          case c2 => rw [padT_len]; omega
          case c3 => have := hbel.size; simp; omega
          intro v3 w3 ho3 hb3 hg3 hm3
          have hal3 := (belAlloc hbel _ : Below w1.heap.size w1 _).trans hb3
          have HX3 := Lib.hid ((HX2.out.alloc _).sep hg3 sxy2.symm)
          have HZ3 := Lib.hid ((HZ2.out.alloc _).sep hg3 syz)
          have sxy3 := (hm3.sepI (HX2.out.alloc _) sxy2.symm).symm
          have syz3 := hm3.sepI (HZ2.out.alloc _) syz
          have HY3 := Lib.hid ho3
          replace hbel := hal3
          clear ho3 hb3 hg3 hm3 HX2 HY2 HZ2 sxy2 syz hal3
          go_wp2_with (at_builtin; refine wpList_app_one rfl _ _ 22 rfl w1.heap.size 5 .u8 1 Try.underlying22 info_u8 _ _ rfl (HZ3.out.alloc (.cells #[.int .u8 (bits .xor .u8 (bits .xor .u8 (el l k) (el l2 k)) 0)] 5)) _ _ rfl (by simp; rfl) ?c1 ?c2 ?c3 ?_)
          case c1 => rw [mixT_len]; simp only [maxLen]; omega
          case c2 => rw [mixT_len]; omega
          case c3 => have := hbel.size; simp; omega
          intro v4 w4 ho4 hb4 hg4 hm4
          have hal4 := (belAlloc hbel _ : Below w1.heap.size w1 _).trans hb4
          have HX4 := Lib.hid ((HX3.out.alloc _).sep hg4 sxz2.symm)
          have HY4 := Lib.hid ((HY3.out.alloc _).sep hg4 syz3.symm)
          have sxz4 := (hm4.sepI (HX3.out.alloc _) sxz2.symm).symm
          have syz4 := (hm4.sepI (HY3.out.alloc _) syz3.symm).symm
          have HZ4 := Lib.hid ho4
          replace hbel := hal4
          clear ho4 hb4 hg4 hm4 HX3 HY3 HZ3 sxz2 syz3 hal4
          go_wp2
          go_roundw
          case rel => exact ⟨k + 1, by omega, by push_cast; rfl, by rw [padT_snoc]; exact HX4.out, by rw [padT_snoc]; rw [ZC.out]; exact HY4.out, by rw [mixT_snoc]; rw [ZC.out]; exact HZ4.out, sxy3, sxz4, syz4, hbel⟩
          case measure => simp [intOf] <;> omega
      · by_cases hC : k < lc
        · obtain ⟨b3, off3, rfl, _, hcc⟩ := (HL3.out.later hbw1).opened (by omega)
          have xc := keep (hcc k hC)
          clear hcc
          have zb : el l2 k = 0 := el_out (by rw [HN2.out]; omega)
          have ZB := Lib.hid zb
          clear zb
          go_wp2_with (at_builtin; refine wpList_app_one rfl _ _ 22 rfl w1.heap.size 5 .u8 1 Try.underlying22 info_u8 _ _ rfl (HX.out.alloc (.cells #[.int .u8 0] 5)) _ _ rfl (by simp; rfl) ?c1 ?c2 ?c3 ?_)
          case c1 => rw [padT_len]; simp only [maxLen]; omega
          case c2 => rw [padT_len]; omega
          case c3 => have := hbel.size; simp; omega
          intro v2 w2 ho2 hb2 hg2 hm2
          have hal2 := (belAlloc hbel _ : Below w1.heap.size w1 _).trans hb2
          have HY2 := Lib.hid ((HY.out.alloc _).sep hg2 sxy)
          have HZ2 := Lib.hid ((HZ.out.alloc _).sep hg2 sxz)
          have sxy2 := hm2.sepI (HY.out.alloc _) sxy
          have sxz2 := hm2.sepI (HZ.out.alloc _) sxz
          have HX2 := Lib.hid ho2
          replace hbel := hal2
          clear ho2 hb2 hg2 hm2 HX HY HZ sxy sxz hal2
          go_wp2_with (at_builtin; refine wpList_app_one rfl _ _ 22 rfl w1.heap.size 5 .u8 1 Try.underlying22 info_u8 _ _ rfl (HY2.out.alloc (.cells #[.int .u8 (el l3 k)] 5)) _ _ rfl (by simp; rfl) ?c1 ?c2 ?c3 ?_)
          case c1 => rw [padT_len]; simp only [maxLen]; omega
          case c2 => rw [padT_len]; omega
          case c3 => have := hbel.size; simp; omega
          intro v3 w3 ho3 hb3 hg3 hm3
          have hal3 := (belAlloc hbel _ : Below w1.heap.size w1 _).trans hb3
          have HX3 := Lib.hid ((HX2.out.alloc _).sep hg3 sxy2.symm)
          have HZ3 := Lib.hid ((HZ2.out.alloc _).sep hg3 syz)
          have sxy3 := (hm3.sepI (HX2.out.alloc _) sxy2.symm).symm
          have syz3 := hm3.sepI (HZ2.out.alloc _) syz
          have HY3 := Lib.hid ho3
          replace hbel := hal3
          clear ho3 hb3 hg3 hm3 HX2 HY2 HZ2 sxy2 syz hal3
          go_wp2_with (at_builtin; refine wpList_app_one rfl _ _ 22 rfl w1.heap.size 5 .u8 1 Try.underlying22 info_u8 _ _ rfl (HZ3.out.alloc (.cells #[.int .u8 (bits .xor .u8 (bits .xor .u8 (el l k) 0) (el l3 k))] 5)) _ _ rfl (by simp; rfl) ?c1 ?c2 ?c3 ?_)
          case c1 => rw [mixT_len]; simp only [maxLen]; omega
          case c2 => rw [mixT_len]; omega
          case c3 => have := hbel.size; simp; omega
          intro v4 w4 ho4 hb4 hg4 hm4
          have hal4 := (belAlloc hbel _ : Below w1.heap.size w1 _).trans hb4
          have HX4 := Lib.hid ((HX3.out.alloc _).sep hg4 sxz2.symm)
          have HY4 := Lib.hid ((HY3.out.alloc _).sep hg4 syz3.symm)
          have sxz4 := (hm4.sepI (HX3.out.alloc _) sxz2.symm).symm
          have syz4 := (hm4.sepI (HY3.out.alloc _) syz3.symm).symm
          have HZ4 := Lib.hid ho4
          replace hbel := hal4
          clear ho4 hb4 hg4 hm4 HX3 HY3 HZ3 sxz2 syz3 hal4
          go_wp2
          go_roundw
          case rel => exact ⟨k + 1, by omega, by push_cast; rfl, by rw [padT_snoc]; rw [ZB.out]; exact HX4.out, by rw [padT_snoc]; exact HY4.out, by rw [mixT_snoc]; rw [ZB.out]; exact HZ4.out, sxy3, sxz4, syz4, hbel⟩
          case measure => simp [intOf] <;> omega
        · skip
          have zb : el l2 k = 0 := el_out (by rw [HN2.out]; omega)
          have ZB := Lib.hid zb
          clear zb
          have zc : el l3 k = 0 := el_out (by rw [HN3.out]; omega)
          have ZC := Lib.hid zc
          clear zc
          go_wp2_with (at_builtin; refine wpList_app_one rfl _ _ 22 rfl w1.heap.size 5 .u8 1 Try.underlying22 info_u8 _ _ rfl (HX.out.alloc (.cells #[.int .u8 0] 5)) _ _ rfl (by simp; rfl) ?c1 ?c2 ?c3 ?_)
          case c1 => rw [padT_len]; simp only [maxLen]; omega
          case c2 => rw [padT_len]; omega
          case c3 => have := hbel.size; simp; omega
          intro v2 w2 ho2 hb2 hg2 hm2
          have hal2 := (belAlloc hbel _ : Below w1.heap.size w1 _).trans hb2
          have HY2 := Lib.hid ((HY.out.alloc _).sep hg2 sxy)
          have HZ2 := Lib.hid ((HZ.out.alloc _).sep hg2 sxz)
          have sxy2 := hm2.sepI (HY.out.alloc _) sxy
          have sxz2 := hm2.sepI (HZ.out.alloc _) sxz
          have HX2 := Lib.hid ho2
          replace hbel := hal2
          clear ho2 hb2 hg2 hm2 HX HY HZ sxy sxz hal2
          go_wp2_with (at_builtin; refine wpList_app_one rfl _ _ 22 rfl w1.heap.size 5 .u8 1 Try.underlying22 info_u8 _ _ rfl (HY2.out.alloc (.cells #[.int .u8 0] 5)) _ _ rfl (by simp; rfl) ?c1 ?c2 ?c3 ?_)
          case c1 => rw [padT_len]; simp only [maxLen]; omega
          case c2 => rw [padT_len]; omega
          case c3 => have := hbel.size; simp; omega
          intro v3 w3 ho3 hb3 hg3 hm3
          have hal3 := (belAlloc hbel _ : Below w1.heap.size w1 _).trans hb3
          have HX3 := Lib.hid ((HX2.out.alloc _).sep hg3 sxy2.symm)
          have HZ3 := Lib.hid ((HZ2.out.alloc _).sep hg3 syz)
          have sxy3 := (hm3.sepI (HX2.out.alloc _) sxy2.symm).symm
          have syz3 := hm3.sepI (HZ2.out.alloc _) syz
          have HY3 := Lib.hid ho3
          replace hbel := hal3
          clear ho3 hb3 hg3 hm3 HX2 HY2 HZ2 sxy2 syz hal3
          go_wp2_with (at_builtin; refine wpList_app_one rfl _ _ 22 rfl w1.heap.size 5 .u8 1 Try.underlying22 info_u8 _ _ rfl (HZ3.out.alloc (.cells #[.int .u8 (bits .xor .u8 (bits .xor .u8 (el l k) 0) 0)] 5)) _ _ rfl (by simp; rfl) ?c1 ?c2 ?c3 ?_)
          case c1 => rw [mixT_len]; simp only [maxLen]; omega
          case c2 => rw [mixT_len]; omega
          case c3 => have := hbel.size; simp; omega
          intro v4 w4 ho4 hb4 hg4 hm4
          have hal4 := (belAlloc hbel _ : Below w1.heap.size w1 _).trans hb4
          have HX4 := Lib.hid ((HX3.out.alloc _).sep hg4 sxz2.symm)
          have HY4 := Lib.hid ((HY3.out.alloc _).sep hg4 syz3.symm)
          have sxz4 := (hm4.sepI (HX3.out.alloc _) sxz2.symm).symm
          have syz4 := (hm4.sepI (HY3.out.alloc _) syz3.symm).symm
          have HZ4 := Lib.hid ho4
          replace hbel := hal4
          clear ho4 hb4 hg4 hm4 HX3 HY3 HZ3 sxz2 syz3 hal4
          go_wp2
          go_roundw
          case rel => exact ⟨k + 1, by omega, by push_cast; rfl, by rw [padT_snoc]; rw [ZB.out]; exact HX4.out, by rw [padT_snoc]; rw [ZC.out]; exact HY4.out, by rw [mixT_snoc]; rw [ZB.out]; rw [ZC.out]; exact HZ4.out, sxy3, sxz4, syz4, hbel⟩
          case measure => simp [intOf] <;> omega
    · obtain rfl : k = len := by omega
      have bya := bytes_of HL.out
      have byb := bytes_of HL2.out
      have byc := bytes_of HL3.out
      obtain ⟨ax, cx, rfl, hix⟩ := ints_of_own ox (fun m hm => wf8 m (padT_bytes byb _ m hm))
      obtain ⟨ay, cy, rfl, hiy⟩ := ints_of_own oy (fun m hm => wf8 m (padT_bytes byc _ m hm))
      obtain ⟨az, cz, rfl, hiz⟩ := ints_of_own oz (fun m hm => wf8 m (mixT_bytes _ _ _ _ m hm))
      have e1 := sum_mix bya byb byc k
      have e2 : padT l k = l := by have := padT_all l; rw [HN.out] at this; exact this
      rw [e2] at e1
      rw [padT_len] at hix hiy ⊢
      rw [padT_len, mixT_len] at *
      have q1 := sumOf_lt bya
      have q2 := sumOf_lt (padT_bytes byb k)
      have q3 := sumOf_lt (padT_bytes byc k)
      have x1 := xor32 _ _ q1 q2
      have x2 := xor32 _ _ (xor32_lt q1 q2) q3
      rw [← e1] at x2
      have CZ := Lib.hid (fun v (hv : Below wr.heap.size wr v) => sum_Of az k cz _ v (hiz.later hv))
      have CX := Lib.hid (fun v (hv : Below wr.heap.size wr v) => sum_Of ax k cx _ v (hix.later hv))
      have CY := Lib.hid (fun v (hv : Below wr.heap.size wr v) => sum_Of ay k cy _ v (hiy.later hv))
      have CA := Lib.hid (fun v (hv : Below wr.heap.size wr v) => sum_Of a k cap _ v (HL.out.later (belStep (belStep hbw1 hbel) hv)))
      have hbr : Below wr.heap.size wr wr := Below.refl _ _
      clear ox oy oz hix hiy hiz e1 e2 q1 q2 q3 bya byb byc
      generalize sumOf l = s1 at *
      generalize sumOf (padT l2 k) = s2 at *
      generalize sumOf (padT l3 k) = s3 at *
      generalize sumOf (mixT l l2 l3 k) = s4 at *
      go_wp2_with (go_at_call 14; (first | (with_reducible refine (CZ.out _ hbr).mono ?_) | (with_reducible refine (CX.out _ hbr).mono ?_) | (with_reducible refine (CY.out _ hbr).mono ?_) | (with_reducible refine (CA.out _ hbr).mono ?_)); rintro e w5 ⟨rfl, hb5⟩; replace hbr := belStep hbr hb5; clear hb5)
      go_ret
      exact ⟨rfl, belStep (belStep hbw1 hbel) hbr⟩

set_option maxRecDepth 100000 in
theorem lifted (os : Os) (started : os.Started) (H : Type) (enc : TypeId × Value → H) :
    ReturnsInHanded {} Try.checked os 7 .any (Rows.sumLinearSpec.pre6 enc Try.prog Try.f7 Rows.sumLinearRow.domain false) (Rows.sumLinearSpec.post enc Try.prog Try.f7 false true false false) := by
  refine returnsInHanded_of_change (C := Try.checked) own started (by kernel_rfl) Try.func7
    (ChangeSpec.witness6 (enc := enc) (C := Try.checked) false ⟨#[], #[.slice none 0 0, .slice none 0 0, .slice none 0 0], []⟩ 8 (by kernel_rfl) (by kernel_rfl) (by kernel_rfl) (by kernel_rfl)) ?_
  intro W base args ds gs before hval0 hW hcnd _
  have hval : ∀ (j : Nat) t v, Try.f7.params[j]? = some t → args[j]? = some v → Value.okWide Try.prog W .any base t v := hval0
  have hW' := hW
  obtain ⟨p, q, hA0, hV, rfl, hfz, hnd⟩ := hW
  have hA : DataW.TrodAll enc Try.prog W 0 (fun _ => true) true Try.f7.params.toList args.toList ds p := hA0
  rw [Try.params7] at hA hval
  obtain ⟨v0, vs0, d0, ds0, p0, q0, hargs, rfl, rfl, h0, r0⟩ := trodAll_cons hA
  obtain ⟨v1, vs1, d1, ds1, p1, q1, rfl, rfl, rfl, h1, r1⟩ := trodAll_cons r0
  obtain ⟨v2, vs2, d2, ds2, p2, q2, rfl, rfl, rfl, h2, r2⟩ := trodAll_cons r1
  obtain ⟨rfl, rfl, rfl⟩ := trodAll_nil r2
  obtain rfl : args = #[v0, v1, v2] := by cases args; simp_all
  obtain ⟨rfl, rfl⟩ := trodVars_none hV
  have k0 := h0
  have lt0 : ∀ x ∈ p0, x.block < W.heap.size := by obtain ⟨m, hm⟩ := k0; exact DataW.trod_lt m _ _ _ hm
  have o0 : Value.okWide Try.prog W .any base 22 v0 := hval 0 22 v0 rfl rfl
  obtain ⟨a0, len0, cap0, rfl⟩ := okWide_slice Try.underlying22 o0
  obtain ⟨z0, w0⟩ : ∃ zs, Ints .u8 W a0 len0 cap0 zs := ints_of_trod Try.underlying22 Try.underlying5 (by kernel_rfl) h0
  have k1 := h1
  have lt1 : ∀ x ∈ p1, x.block < W.heap.size := by obtain ⟨m, hm⟩ := k1; exact DataW.trod_lt m _ _ _ hm
  have o1 : Value.okWide Try.prog W .any base 22 v1 := hval 1 22 v1 rfl rfl
  obtain ⟨a1, len1, cap1, rfl⟩ := okWide_slice Try.underlying22 o1
  obtain ⟨z1, w1⟩ : ∃ zs, Ints .u8 W a1 len1 cap1 zs := ints_of_trod Try.underlying22 Try.underlying5 (by kernel_rfl) h1
  have k2 := h2
  have lt2 : ∀ x ∈ p2, x.block < W.heap.size := by obtain ⟨m, hm⟩ := k2; exact DataW.trod_lt m _ _ _ hm
  have o2 : Value.okWide Try.prog W .any base 22 v2 := hval 2 22 v2 rfl rfl
  obtain ⟨a2, len2, cap2, rfl⟩ := okWide_slice Try.underlying22 o2
  obtain ⟨z2, w2⟩ : ∃ zs, Ints .u8 W a2 len2 cap2 zs := ints_of_trod Try.underlying22 Try.underlying5 (by kernel_rfl) h2
  clear hA0 hval0
  refine (walk a0 len0 cap0 z0 a1 len1 cap1 z1 a2 len2 cap2 z2 W w0 w1 w2).mono fun e W' ⟨he, bel⟩ => ?_
  subst he
  exact ⟨_, rfl, _, _, _, [], _, [], hW', trodAll_mk1 (shut_bool Try.underlying4 _), (trodAll_cons_mk (Below.trod laidOut (by kernel_rfl) (of_decide_eq_true (by kernel_rfl)) k0 bel lt0) (trodAll_cons_mk (Below.trod laidOut (by kernel_rfl) (of_decide_eq_true (by kernel_rfl)) k1 bel lt1) (trodAll_cons_mk (Below.trod laidOut (by kernel_rfl) (of_decide_eq_true (by kernel_rfl)) k2 bel lt2) trodAll_mk0))), rfl, bel.frame _, fun h => by cases h⟩

theorem over : Rows.sumLinearRow.holds Try.pinned (OpenSpec.ofChange Rows.sumLinearSpec) :=
  OpenClaim.holds_of_wide 7 Try.f7 rfl rfl rfl rfl rfl rfl rfl ⟨rfl, rfl, rfl, rfl, rfl⟩ rfl rfl rfl rfl rfl (by kernel_rfl) Try.func7 (by kernel_rfl)
    (of_decide_eq_true (by kernel_rfl)) (by unfold Func.isWrapper; first | (rw [if_pos (by decide +kernel)]; kernel_rfl) | (rw [if_neg (by decide +kernel)]; exact ⟨rfl, rfl⟩))
    (fun os started H enc _ => lifted os started H enc)

/-- The statement. -/
theorem proved : Rows.SumLinearSaid := over
#print axioms proved

end Go.Proofs.Ytbochncjmcblkaa.sumLinear
