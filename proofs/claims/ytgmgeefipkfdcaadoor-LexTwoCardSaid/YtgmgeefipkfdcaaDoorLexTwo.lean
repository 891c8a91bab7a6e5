
/- LexTwo holds for every two slices of bytes. -/
import Derived.Test.YtgmgeefipkfdcaaDoorLexCard
namespace Go.Proofs.YtgmgeefipkfdcaaDoor.lexTwo
open Go.ChangeShapes Go.WideShapes Go.ChangeAt Go.RowKit
open Go.ChangeMaps (open_string shut_string)
set_option linter.unusedVariables false
set_option linter.unusedSimpArgs false
theorem nums_wf (L : List UInt8) : ∀ n ∈ numsL L, (Lit.int .u8 n).wf = true := fun n hn => by
  unfold numsL at hn
  obtain ⟨c, _, rfl⟩ := List.mem_map.1 hn
  exact WalkArith.wf_u8 ⟨by omega, by have := c.toNat_lt; omega⟩
theorem fields_len (L : List UInt8) : (fieldsF L).length ≤ L.length + 1 := Nat.le_trans (allF_len 1 (linesL L)) (lines_le L).1
set_option maxRecDepth 100000 in
set_option maxHeartbeats 16000000 in
theorem walk (a : Option Addr) (la ca : Nat) (l1 : List Int) (b : Option Addr) (lb cb : Nat) (l2 : List Int) (w : World) (ht : Env w) (h1 : Ints .u8 w a la ca l1) (h2 : Ints .u8 w b lb cb l2) :
    Calls Tryd.prog 6 #[.slice a la ca, .slice b lb cb] w fun e w' => e = .returned (.bool true) ∧ Below w.heap.size w w' := by
  have hw := Below.refl w.heap.size w
  have hbel := hw
  have hb1 := h1.bounds
  have hb2 := h2.bounds
  obtain ⟨A, rfl, lA⟩ := nums_of_bytes h1
  obtain ⟨B, rfl, lB⟩ := nums_of_bytes h2
  obtain ⟨m, hm⟩ := ht
  have HM := Lib.hid (keep hm)
  have HA := Lib.hid h1
  have HB := Lib.hid h2
  have HNA := Lib.hid hb1.1
  have HNB := Lib.hid hb2.1
  have LA := Lib.hid lA
  have LB := Lib.hid lB
  obtain ⟨_, hb11, hb12⟩ := hb1
  obtain ⟨_, hb21, hb22⟩ := hb2
  clear h1 h2 hm lA lB
  by_cases hA : 2000 < la
  · go_enter Tryd.func6, Tryd.ntmps6
    go_wp2_with (first | (go_at_call 9; (with_reducible refine (awake04 _ m (HM.out _ hbel)).mono ?_); rintro e w1 ⟨rfl, hb1⟩; replace hbel := belStep hbel hb1; clear hb1))
    go_ret
    exact ⟨rfl, hbel⟩
  by_cases hB : 2000 < lb
  · go_enter Tryd.func6, Tryd.ntmps6
    go_wp2_with (first | (go_at_call 9; (with_reducible refine (awake04 _ m (HM.out _ hbel)).mono ?_); rintro e w1 ⟨rfl, hb1⟩; replace hbel := belStep hbel hb1; clear hb1))
    go_ret
    exact ⟨rfl, hbel⟩
  have hr := two_read A B (by rw [LA.out]; omega) (by rw [LB.out]; omega)
  clear hw
  have hnA : ¬ (2000 : Int) < (la : Int) := by omega
  have hnB : ¬ (2000 : Int) < (lb : Int) := by omega
  rcases qa : readB A with _ | _
  rotate_left 1
  · rcases qb : readB B with _ | _
    rotate_left 1
    · rw [qa, qb] at hr
      have RX := Lib.hid (hr.trans (rfl : _ = true))
      have RA := Lib.hid qa
      have RB := Lib.hid qb
      clear hr qa qb
      go_enter Tryd.func6, Tryd.ntmps6
      go_upto_region 3 with (first | (go_at_call 9; (with_reducible refine (awake04 _ m (HM.out _ hbel)).mono ?_); rintro e w1 ⟨rfl, hb1⟩; replace hbel := belStep hbel hb1; clear hb1))
      go_upto_region 4 with (go_at_call 10; (with_reducible refine (lines_of _ _ _ A m _ (HA.out.later hbel) (HM.out _ hbel) RA.out).mono ?_); rintro e wa ⟨⟨ba, na, va, rfl, hra⟩, hba⟩; have HRa := Lib.hid hra; have hla := hba.size; replace hbel := belStep hbel hba; have hza := hba; clear hba hra)
      clear hza
      go_upto_region 5 with (go_at_call 10; (with_reducible refine (lines_of _ _ _ B m _ (HB.out.later hbel) (HM.out _ hbel) RB.out).mono ?_); rintro e wb ⟨⟨bb, nb, vb, rfl, hrb⟩, hbb⟩; have HRb := Lib.hid hrb; have hlb := hbb.size; replace hbel := belStep hbel hbb; have hzb := hbb; clear hbb hrb)
      have HRA2 := Lib.hid (HRa.out.later hzb)
      clear hzb
      have hw := hbel
      have HW := Lib.hid hw
      have hB0 : Below wb.heap.size wb wb := Below.refl _ _
      go_wp2_with (at_builtin; refine wpList_app_ints rfl _ _ 22 rfl wb.heap.size 5 .u8 1 Tryd.underlying22 bld_byte _ _ rfl (own_new wb wb.heap.size 5 .u8 (Nat.le_refl _)) _ la ca (numsL A) rfl (HA.out.later (belAlloc hbel _)) ?c1 ?c2 ?c3 ?_)
      case c1 => simp only [maxLen, List.length_nil]; omega
      case c2 => simp only [List.length_nil]; omega
      case c3 => simp
      intro v1 w2 ho1 hb1 hg1
      try rw [List.nil_append] at ho1
      have h1 : Below wb.heap.size wb w2 := (belAlloc hB0 _).trans hb1
      have HO1 := Lib.hid (OwnI.alloc ho1 (.cells #[.int .u8 10] 5))
      have h2 := belAlloc h1 (.cells #[.int .u8 10] 5)
      have HT := Lib.hid (show Ints .u8 (w2.alloc (.cells #[.int .u8 10] 5)) (some ⟨w2.heap.size, 0, none⟩) 1 1 (numsL [10]) from nums_ints w2 [10] (0, 0) (by decide))
      have hs2 := h2.size
      clear ho1 hg1 hb1 h1 hB0
      go_wp2_with (at_builtin; refine wpList_app_ints rfl _ _ 22 rfl wb.heap.size 5 .u8 1 Tryd.underlying22 bld_byte _ _ rfl HO1.out _ 1 1 (numsL [10]) rfl HT.out ?c1 ?c2 ?c3 ?_)
      case c1 => rw [HNA.out]; simp only [maxLen]; omega
      case c2 => rw [HNA.out]; omega
      case c3 => exact hs2
      intro v2 w3 ho2 hb2 hg2
      have h3 := h2.trans hb2
      have HO2 := Lib.hid ho2
      have hs3 := h3.size
      clear ho2 hg2 hb2 h2 hs2
      go_wp2_with (at_builtin; refine wpList_app_ints rfl _ _ 22 rfl wb.heap.size 5 .u8 1 Tryd.underlying22 bld_byte _ _ rfl HO2.out _ lb cb (numsL B) rfl (HB.out.later (belStep HW.out h3)) ?c1 ?c2 ?c3 ?_)
      case c1 => rw [List.length_append, HNA.out]; simp only [maxLen, numsL, List.length_map, List.length_cons, List.length_nil]; omega
      case c2 => rw [List.length_append, HNA.out]; simp only [numsL, List.length_map, List.length_cons, List.length_nil]; omega
      case c3 => exact hs3
      intro v3 w4 ho3 hb3 hg3
      have h4 := h3.trans hb3
      try rw [List.append_assoc] at ho3
      rw [show numsL A ++ (numsL [10] ++ numsL B) = numsL (A ++ 10 :: B) by unfold numsL; simp] at ho3
      obtain ⟨xa, xc, rfl, hia⟩ := ints_of_own ho3 (nums_wf _)
      rw [show (numsL (A ++ 10 :: B)).length = la + 1 + lb by unfold numsL; rw [List.length_map, List.length_append, List.length_cons, LA.out, LB.out]; omega] at hia ⊢
      have HX := Lib.hid hia
      have HW4 := Lib.hid h4
      replace hbel := belStep HW.out h4
      clear ho3 hg3 hb3 hia h3 h4 hs3 hw
      go_upto_region 6 with (go_at_call 10; (with_reducible refine (lines_of _ _ _ (A ++ 10 :: B) m _ (HX.out) (HM.out _ hbel) RX.out).mono ?_); rintro e wx ⟨⟨bx, nx, vx, rfl, hrx⟩, hbx⟩; have HRx := Lib.hid hrx; have hlx := hbx.size; replace hbel := belStep hbel hbx; have hzx := hbx; clear hbx hrx)
      have HBX := Lib.hid (HW4.out.trans (hzx.mono HW4.out.size))
      have HRA3 := Lib.hid (HRA2.out.later HBX.out)
      have HRB3 := Lib.hid (HRb.out.later HBX.out)
      have CX := Lib.hid (fun u (hu : Below wx.heap.size wx u) => lex_Join _ _ _ _ _ u (HRx.out.later hu) (fields_long _ (by rw [List.length_append, List.length_cons, LA.out, LB.out]; omega)))
      have CA := Lib.hid (fun u (hu : Below wx.heap.size wx u) => lex_Join _ _ _ _ _ u (HRA3.out.later hu) (fields_long A (by rw [LA.out]; omega)))
      have CB := Lib.hid (fun u (hu : Below wx.heap.size wx u) => lex_Join _ _ _ _ _ u (HRB3.out.later hu) (fields_long B (by rw [LB.out]; omega)))
      have hfl := fields_len A
      have hfm := fields_len B
      rw [LA.out] at hfl
      rw [LB.out] at hfm
      have ht1 := two_fields A B
      rw [ht1.1]
      rw [ht1.1] at CX
      obtain ⟨fa, hfa⟩ : ∃ x, (fieldsF A).length = x := ⟨_, rfl⟩
      obtain ⟨fb, hfb⟩ : ∃ x, (fieldsF B).length = x := ⟨_, rfl⟩
      rw [hfa, hfb] at CX
      rw [hfa] at CA hfl ⊢
      rw [hfb] at CB hfm ⊢
      rw [ht1.2] at CX
      have hq : (bA (joinF (fieldsF A) ++ joinF (fieldsF B))).toList = (bA (joinF (fieldsF A)) ++ bA (joinF (fieldsF B))).toList := by rw [bA_app]
      have hz0 : (bA (joinF (fieldsF A))).size + (bA (joinF (fieldsF B))).size ≤ 9223372036854775807 := by rw [bA_size, bA_size]; have h5 := fields_long A (by rw [LA.out]; omega); have h6 := fields_long B (by rw [LB.out]; omega); omega
      have hz1 : (bA (joinF (fieldsF A))).size + (bA (joinF (fieldsF B))).size ≤ maxLen := hz0
      have hz2 : ¬ 9223372036854775807 < (bA (joinF (fieldsF A))).size + (bA (joinF (fieldsF B))).size := by omega
      have hz3 : ¬ maxLen < (bA (joinF (fieldsF A))).size + (bA (joinF (fieldsF B))).size := by unfold maxLen; omega
      generalize joinF (fieldsF A) = ja at *
      generalize joinF (fieldsF B) = jb at *
      obtain ⟨fx, hfx⟩ : ∃ x, fa + fb = x := ⟨_, rfl⟩
      rw [hfx] at CX ⊢
      have hk1 : (fa : Int) + (fb : Int) = (fx : Int) := by omega
      have hk2 : IntKind.i64.wrap ((fa : Int) + (fb : Int)) = (fx : Int) := by rw [hk1]; exact IntWalk.i64_in _ (by omega)
      clear hfx
      clear ht1 hfa hfb hzx
      have hb := Below.refl wx.heap.size wx
      generalize bA (ja ++ jb) = jx at *
      generalize bA ja = ya at *
      generalize bA jb = yb at *
      go_wp2_with (first | (go_at_call 14; (with_reducible refine (CX.out _ hb).mono ?_); rintro e w5 ⟨rfl, hb5⟩; replace hbel := belStep hbel hb5; replace hb := belStep hb hb5; clear hb5) | (go_at_call 14; (with_reducible refine (CA.out _ hb).mono ?_); rintro e w5 ⟨rfl, hb5⟩; replace hbel := belStep hbel hb5; replace hb := belStep hb hb5; clear hb5) | (go_at_call 14; (with_reducible refine (CB.out _ hb).mono ?_); rintro e w5 ⟨rfl, hb5⟩; replace hbel := belStep hbel hb5; replace hb := belStep hb hb5; clear hb5))
      go_ret
      exact ⟨rfl, hbel⟩
    · rw [qa, qb] at hr
      have RX := Lib.hid (hr.trans (rfl : _ = false))
      have RA := Lib.hid qa
      have RB := Lib.hid qb
      clear hr qa qb
      go_enter Tryd.func6, Tryd.ntmps6
      go_upto_region 3 with (first | (go_at_call 9; (with_reducible refine (awake04 _ m (HM.out _ hbel)).mono ?_); rintro e w1 ⟨rfl, hb1⟩; replace hbel := belStep hbel hb1; clear hb1))
      go_upto_region 4 with (go_at_call 10; (with_reducible refine (lines_of _ _ _ A m _ (HA.out.later hbel) (HM.out _ hbel) RA.out).mono ?_); rintro e wa ⟨⟨ba, na, va, rfl, hra⟩, hba⟩; have HRa := Lib.hid hra; have hla := hba.size; replace hbel := belStep hbel hba; have hza := hba; clear hba hra)
      clear hza
      go_upto_region 5 with (go_at_call 10; (with_reducible refine (lines_no _ _ _ B m _ (HB.out.later hbel) (HM.out _ hbel) RB.out).mono ?_); rintro e wb ⟨rfl, hbb⟩; replace hbel := belStep hbel hbb; have hzb := hbb; clear hbb)
      have HRA2 := Lib.hid (HRa.out.later hzb)
      clear hzb
      have hw := hbel
      have HW := Lib.hid hw
      have hB0 : Below wb.heap.size wb wb := Below.refl _ _
      go_wp2_with (at_builtin; refine wpList_app_ints rfl _ _ 22 rfl wb.heap.size 5 .u8 1 Tryd.underlying22 bld_byte _ _ rfl (own_new wb wb.heap.size 5 .u8 (Nat.le_refl _)) _ la ca (numsL A) rfl (HA.out.later (belAlloc hbel _)) ?c1 ?c2 ?c3 ?_)
      case c1 => simp only [maxLen, List.length_nil]; omega
      case c2 => simp only [List.length_nil]; omega
      case c3 => simp
      intro v1 w2 ho1 hb1 hg1
      try rw [List.nil_append] at ho1
      have h1 : Below wb.heap.size wb w2 := (belAlloc hB0 _).trans hb1
      have HO1 := Lib.hid (OwnI.alloc ho1 (.cells #[.int .u8 10] 5))
      have h2 := belAlloc h1 (.cells #[.int .u8 10] 5)
      have HT := Lib.hid (show Ints .u8 (w2.alloc (.cells #[.int .u8 10] 5)) (some ⟨w2.heap.size, 0, none⟩) 1 1 (numsL [10]) from nums_ints w2 [10] (0, 0) (by decide))
      have hs2 := h2.size
      clear ho1 hg1 hb1 h1 hB0
      go_wp2_with (at_builtin; refine wpList_app_ints rfl _ _ 22 rfl wb.heap.size 5 .u8 1 Tryd.underlying22 bld_byte _ _ rfl HO1.out _ 1 1 (numsL [10]) rfl HT.out ?c1 ?c2 ?c3 ?_)
      case c1 => rw [HNA.out]; simp only [maxLen]; omega
      case c2 => rw [HNA.out]; omega
      case c3 => exact hs2
      intro v2 w3 ho2 hb2 hg2
      have h3 := h2.trans hb2
      have HO2 := Lib.hid ho2
      have hs3 := h3.size
      clear ho2 hg2 hb2 h2 hs2
      go_wp2_with (at_builtin; refine wpList_app_ints rfl _ _ 22 rfl wb.heap.size 5 .u8 1 Tryd.underlying22 bld_byte _ _ rfl HO2.out _ lb cb (numsL B) rfl (HB.out.later (belStep HW.out h3)) ?c1 ?c2 ?c3 ?_)
      case c1 => rw [List.length_append, HNA.out]; simp only [maxLen, numsL, List.length_map, List.length_cons, List.length_nil]; omega
      case c2 => rw [List.length_append, HNA.out]; simp only [numsL, List.length_map, List.length_cons, List.length_nil]; omega
      case c3 => exact hs3
      intro v3 w4 ho3 hb3 hg3
      have h4 := h3.trans hb3
      try rw [List.append_assoc] at ho3
      rw [show numsL A ++ (numsL [10] ++ numsL B) = numsL (A ++ 10 :: B) by unfold numsL; simp] at ho3
      obtain ⟨xa, xc, rfl, hia⟩ := ints_of_own ho3 (nums_wf _)
      rw [show (numsL (A ++ 10 :: B)).length = la + 1 + lb by unfold numsL; rw [List.length_map, List.length_append, List.length_cons, LA.out, LB.out]; omega] at hia ⊢
      have HX := Lib.hid hia
      have HW4 := Lib.hid h4
      replace hbel := belStep HW.out h4
      clear ho3 hg3 hb3 hia h3 h4 hs3 hw
      go_upto_region 6 with (go_at_call 10; (with_reducible refine (lines_no _ _ _ (A ++ 10 :: B) m _ (HX.out) (HM.out _ hbel) RX.out).mono ?_); rintro e wx ⟨rfl, hbx⟩; replace hbel := belStep hbel hbx; have hzx := hbx; clear hbx)
      clear hzx
      go_wp2
      go_ret
      exact ⟨rfl, hbel⟩
  · rcases qb : readB B with _ | _
    rotate_left 1
    · rw [qa, qb] at hr
      have RX := Lib.hid (hr.trans (rfl : _ = false))
      have RA := Lib.hid qa
      have RB := Lib.hid qb
      clear hr qa qb
      go_enter Tryd.func6, Tryd.ntmps6
      go_upto_region 3 with (first | (go_at_call 9; (with_reducible refine (awake04 _ m (HM.out _ hbel)).mono ?_); rintro e w1 ⟨rfl, hb1⟩; replace hbel := belStep hbel hb1; clear hb1))
      go_upto_region 4 with (go_at_call 10; (with_reducible refine (lines_no _ _ _ A m _ (HA.out.later hbel) (HM.out _ hbel) RA.out).mono ?_); rintro e wa ⟨rfl, hba⟩; replace hbel := belStep hbel hba; have hza := hba; clear hba)
      clear hza
      go_upto_region 5 with (go_at_call 10; (with_reducible refine (lines_of _ _ _ B m _ (HB.out.later hbel) (HM.out _ hbel) RB.out).mono ?_); rintro e wb ⟨⟨bb, nb, vb, rfl, hrb⟩, hbb⟩; have HRb := Lib.hid hrb; have hlb := hbb.size; replace hbel := belStep hbel hbb; have hzb := hbb; clear hbb hrb)
      clear hzb
      have hw := hbel
      have HW := Lib.hid hw
      have hB0 : Below wb.heap.size wb wb := Below.refl _ _
      go_wp2_with (at_builtin; refine wpList_app_ints rfl _ _ 22 rfl wb.heap.size 5 .u8 1 Tryd.underlying22 bld_byte _ _ rfl (own_new wb wb.heap.size 5 .u8 (Nat.le_refl _)) _ la ca (numsL A) rfl (HA.out.later (belAlloc hbel _)) ?c1 ?c2 ?c3 ?_)
      case c1 => simp only [maxLen, List.length_nil]; omega
      case c2 => simp only [List.length_nil]; omega
      case c3 => simp
      intro v1 w2 ho1 hb1 hg1
      try rw [List.nil_append] at ho1
      have h1 : Below wb.heap.size wb w2 := (belAlloc hB0 _).trans hb1
      have HO1 := Lib.hid (OwnI.alloc ho1 (.cells #[.int .u8 10] 5))
      have h2 := belAlloc h1 (.cells #[.int .u8 10] 5)
      have HT := Lib.hid (show Ints .u8 (w2.alloc (.cells #[.int .u8 10] 5)) (some ⟨w2.heap.size, 0, none⟩) 1 1 (numsL [10]) from nums_ints w2 [10] (0, 0) (by decide))
      have hs2 := h2.size
      clear ho1 hg1 hb1 h1 hB0
      go_wp2_with (at_builtin; refine wpList_app_ints rfl _ _ 22 rfl wb.heap.size 5 .u8 1 Tryd.underlying22 bld_byte _ _ rfl HO1.out _ 1 1 (numsL [10]) rfl HT.out ?c1 ?c2 ?c3 ?_)
      case c1 => rw [HNA.out]; simp only [maxLen]; omega
      case c2 => rw [HNA.out]; omega
      case c3 => exact hs2
      intro v2 w3 ho2 hb2 hg2
      have h3 := h2.trans hb2
      have HO2 := Lib.hid ho2
      have hs3 := h3.size
      clear ho2 hg2 hb2 h2 hs2
      go_wp2_with (at_builtin; refine wpList_app_ints rfl _ _ 22 rfl wb.heap.size 5 .u8 1 Tryd.underlying22 bld_byte _ _ rfl HO2.out _ lb cb (numsL B) rfl (HB.out.later (belStep HW.out h3)) ?c1 ?c2 ?c3 ?_)
      case c1 => rw [List.length_append, HNA.out]; simp only [maxLen, numsL, List.length_map, List.length_cons, List.length_nil]; omega
      case c2 => rw [List.length_append, HNA.out]; simp only [numsL, List.length_map, List.length_cons, List.length_nil]; omega
      case c3 => exact hs3
      intro v3 w4 ho3 hb3 hg3
      have h4 := h3.trans hb3
      try rw [List.append_assoc] at ho3
      rw [show numsL A ++ (numsL [10] ++ numsL B) = numsL (A ++ 10 :: B) by unfold numsL; simp] at ho3
      obtain ⟨xa, xc, rfl, hia⟩ := ints_of_own ho3 (nums_wf _)
      rw [show (numsL (A ++ 10 :: B)).length = la + 1 + lb by unfold numsL; rw [List.length_map, List.length_append, List.length_cons, LA.out, LB.out]; omega] at hia ⊢
      have HX := Lib.hid hia
      have HW4 := Lib.hid h4
      replace hbel := belStep HW.out h4
      clear ho3 hg3 hb3 hia h3 h4 hs3 hw
      go_upto_region 6 with (go_at_call 10; (with_reducible refine (lines_no _ _ _ (A ++ 10 :: B) m _ (HX.out) (HM.out _ hbel) RX.out).mono ?_); rintro e wx ⟨rfl, hbx⟩; replace hbel := belStep hbel hbx; have hzx := hbx; clear hbx)
      clear hzx
      go_wp2
      go_ret
      exact ⟨rfl, hbel⟩
    · rw [qa, qb] at hr
      have RX := Lib.hid (hr.trans (rfl : _ = false))
      have RA := Lib.hid qa
      have RB := Lib.hid qb
      clear hr qa qb
      go_enter Tryd.func6, Tryd.ntmps6
      go_upto_region 3 with (first | (go_at_call 9; (with_reducible refine (awake04 _ m (HM.out _ hbel)).mono ?_); rintro e w1 ⟨rfl, hb1⟩; replace hbel := belStep hbel hb1; clear hb1))
      go_upto_region 4 with (go_at_call 10; (with_reducible refine (lines_no _ _ _ A m _ (HA.out.later hbel) (HM.out _ hbel) RA.out).mono ?_); rintro e wa ⟨rfl, hba⟩; replace hbel := belStep hbel hba; have hza := hba; clear hba)
      clear hza
      go_upto_region 5 with (go_at_call 10; (with_reducible refine (lines_no _ _ _ B m _ (HB.out.later hbel) (HM.out _ hbel) RB.out).mono ?_); rintro e wb ⟨rfl, hbb⟩; replace hbel := belStep hbel hbb; have hzb := hbb; clear hbb)
      clear hzb
      have hw := hbel
      have HW := Lib.hid hw
      have hB0 : Below wb.heap.size wb wb := Below.refl _ _
      go_wp2_with (at_builtin; refine wpList_app_ints rfl _ _ 22 rfl wb.heap.size 5 .u8 1 Tryd.underlying22 bld_byte _ _ rfl (own_new wb wb.heap.size 5 .u8 (Nat.le_refl _)) _ la ca (numsL A) rfl (HA.out.later (belAlloc hbel _)) ?c1 ?c2 ?c3 ?_)
      case c1 => simp only [maxLen, List.length_nil]; omega
      case c2 => simp only [List.length_nil]; omega
      case c3 => simp
      intro v1 w2 ho1 hb1 hg1
      try rw [List.nil_append] at ho1
      have h1 : Below wb.heap.size wb w2 := (belAlloc hB0 _).trans hb1
      have HO1 := Lib.hid (OwnI.alloc ho1 (.cells #[.int .u8 10] 5))
      have h2 := belAlloc h1 (.cells #[.int .u8 10] 5)
      have HT := Lib.hid (show Ints .u8 (w2.alloc (.cells #[.int .u8 10] 5)) (some ⟨w2.heap.size, 0, none⟩) 1 1 (numsL [10]) from nums_ints w2 [10] (0, 0) (by decide))
      have hs2 := h2.size
      clear ho1 hg1 hb1 h1 hB0
      go_wp2_with (at_builtin; refine wpList_app_ints rfl _ _ 22 rfl wb.heap.size 5 .u8 1 Tryd.underlying22 bld_byte _ _ rfl HO1.out _ 1 1 (numsL [10]) rfl HT.out ?c1 ?c2 ?c3 ?_)
      case c1 => rw [HNA.out]; simp only [maxLen]; omega
      case c2 => rw [HNA.out]; omega
      case c3 => exact hs2
      intro v2 w3 ho2 hb2 hg2
      have h3 := h2.trans hb2
      have HO2 := Lib.hid ho2
      have hs3 := h3.size
      clear ho2 hg2 hb2 h2 hs2
      go_wp2_with (at_builtin; refine wpList_app_ints rfl _ _ 22 rfl wb.heap.size 5 .u8 1 Tryd.underlying22 bld_byte _ _ rfl HO2.out _ lb cb (numsL B) rfl (HB.out.later (belStep HW.out h3)) ?c1 ?c2 ?c3 ?_)
      case c1 => rw [List.length_append, HNA.out]; simp only [maxLen, numsL, List.length_map, List.length_cons, List.length_nil]; omega
      case c2 => rw [List.length_append, HNA.out]; simp only [numsL, List.length_map, List.length_cons, List.length_nil]; omega
      case c3 => exact hs3
      intro v3 w4 ho3 hb3 hg3
      have h4 := h3.trans hb3
      try rw [List.append_assoc] at ho3
      rw [show numsL A ++ (numsL [10] ++ numsL B) = numsL (A ++ 10 :: B) by unfold numsL; simp] at ho3
      obtain ⟨xa, xc, rfl, hia⟩ := ints_of_own ho3 (nums_wf _)
      rw [show (numsL (A ++ 10 :: B)).length = la + 1 + lb by unfold numsL; rw [List.length_map, List.length_append, List.length_cons, LA.out, LB.out]; omega] at hia ⊢
      have HX := Lib.hid hia
      have HW4 := Lib.hid h4
      replace hbel := belStep HW.out h4
      clear ho3 hg3 hb3 hia h3 h4 hs3 hw
      go_upto_region 6 with (go_at_call 10; (with_reducible refine (lines_no _ _ _ (A ++ 10 :: B) m _ (HX.out) (HM.out _ hbel) RX.out).mono ?_); rintro e wx ⟨rfl, hbx⟩; replace hbel := belStep hbel hbx; have hzx := hbx; clear hbx)
      clear hzx
      go_wp2
      go_ret
      exact ⟨rfl, hbel⟩

set_option maxRecDepth 100000 in
set_option maxRecDepth 100000 in
theorem lifted (os : Os) (started : os.Started) (H : Type) (enc : TypeId × Value → H) :
    ReturnsInHanded {} Tryd.checked os 6 .any (fun w args => (Rows.lexTwoSpec.pre enc Tryd.prog Tryd.f6 [] false w args ∧ laidMetH Tryd.prog Rows.lexTwoRow.laid w) ∧ sizedMet enc Tryd.prog Tryd.f6 (OpenSpec.ofChange Rows.lexTwoSpec) false w args) (Rows.lexTwoSpec.post enc Tryd.prog Tryd.f6 false true false false) := by
  refine returnsInHanded_of_change_and_shaped (C := Tryd.checked) (X := fun w _ => laidMetH Tryd.prog Rows.lexTwoRow.laid w) (fun _ _ _ hh h => h.of_heap hh) own started (by kernel_rfl) Tryd.func6
    (ChangeSpec.witness_shaped (enc := enc) (C := Tryd.checked) (os := os) (X := fun w _ => laidMetH Tryd.prog Rows.lexTwoRow.laid w) false (World.laidAll Tryd.prog os Rows.lexTwoRow.laid) #[.slice none 0 0, .slice none 0 0] 8 (World.laidAll_os _ _ _) (World.shaped_of_ZipB (by kernel_rfl) (by kernel_rfl)) (by kernel_rfl) (by kernel_rfl) (by kernel_rfl) (by rw [MakeChecks.laidMetH_plain _ _ _ (by kernel_rfl)]; exact laidMet_laidAll _ (by kernel_rfl) (by kernel_rfl))) ?_
  intro W base args ds gs before hval0 hW hL hsh
  rw [MakeChecks.laidMetH_plain _ _ _ (by kernel_rfl)] at hL
  have ht : Env W := env_of hL hsh
  clear hL
  have hval : ∀ (j : Nat) t v, Tryd.f6.params[j]? = some t → args[j]? = some v → Value.okWide Tryd.prog W .any base t v := hval0
  have hW' := hW
  obtain ⟨p, q, hA0, hV, rfl, hfz, hnd⟩ := hW
  have hA : DataW.TrodAll enc Tryd.prog W 0 (fun _ => true) true Tryd.f6.params.toList args.toList ds p := hA0
  rw [Tryd.params6] at hA hval
  obtain ⟨v0, vs0, d0, ds0, p0, q0, hargs, rfl, rfl, h0, r0⟩ := trodAll_cons hA
  obtain ⟨v1, vs1, d1, ds1, p1, q1, rfl, rfl, rfl, h1, r1⟩ := trodAll_cons r0
  obtain ⟨rfl, rfl, rfl⟩ := trodAll_nil r1
  obtain rfl : args = #[v0, v1] := by cases args; simp_all
  obtain ⟨rfl, rfl⟩ := trodVars_none hV
  have k0 := h0
  have lt0 : ∀ x ∈ p0, x.block < W.heap.size := by obtain ⟨m, hm⟩ := k0; exact DataW.trod_lt m _ _ _ hm
  have o0 : Value.okWide Tryd.prog W .any base 22 v0 := hval 0 22 v0 rfl rfl
  obtain ⟨a0, len0, cap0, rfl⟩ := okWide_slice Tryd.underlying22 o0
  obtain ⟨z0, w0⟩ : ∃ zs, Ints .u8 W a0 len0 cap0 zs := ints_of_trod Tryd.underlying22 Tryd.underlying5 (by kernel_rfl) h0
  have k1 := h1
  have lt1 : ∀ x ∈ p1, x.block < W.heap.size := by obtain ⟨m, hm⟩ := k1; exact DataW.trod_lt m _ _ _ hm
  have o1 : Value.okWide Tryd.prog W .any base 22 v1 := hval 1 22 v1 rfl rfl
  obtain ⟨a1, len1, cap1, rfl⟩ := okWide_slice Tryd.underlying22 o1
  obtain ⟨z1, w1⟩ : ∃ zs, Ints .u8 W a1 len1 cap1 zs := ints_of_trod Tryd.underlying22 Tryd.underlying5 (by kernel_rfl) h1
  clear hA0 hval0
  refine (walk a0 len0 cap0 z0 a1 len1 cap1 z1 W ht w0 w1).mono fun e W' ⟨he, bel⟩ => ?_
  subst he
  exact ⟨_, rfl, _, _, _, [], _, [], hW', trodAll_mk1 (shut_bool Tryd.underlying4 _), (trodAll_cons_mk (Below.trod laidOut (by kernel_rfl) (of_decide_eq_true (by kernel_rfl)) k0 bel lt0) (trodAll_cons_mk (Below.trod laidOut (by kernel_rfl) (of_decide_eq_true (by kernel_rfl)) k1 bel lt1) trodAll_mk0)), rfl, bel.frame _, fun h => by cases h⟩

theorem over : Rows.lexTwoRow.holds Tryd.pinned (OpenSpec.ofChange Rows.lexTwoSpec) :=
  OpenClaim.holds_of_wide 6 Tryd.f6 rfl rfl rfl rfl rfl rfl rfl ⟨rfl, rfl, rfl, rfl, rfl⟩ rfl rfl rfl rfl rfl (by kernel_rfl) Tryd.func6 (by kernel_rfl)
    (of_decide_eq_true (by kernel_rfl)) (by unfold Func.isWrapper; first | (rw [if_pos (by decide +kernel)]; kernel_rfl) | (rw [if_neg (by decide +kernel)]; exact ⟨rfl, rfl⟩))
    (fun os started H enc _ => lifted os started H enc)

/-- The statement. -/
theorem proved : Rows.LexTwoCardSaid :=
  Claim7.holds_tied_plain_at .later [] Rows.lexTwoCard.laidKinds true Rows.lexTwoCard.stood.harness false
    over (fun _ h => by cases h) (by kernel_rfl) (fun _ h => by cases h) lexTwo_row_tie rfl ⟨rfl, rfl⟩ (by kernel_rfl) rfl
    (fun f fn hf hfn => by
      obtain rfl : f = 6 := Option.some.inj ((show Tryd.prog.funcNamed Rows.lexTwoRow.func = some 6 by kernel_rfl).symm.trans hf) |>.symm
      obtain rfl : fn = Tryd.f6 := (Option.some.inj (Tryd.func6.symm.trans hfn)).symm
      exact ⟨by kernel_rfl, fun j t ht => by
        rw [Tryd.params6] at ht
        have hm : t ∈ [22, 22] := by simpa using Array.mem_of_getElem? ht
        have hall : ([22, 22].all fun u => !Tryd.prog.wantsStandIn u) = true := by kernel_rfl
        exact (show Tryd.prog.wantsStandIn t = false by simpa using List.all_eq_true.1 hall t hm)⟩)
    (by kernel_rfl)
#print axioms proved

end Go.Proofs.YtgmgeefipkfdcaaDoor.lexTwo
