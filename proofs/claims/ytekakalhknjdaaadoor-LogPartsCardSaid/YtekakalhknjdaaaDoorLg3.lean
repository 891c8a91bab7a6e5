
/- Stage 27: the writer: reason, event: contracts. -/
import Derived.Test.YtekakalhknjdaaaDoorLg2
namespace Go.Proofs.YtekakalhknjdaaaDoor
open Go.RowKit
set_option linter.unusedVariables false
set_option linter.unusedSimpArgs false
theorem eq_ev (e : EvV) (w : World) : (Op.equalIn 10000 23 (.agg #[.int .i64 e.kind, .string e.id, .int .i64 e.sig, .int .i64 e.n]) (.agg #[.int .i64 0, .string ⟨#[]⟩, .int .i64 0, .int .i64 0])).run Tryd.prog w = .ok (decide (e.kind = 0) && (e.id.data.toList == [] && (decide (e.sig = 0) && decide (e.n = 0)))) w := by
  have hs : Tryd.prog.fieldsOf 23 = #[{ name := "Kind", type := 3, offset := 0, embedded := false, tag := "", pkgPath := "", byteOffset := 0 }, { name := "Id", type := 9, offset := 1, embedded := false, tag := "", pkgPath := "", byteOffset := 8 }, { name := "Signal", type := 3, offset := 2, embedded := false, tag := "", pkgPath := "", byteOffset := 24 }, { name := "N", type := 3, offset := 3, embedded := false, tag := "", pkgPath := "", byteOffset := 32 }] := by kernel_rfl
  rw [run_equalIn_struct _ _ _ _ _ (by kernel_rfl) (by kernel_rfl), hs]
  simp [go_sem, ByteArray.toList_eq]
  by_cases a1 : e.kind = 0
  · by_cases a2 : e.id.data = #[]
    · have a2' : e.id = ⟨#[]⟩ := by cases hh : e.id; rw [hh] at a2; simp at a2; rw [a2]
      by_cases a3 : e.sig = 0
      · by_cases a4 : e.n = 0 <;> simp [a1, a2, a2', a3, a4]
      · simp [a1, a2, a2', a3]
    · simp [a1, a2]
  · simp [a1]
theorem lenP (s : WrV) (f : ByteArray) (b : Bool) : (s.put f b).F.length = s.F.length + 1 := by simp [WrV.put]
set_option maxRecDepth 100000 in
set_option maxHeartbeats 16000000 in
theorem lg_why (B base : Nat) (s : WrV) (w : World) (hW : WrAt w B base s) (hb : base ≤ B) (hl : s.F.length ≤ 8) :
    Calls Tryd.prog 50 #[.pointer (some ⟨B, 0, none⟩)] w fun e w' => e = .returned (.tuple #[]) ∧ WrAt w' B base (s.why) ∧ Below base w w' := by
  obtain ⟨a, c, hB, hO⟩ := hW
  have HW := Lib.hid (show WrAt w B base s from ⟨a, c, hB, hO⟩)
  have HB := Lib.hid hB
  clear hB hO
  have hz1 := HB.out.lt
  have HE := Lib.hid (show (bA pressL = ⟨#[112, 114, 101, 115, 115, 117, 114, 101]⟩) ∧ bA roomL = ⟨#[114, 111, 111, 109]⟩ from ⟨rfl, rfl⟩)
  by_cases h3 : s.e.n = 3
  · have t1 : (s.e.n == 3) = true := by rw [h3]; rfl
    have CP := Lib.hid (lg_put B base s (bA pressL) true w HW.out hb (by omega))
    rw [HE.out.1] at CP
    have H3 := Lib.hid h3
    clear h3
    have b4 := HB.out.cell (j := 4) rfl
    have bf := HB.out.frozen
    go_enter Tryd.func50, Tryd.ntmps50
    go_upto_region 7 with (first | (go_at_call 45; (with_reducible refine (CP.out).mono ?_); rintro e w2 ⟨rfl, hw2, hb2⟩; have HW2 := Lib.hid hw2; have HB2 := Lib.hid (hb2); clear hw2 hb2) | (go_at_call 49; (with_reducible refine (lg_sig B base _ _ HW2.out hb (by rw [lenP]; omega)).mono ?_); rintro e w3 ⟨rfl, hw3, hb3⟩; have HW3 := Lib.hid hw3; have HB3 := Lib.hid (HB2.out.trans hb3); clear hw3 hb3))
    clear b4 bf
    obtain ⟨a9, c9, hB9, _⟩ := HW3.out
    have z4 := hB9.cell (j := 4) rfl
    have zf := hB9.frozen
    clear hB9
    go_wp2
    go_end0
    have h := HW3.out.n0
    unfold WrV.why
    rw [if_pos H3.out, HE.out.1]
    exact ⟨rfl, h, belLow HB3.out ⟨B, 4, none⟩ (.int .i64 0) hb⟩
  · have t1 : (s.e.n == 3) = false := by rw [beq_eq_false_iff_ne]; exact h3
    have H3 := Lib.hid h3
    clear h3
    by_cases h4 : s.e.n = 4
    · have t2 : (s.e.n == 4) = true := by rw [h4]; rfl
      have CP := Lib.hid (lg_put B base s (bA roomL) true w HW.out hb (by omega))
      rw [HE.out.2] at CP
      have H4 := Lib.hid h4
      clear h4
      have b4 := HB.out.cell (j := 4) rfl
      have bf := HB.out.frozen
      go_enter Tryd.func50, Tryd.ntmps50
      go_upto_region 7 with (go_at_call 45; (with_reducible refine (CP.out).mono ?_); rintro e w3 ⟨rfl, hw3, hb3⟩; have HW3 := Lib.hid hw3; have HB3 := Lib.hid (hb3); clear hw3 hb3)
      clear b4 bf
      obtain ⟨a9, c9, hB9, _⟩ := HW3.out
      have z4 := hB9.cell (j := 4) rfl
      have zf := hB9.frozen
      clear hB9
      go_wp2
      go_end0
      have h := HW3.out.n0
      unfold WrV.why
      rw [if_neg H3.out, if_pos H4.out, HE.out.2]
      exact ⟨rfl, h, belLow HB3.out ⟨B, 4, none⟩ (.int .i64 0) hb⟩
    · have t2 : (s.e.n == 4) = false := by rw [beq_eq_false_iff_ne]; exact h4
      have H4 := Lib.hid h4
      clear h4
      have b4 := HB.out.cell (j := 4) rfl
      have b5 := HB.out.cell (j := 5) rfl
      have bf := HB.out.frozen
      go_enter Tryd.func50, Tryd.ntmps50
      go_upto_region 7 with fail
      have HW3 := Lib.hid HW.out.badT
      have HB3 := Lib.hid (belLow (Below.refl base w) ⟨B, 5, none⟩ (.bool true) hb)
      clear b4 b5 bf
      generalize w.setCell ⟨B, 5, none⟩ (.bool true) = w3 at *
      obtain ⟨a9, c9, hB9, _⟩ := HW3.out
      have z4 := hB9.cell (j := 4) rfl
      have zf := hB9.frozen
      clear hB9
      go_wp2
      go_end0
      have h := HW3.out.n0
      unfold WrV.why
      rw [if_neg H3.out, if_neg H4.out]
      exact ⟨rfl, h, belLow HB3.out ⟨B, 4, none⟩ (.int .i64 0) hb⟩
set_option maxRecDepth 100000 in
set_option maxHeartbeats 16000000 in
theorem lg_event (B base : Nat) (s : WrV) (w : World) (hW : WrAt w B base s) (hb : base ≤ B) (hl : s.F.length ≤ 4) (ht : ∀ u, Below base w u → Tab u) (hs : s.e.id.size ≤ maxLen) (hn : InI s.e.n) :
    Calls Tryd.prog 35 #[.pointer (some ⟨B, 0, none⟩)] w fun e w' => e = .returned (.tuple #[]) ∧ WrAt w' B base (s.event) ∧ Below base w w' := by
  obtain ⟨a, c, hB, hO⟩ := hW
  have HW := Lib.hid (show WrAt w B base s from ⟨a, c, hB, hO⟩)
  have HB := Lib.hid hB
  have HT := Lib.hid ht
  clear hB hO ht
  have hz1 := HB.out.lt
  have CK := Lib.hid (fun u => lg_known s.e.kind u)
  by_cases hk : 0 < s.e.kind ∧ s.e.kind < 17
  · rw [decide_eq_true hk] at CK
    have HIX := Lib.hid (fun u => idx17 hk u)
    have HK := Lib.hid hk
    have hke := hk
    clear hk
    obtain ⟨kt, hkt⟩ : ∃ x, bA (kwE s.e.kind.toNat) = x := ⟨_, rfl⟩
    have HKT := Lib.hid hkt
    rw [hkt] at HIX
    clear hkt
    have b1 := HB.out.cell (j := 1) rfl
    have bf := HB.out.frozen
    go_enter Tryd.func35, Tryd.ntmps35
    have hix := HIX.out
    go_upto_region 4 with (first | (go_at_call 34; (with_reducible refine (CK.out _).mono ?_); rintro e w' ⟨rfl, rfl⟩) | (go_at_call 46; (with_reducible refine (lg_words _).mono ?_); rintro e w1 ⟨rfl, hb1⟩; have HB1 := Lib.hid hb1; clear hb1) | (go_at_call 45; (with_reducible refine (lg_put B base s kt true _ (HW.out.later HB1.out) hb (by omega)).mono ?_); rintro e w2 ⟨rfl, hw2, hb2⟩; have HW2 := Lib.hid hw2; have HB2 := Lib.hid ((HB1.out.mono (Nat.le_trans hb (Nat.le_of_lt hz1))).trans hb2); clear hw2 hb2))
    clear b1 bf hix
    obtain ⟨a4, c4, hB4, _⟩ := HW2.out
    have b1 := hB4.cell (j := 1) rfl
    have bf := hB4.frozen
    go_upto_region 5 with fail
    have HW4 := Lib.hid HW2.out.kind0
    have HB4 := Lib.hid (belLow HB2.out ⟨B, 1, none⟩ (.int .i64 0) hb)
    clear b1 bf hB4
    generalize w2.setCell ⟨B, 1, none⟩ (.int .i64 0) = w4 at *
    obtain ⟨t, ht⟩ : ∃ t : WrV, ({ s.put kt true with e := { s.e with kind := 0 } } : WrV) = t := ⟨_, rfl⟩
    have hw4 := HW4.out
    rw [show ({ s.put kt true with e := { (s.put kt true).e with kind := 0 } } : WrV) = t from ht] at hw4
    have HWt := Lib.hid hw4
    have hlt : t.F.length = s.F.length + 1 := by rw [← ht]; exact lenP s kt true
    have hid : t.e.id.size ≤ maxLen := by rw [← ht]; exact hs
    have hni : InI t.e.n := by rw [← ht]; exact hn
    have HEQ := Lib.hid (show s.event = (if s.e.kind = 9 ∨ s.e.kind = 14 then t.idS.num else if s.e.kind = 16 then t.num else if s.e.kind = 5 then t.idS.sgn else if s.e.kind = 6 ∨ s.e.kind = 7 then t.sgn else if s.e.kind = 3 then t.idS.why else t.idS) from by unfold WrV.event; rw [if_neg (fun z => z HK.out)]; dsimp only; rw [HKT.out, ht])
    have HTT := Lib.hid (fun u (hu : Below base w4 u) => HT.out u (HB4.out.trans hu))
    clear ht hw4 HW4 HKT hs hn
    have hil : t.idS.F.length = s.F.length + 2 := by unfold WrV.idS; rw [show ({ t.put t.e.id (wordB t.e.id.data.toList) with e := { t.e with id := ⟨#[]⟩ } } : WrV).F = (t.put t.e.id (wordB t.e.id.data.toList)).F from rfl, lenP, hlt]
    have hin : t.idS.e.n = t.e.n := rfl
    have hni2 : InI t.idS.e.n := by rw [hin]; exact hni
    obtain ⟨k, hkk⟩ : ∃ k, s.e.kind = k := ⟨_, rfl⟩
    rw [hkk] at HEQ hke ⊢
    clear hkk HK CK HIX
    by_cases k9 : k = 9
    · have f9 : (k == 9) = true := by rw [beq_iff_eq]; omega
      go_wp2_with (first | (go_at_call 47; (with_reducible refine (lg_id B base t _ HWt.out hb (by omega) hid).mono ?_); rintro e w6 ⟨rfl, hw6, hb6⟩; have HW6 := Lib.hid hw6; have HB6 := Lib.hid (hb6); clear hw6 hb6) | (go_at_call 48; (with_reducible refine (lg_num B base t.idS _ HW6.out hb (by omega) (fun u hu => HTT.out u (HB6.out.trans hu)) hni2).mono ?_); rintro e w7 ⟨rfl, hw7, hb7⟩; have HW7 := Lib.hid hw7; have HB7 := Lib.hid (HB6.out.trans hb7); clear hw7 hb7))
      go_end0
      rw [HEQ.out, if_pos (show k = 9 ∨ k = 14 by omega)]
      exact ⟨rfl, HW7.out, HB4.out.trans HB7.out⟩
    by_cases k14 : k = 14
    · have f9 : (k == 9) = false := by rw [beq_eq_false_iff_ne]; omega
      have f14 : (k == 14) = true := by rw [beq_iff_eq]; omega
      go_wp2_with (first | (go_at_call 47; (with_reducible refine (lg_id B base t _ HWt.out hb (by omega) hid).mono ?_); rintro e w6 ⟨rfl, hw6, hb6⟩; have HW6 := Lib.hid hw6; have HB6 := Lib.hid (hb6); clear hw6 hb6) | (go_at_call 48; (with_reducible refine (lg_num B base t.idS _ HW6.out hb (by omega) (fun u hu => HTT.out u (HB6.out.trans hu)) hni2).mono ?_); rintro e w7 ⟨rfl, hw7, hb7⟩; have HW7 := Lib.hid hw7; have HB7 := Lib.hid (HB6.out.trans hb7); clear hw7 hb7))
      go_end0
      rw [HEQ.out, if_pos (show k = 9 ∨ k = 14 by omega)]
      exact ⟨rfl, HW7.out, HB4.out.trans HB7.out⟩
    by_cases k16 : k = 16
    · have f9 : (k == 9) = false := by rw [beq_eq_false_iff_ne]; omega
      have f14 : (k == 14) = false := by rw [beq_eq_false_iff_ne]; omega
      have f16 : (k == 16) = true := by rw [beq_iff_eq]; omega
      go_wp2_with (first | (go_at_call 48; (with_reducible refine (lg_num B base t _ HWt.out hb (by omega) HTT.out hni).mono ?_); rintro e w7 ⟨rfl, hw7, hb7⟩; have HW7 := Lib.hid hw7; have HB7 := Lib.hid (hb7); clear hw7 hb7))
      go_end0
      rw [HEQ.out, if_neg (show ¬ (k = 9 ∨ k = 14) by omega), if_pos (show k = 16 by omega)]
      exact ⟨rfl, HW7.out, HB4.out.trans HB7.out⟩
    by_cases k5 : k = 5
    · have f9 : (k == 9) = false := by rw [beq_eq_false_iff_ne]; omega
      have f14 : (k == 14) = false := by rw [beq_eq_false_iff_ne]; omega
      have f16 : (k == 16) = false := by rw [beq_eq_false_iff_ne]; omega
      have f5 : (k == 5) = true := by rw [beq_iff_eq]; omega
      go_wp2_with (first | (go_at_call 47; (with_reducible refine (lg_id B base t _ HWt.out hb (by omega) hid).mono ?_); rintro e w6 ⟨rfl, hw6, hb6⟩; have HW6 := Lib.hid hw6; have HB6 := Lib.hid (hb6); clear hw6 hb6) | (go_at_call 49; (with_reducible refine (lg_sig B base t.idS _ HW6.out hb (by omega)).mono ?_); rintro e w7 ⟨rfl, hw7, hb7⟩; have HW7 := Lib.hid hw7; have HB7 := Lib.hid (HB6.out.trans hb7); clear hw7 hb7))
      go_end0
      rw [HEQ.out, if_neg (show ¬ (k = 9 ∨ k = 14) by omega), if_neg (show ¬ k = 16 by omega), if_pos (show k = 5 by omega)]
      exact ⟨rfl, HW7.out, HB4.out.trans HB7.out⟩
    by_cases k6 : k = 6
    · have f9 : (k == 9) = false := by rw [beq_eq_false_iff_ne]; omega
      have f14 : (k == 14) = false := by rw [beq_eq_false_iff_ne]; omega
      have f16 : (k == 16) = false := by rw [beq_eq_false_iff_ne]; omega
      have f5 : (k == 5) = false := by rw [beq_eq_false_iff_ne]; omega
      have f6 : (k == 6) = true := by rw [beq_iff_eq]; omega
      go_wp2_with (first | (go_at_call 49; (with_reducible refine (lg_sig B base t _ HWt.out hb (by omega)).mono ?_); rintro e w7 ⟨rfl, hw7, hb7⟩; have HW7 := Lib.hid hw7; have HB7 := Lib.hid (hb7); clear hw7 hb7))
      go_end0
      rw [HEQ.out, if_neg (show ¬ (k = 9 ∨ k = 14) by omega), if_neg (show ¬ k = 16 by omega), if_neg (show ¬ k = 5 by omega), if_pos (show k = 6 ∨ k = 7 by omega)]
      exact ⟨rfl, HW7.out, HB4.out.trans HB7.out⟩
    by_cases k7 : k = 7
    · have f9 : (k == 9) = false := by rw [beq_eq_false_iff_ne]; omega
      have f14 : (k == 14) = false := by rw [beq_eq_false_iff_ne]; omega
      have f16 : (k == 16) = false := by rw [beq_eq_false_iff_ne]; omega
      have f5 : (k == 5) = false := by rw [beq_eq_false_iff_ne]; omega
      have f6 : (k == 6) = false := by rw [beq_eq_false_iff_ne]; omega
      have f7 : (k == 7) = true := by rw [beq_iff_eq]; omega
      go_wp2_with (first | (go_at_call 49; (with_reducible refine (lg_sig B base t _ HWt.out hb (by omega)).mono ?_); rintro e w7 ⟨rfl, hw7, hb7⟩; have HW7 := Lib.hid hw7; have HB7 := Lib.hid (hb7); clear hw7 hb7))
      go_end0
      rw [HEQ.out, if_neg (show ¬ (k = 9 ∨ k = 14) by omega), if_neg (show ¬ k = 16 by omega), if_neg (show ¬ k = 5 by omega), if_pos (show k = 6 ∨ k = 7 by omega)]
      exact ⟨rfl, HW7.out, HB4.out.trans HB7.out⟩
    by_cases k3 : k = 3
    · have f9 : (k == 9) = false := by rw [beq_eq_false_iff_ne]; omega
      have f14 : (k == 14) = false := by rw [beq_eq_false_iff_ne]; omega
      have f16 : (k == 16) = false := by rw [beq_eq_false_iff_ne]; omega
      have f5 : (k == 5) = false := by rw [beq_eq_false_iff_ne]; omega
      have f6 : (k == 6) = false := by rw [beq_eq_false_iff_ne]; omega
      have f7 : (k == 7) = false := by rw [beq_eq_false_iff_ne]; omega
      have f3 : (k == 3) = true := by rw [beq_iff_eq]; omega
      go_wp2_with (first | (go_at_call 47; (with_reducible refine (lg_id B base t _ HWt.out hb (by omega) hid).mono ?_); rintro e w6 ⟨rfl, hw6, hb6⟩; have HW6 := Lib.hid hw6; have HB6 := Lib.hid (hb6); clear hw6 hb6) | (go_at_call 50; (with_reducible refine (lg_why B base t.idS _ HW6.out hb (by omega)).mono ?_); rintro e w7 ⟨rfl, hw7, hb7⟩; have HW7 := Lib.hid hw7; have HB7 := Lib.hid (HB6.out.trans hb7); clear hw7 hb7))
      go_end0
      rw [HEQ.out, if_neg (show ¬ (k = 9 ∨ k = 14) by omega), if_neg (show ¬ k = 16 by omega), if_neg (show ¬ k = 5 by omega), if_neg (show ¬ (k = 6 ∨ k = 7) by omega), if_pos (show k = 3 by omega)]
      exact ⟨rfl, HW7.out, HB4.out.trans HB7.out⟩
    have f9 : (k == 9) = false := by rw [beq_eq_false_iff_ne]; omega
    have f14 : (k == 14) = false := by rw [beq_eq_false_iff_ne]; omega
    have f16 : (k == 16) = false := by rw [beq_eq_false_iff_ne]; omega
    have f5 : (k == 5) = false := by rw [beq_eq_false_iff_ne]; omega
    have f6 : (k == 6) = false := by rw [beq_eq_false_iff_ne]; omega
    have f7 : (k == 7) = false := by rw [beq_eq_false_iff_ne]; omega
    have f3 : (k == 3) = false := by rw [beq_eq_false_iff_ne]; omega
    go_wp2_with (first | (go_at_call 47; (with_reducible refine (lg_id B base t _ HWt.out hb (by omega) hid).mono ?_); rintro e w6 ⟨rfl, hw6, hb6⟩; have HW6 := Lib.hid hw6; have HB6 := Lib.hid (hb6); clear hw6 hb6))
    go_end0
    rw [HEQ.out, if_neg (show ¬ (k = 9 ∨ k = 14) by omega), if_neg (show ¬ k = 16 by omega), if_neg (show ¬ k = 5 by omega), if_neg (show ¬ (k = 6 ∨ k = 7) by omega), if_neg (show ¬ k = 3 by omega)]
    exact ⟨rfl, HW6.out, HB4.out.trans HB6.out⟩
  · rw [decide_eq_false hk] at CK
    have HK := Lib.hid hk
    clear hk
    have b1 := HB.out.cell (j := 1) rfl
    have b5 := HB.out.cell (j := 5) rfl
    have bf := HB.out.frozen
    go_enter Tryd.func35, Tryd.ntmps35
    go_wp2_with (go_at_call 34; (with_reducible refine (CK.out _).mono ?_); rintro e w' ⟨rfl, rfl⟩)
    refine bodyPost_ret (results_none rfl _ _ _) rfl ?_
    have h := HW.out.badT
    unfold WrV.event
    rw [if_pos HK.out]
    exact ⟨rfl, h, belLow (Below.refl _ _) ⟨B, 5, none⟩ (.bool true) hb⟩
end Go.Proofs.YtekakalhknjdaaaDoor
