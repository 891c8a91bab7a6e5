
/- LexLines holds for every slice of bytes. -/
import Derived.Test.YtgmgeefipkfdcaaDoorLexRefL
import Derived.Test.YtgmgeefipkfdcaaDoorLexSame
import Derived.Test.YtgmgeefipkfdcaaDoorLexRd
namespace Go.Proofs.YtgmgeefipkfdcaaDoor.lexLines
open Go.ChangeShapes Go.WideShapes Go.ChangeAt Go.RowKit
open Go.ChangeMaps (open_string shut_string)
set_option linter.unusedVariables false
set_option linter.unusedSimpArgs false
set_option maxRecDepth 100000 in
set_option maxHeartbeats 16000000 in
theorem walk (a : Option Addr) (la ca : Nat) (l1 : List Int) (w : World) (ht : Env w) (h1 : Ints .u8 w a la ca l1) :
    Calls Tryd.prog 3 #[.slice a la ca] w fun e w' => e = .returned (.bool true) ∧ Below w.heap.size w w' := by
  have hw := Below.refl w.heap.size w
  have hbel := hw
  have hb1 := h1.bounds
  obtain ⟨A, rfl, lA⟩ := nums_of_bytes h1
  obtain ⟨m, hm⟩ := ht
  have HM := Lib.hid (keep hm)
  have HA := Lib.hid h1
  have LA := Lib.hid lA
  obtain ⟨_, hb11, hb12⟩ := hb1
  clear h1 hm lA
  by_cases hA : 70000 < la
  · go_enter Tryd.func3, Tryd.ntmps3
    go_wp2_with (first | (go_at_call 9; (with_reducible refine (awake04 _ m (HM.out _ hbel)).mono ?_); rintro e w1 ⟨rfl, hb1⟩; replace hbel := belStep hbel hb1; clear hb1))
    go_ret
    exact ⟨rfl, hbel⟩
  have hnA : ¬ (70000 : Int) < (la : Int) := by omega
  clear hw
  rcases qa : readB A with _ | _
  · have RA := Lib.hid qa
    have CRD := Lib.hid (fun u (hu : Below w.heap.size w u) => qa ▸ rlex_Readable a la ca A u (HA.out.later hu))
    clear qa
    go_enter Tryd.func3, Tryd.ntmps3
    go_upto_region 3 with (first | (go_at_call 9; (with_reducible refine (awake04 _ m (HM.out _ hbel)).mono ?_); rintro e w1 ⟨rfl, hb1⟩; replace hbel := belStep hbel hb1; clear hb1))
    go_wp2_with (first | (go_at_call 10; (with_reducible refine (lines_no _ _ _ A m _ (HA.out.later hbel) (HM.out _ hbel) RA.out).mono ?_); rintro e wa ⟨rfl, hba⟩; replace hbel := belStep hbel hba; clear hba) | (go_at_call 11; (with_reducible refine (CRD.out _ hbel).mono ?_); rintro e w' ⟨rfl, rfl⟩))
    go_ret
    exact ⟨rfl, hbel⟩
  · have RA := Lib.hid qa
    have CRD := Lib.hid (fun u (hu : Below w.heap.size w u) => qa ▸ rlex_Readable a la ca A u (HA.out.later hu))
    clear qa
    go_enter Tryd.func3, Tryd.ntmps3
    go_upto_region 3 with (first | (go_at_call 9; (with_reducible refine (awake04 _ m (HM.out _ hbel)).mono ?_); rintro e w1 ⟨rfl, hb1⟩; replace hbel := belStep hbel hb1; clear hb1))
    go_upto_region 4 with (go_at_call 10; (with_reducible refine (lines_of _ _ _ A m _ (HA.out.later hbel) (HM.out _ hbel) RA.out).mono ?_); rintro e wa ⟨⟨ba, na, va, rfl, hra⟩, hba⟩; have HRa := Lib.hid hra; replace hbel := belStep hbel hba; clear hba hra)
    have hw := Below.refl wa.heap.size wa
    go_wp2_with (first | (go_at_call 11; (with_reducible refine (CRD.out _ hbel).mono ?_); rintro e w' ⟨rfl, rfl⟩) | (go_at_call 13; (with_reducible refine (rlex_Lines _ _ _ A _ (HA.out.later hbel) RA.out).mono ?_); rintro e wr ⟨⟨br, nr, vr, rfl, hrr⟩, hbr⟩; have HRr := Lib.hid hrr; have HRb := Lib.hid (HRa.out.later hbr); replace hbel := belStep hbel hbr; clear hbr hrr) | (go_at_call 12; (with_reducible refine (rlex_Same _ _ _ _ _ _ (fieldsF A) _ _ _ HRb.out HRr.out).mono ?_); rintro e ws ⟨rfl, hbs⟩; replace hbel := belStep hbel hbs; clear hbs))
    go_ret
    exact ⟨rfl, hbel⟩

set_option maxRecDepth 100000 in
set_option maxRecDepth 100000 in
theorem lifted (os : Os) (started : os.Started) (H : Type) (enc : TypeId × Value → H) :
    ReturnsInHanded {} Tryd.checked os 3 .any (fun w args => (Rows.lexLinesSpec.pre enc Tryd.prog Tryd.f3 [] false w args ∧ laidMetH Tryd.prog Rows.lexLinesRow.laid w) ∧ sizedMet enc Tryd.prog Tryd.f3 (OpenSpec.ofChange Rows.lexLinesSpec) false w args) (Rows.lexLinesSpec.post enc Tryd.prog Tryd.f3 false true false false) := by
  refine returnsInHanded_of_change_and_shaped (C := Tryd.checked) (X := fun w _ => laidMetH Tryd.prog Rows.lexLinesRow.laid w) (fun _ _ _ hh h => h.of_heap hh) own started (by kernel_rfl) Tryd.func3
    (ChangeSpec.witness_shaped (enc := enc) (C := Tryd.checked) (os := os) (X := fun w _ => laidMetH Tryd.prog Rows.lexLinesRow.laid w) false (World.laidAll Tryd.prog os Rows.lexLinesRow.laid) #[.slice none 0 0] 8 (World.laidAll_os _ _ _) (World.shaped_of_ZipB (by kernel_rfl) (by kernel_rfl)) (by kernel_rfl) (by kernel_rfl) (by kernel_rfl) (by rw [MakeChecks.laidMetH_plain _ _ _ (by kernel_rfl)]; exact laidMet_laidAll _ (by kernel_rfl) (by kernel_rfl))) ?_
  intro W base args ds gs before hval0 hW hL hsh
  rw [MakeChecks.laidMetH_plain _ _ _ (by kernel_rfl)] at hL
  have ht : Env W := env_of hL hsh
  clear hL
  have hval : ∀ (j : Nat) t v, Tryd.f3.params[j]? = some t → args[j]? = some v → Value.okWide Tryd.prog W .any base t v := hval0
  have hW' := hW
  obtain ⟨p, q, hA0, hV, rfl, hfz, hnd⟩ := hW
  have hA : DataW.TrodAll enc Tryd.prog W 0 (fun _ => true) true Tryd.f3.params.toList args.toList ds p := hA0
  rw [Tryd.params3] at hA hval
  obtain ⟨v0, vs0, d0, ds0, p0, q0, hargs, rfl, rfl, h0, r0⟩ := trodAll_cons hA
  obtain ⟨rfl, rfl, rfl⟩ := trodAll_nil r0
  obtain rfl : args = #[v0] := by cases args; simp_all
  obtain ⟨rfl, rfl⟩ := trodVars_none hV
  have k0 := h0
  have lt0 : ∀ x ∈ p0, x.block < W.heap.size := by obtain ⟨m, hm⟩ := k0; exact DataW.trod_lt m _ _ _ hm
  have o0 : Value.okWide Tryd.prog W .any base 22 v0 := hval 0 22 v0 rfl rfl
  obtain ⟨a0, len0, cap0, rfl⟩ := okWide_slice Tryd.underlying22 o0
  obtain ⟨z0, w0⟩ : ∃ zs, Ints .u8 W a0 len0 cap0 zs := ints_of_trod Tryd.underlying22 Tryd.underlying5 (by kernel_rfl) h0
  clear hA0 hval0
  refine (walk a0 len0 cap0 z0 W ht w0).mono fun e W' ⟨he, bel⟩ => ?_
  subst he
  exact ⟨_, rfl, _, _, _, [], _, [], hW', trodAll_mk1 (shut_bool Tryd.underlying4 _), (trodAll_cons_mk (Below.trod laidOut (by kernel_rfl) (of_decide_eq_true (by kernel_rfl)) k0 bel lt0) trodAll_mk0), rfl, bel.frame _, fun h => by cases h⟩

theorem over : Rows.lexLinesRow.holds Tryd.pinned (OpenSpec.ofChange Rows.lexLinesSpec) :=
  OpenClaim.holds_of_wide 3 Tryd.f3 rfl rfl rfl rfl rfl rfl rfl ⟨rfl, rfl, rfl, rfl, rfl⟩ rfl rfl rfl rfl rfl (by kernel_rfl) Tryd.func3 (by kernel_rfl)
    (of_decide_eq_true (by kernel_rfl)) (by unfold Func.isWrapper; first | (rw [if_pos (by decide +kernel)]; kernel_rfl) | (rw [if_neg (by decide +kernel)]; exact ⟨rfl, rfl⟩))
    (fun os started H enc _ => lifted os started H enc)

/-- The statement. -/
theorem proved : Rows.LexLinesCardSaid :=
  Claim7.holds_tied_plain_at .later [] Rows.lexLinesCard.laidKinds true Rows.lexLinesCard.stood.harness false
    over (fun _ h => by cases h) (by kernel_rfl) (fun _ h => by cases h) lexLines_row_tie rfl ⟨rfl, rfl⟩ (by kernel_rfl) rfl
    (fun f fn hf hfn => by
      obtain rfl : f = 3 := Option.some.inj ((show Tryd.prog.funcNamed Rows.lexLinesRow.func = some 3 by kernel_rfl).symm.trans hf) |>.symm
      obtain rfl : fn = Tryd.f3 := (Option.some.inj (Tryd.func3.symm.trans hfn)).symm
      exact ⟨by kernel_rfl, fun j t ht => by
        rw [Tryd.params3] at ht
        have hm : t ∈ [22] := by simpa using Array.mem_of_getElem? ht
        have hall : ([22].all fun u => !Tryd.prog.wantsStandIn u) = true := by kernel_rfl
        exact (show Tryd.prog.wantsStandIn t = false by simpa using List.all_eq_true.1 hall t hm)⟩)
    (by kernel_rfl)
#print axioms proved

end Go.Proofs.YtgmgeefipkfdcaaDoor.lexLines
