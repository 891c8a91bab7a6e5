
/- LexKeeps holds for every slice of bytes. -/
import Derived.Test.YtgmgeefipkfdcaaDoorLexRefL
import Derived.Test.YtgmgeefipkfdcaaDoorLexSame
namespace Go.Proofs.YtgmgeefipkfdcaaDoor.lexKeeps
open Go.ChangeShapes Go.WideShapes Go.ChangeAt Go.RowKit
open Go.ChangeMaps (open_string shut_string)
set_option linter.unusedVariables false
set_option linter.unusedSimpArgs false
theorem nums_wf (L : List UInt8) : ∀ n ∈ numsL L, (Lit.int .u8 n).wf = true := fun n hn => by
  unfold numsL at hn
  obtain ⟨c, _, rfl⟩ := List.mem_map.1 hn
  exact WalkArith.wf_u8 ⟨by omega, by have := c.toNat_lt; omega⟩
set_option maxRecDepth 100000 in
set_option maxHeartbeats 16000000 in
theorem walk (a : Option Addr) (la ca : Nat) (l1 : List Int) (w : World) (ht : Env w) (h1 : Ints .u8 w a la ca l1) :
    Calls Tryd.prog 7 #[.slice a la ca] w fun e w' => e = .returned (.bool true) ∧ Below w.heap.size w w' := by
  have hw := Below.refl w.heap.size w
  have hbel := hw
  have hb1 := h1.bounds
  obtain ⟨A, rfl, lA⟩ := nums_of_bytes h1
  obtain ⟨m, hm⟩ := ht
  have HM := Lib.hid (keep hm)
  have HA := Lib.hid h1
  have HNA := Lib.hid hb1.1
  have LA := Lib.hid lA
  obtain ⟨_, hb11, hb12⟩ := hb1
  clear h1 hm lA
  by_cases hA : 5000 < la
  · go_enter Tryd.func7, Tryd.ntmps7
    go_wp2_with (first | (go_at_call 9; (with_reducible refine (awake04 _ m (HM.out _ hbel)).mono ?_); rintro e w1 ⟨rfl, hb1⟩; replace hbel := belStep hbel hb1; clear hb1))
    go_ret
    exact ⟨rfl, hbel⟩
  have hnA : ¬ (5000 : Int) < (la : Int) := by omega
  clear hw
  rcases qa : readB A with _ | _
  · have RA := Lib.hid qa
    clear qa
    go_enter Tryd.func7, Tryd.ntmps7
    go_upto_region 3 with (first | (go_at_call 9; (with_reducible refine (awake04 _ m (HM.out _ hbel)).mono ?_); rintro e w1 ⟨rfl, hb1⟩; replace hbel := belStep hbel hb1; clear hb1))
    go_wp2_with (at_builtin; refine wpList_app_ints rfl _ _ 22 rfl w1.heap.size 5 .u8 1 Tryd.underlying22 bld_byte _ _ rfl (own_new w1 w1.heap.size 5 .u8 (Nat.le_refl _)) _ la ca (numsL A) rfl (HA.out.later (belAlloc hbel _)) ?c1 ?c2 ?c3 ?_)
    case c1 => simp only [maxLen, List.length_nil]; omega
    case c2 => simp only [List.length_nil]; omega
    case c3 => simp
    intro v1 w2 ho1 hb1 hg1
    try rw [List.nil_append] at ho1
    have h1 : Below w1.heap.size w1 w2 := (belAlloc (Below.refl _ _) _).trans hb1
    have hz1 := hbel.size
    replace hbel := belStep hbel h1
    obtain ⟨xa, xc, rfl, hia⟩ := ints_of_own ho1 (nums_wf _)
    rw [HNA.out] at hia ⊢
    have HX := Lib.hid hia
    have HO := Lib.hid (show OwnI w2 w1.heap.size 5 .u8 (.slice xa la xc) (numsL A) from HNA.out ▸ ho1)
    have HG := Lib.hid (fun q hq => World.ownsRow.lt HO.out q hq)
    clear ho1 hb1 hg1 hia h1
    go_upto_region 5 with (go_at_call 10; (with_reducible refine (lines_no _ _ _ A m _ HX.out (HM.out _ hbel) RA.out).mono ?_); rintro e wl ⟨rfl, hbl⟩; have HBL := Lib.hid hbl; replace hbel := belStep hbel hbl; clear hbl)
    have hv1 := conv_str (HX.out.later HBL.out)
    have hv2 := conv_str (HA.out.later hbel)
    generalize strOfNums (numsL A) = tx at *
    have HOL := Lib.hid (show OwnI wl w1.heap.size 5 .u8 (.slice xa la xc) (numsL A) from OwnR.later HO.out HBL.out)
    have HBE := Lib.hid hbel
    go_wp2
    clear hv1 hv2 hbel
    go_loopg [6] la (fun g iv wr => ∃ (i : Nat) (z : List Int), i + g = la ∧ iv = .int .i64 i ∧ Hid (z.length = la) ∧ Hid (OwnI wr w1.heap.size 5 .u8 (.slice xa la xc) z) ∧ Hid (RowsF wr w2.heap.size (.slice none 0 0) ([] : List (List FldV)) []) ∧ Below w.heap.size w wr)
    case atStart => exact ⟨0, numsL A, by omega, rfl, HNA, HOL, Lib.hid (RowsF.nil _ _), HBE.out⟩
    case round =>
      obtain ⟨i, z, hig, rfl, HZ, HW, HRW, hbel⟩ := hrel
      cases gk with
      | zero =>
        obtain rfl : i = la := by omega
        have hd : decide ((i : Int) < (i : Int)) = false := decide_eq_false (by omega)
        go_wp2
        go_ret
        exact ⟨rfl, hbel⟩
      | succ g =>
        have hil : i < la := by omega
        have hd : decide ((i : Int) < (la : Int)) = true := decide_eq_true (by omega)
        have hii : (i : Int) < (la : Int) := by omega
        have hi0 : (0 : Int) ≤ (i : Int) := by omega
        obtain ⟨gx, ex, hgx1, hgx2⟩ : ∃ gx, xa = some ⟨gx, 0, none⟩ ∧ w1.heap.size ≤ gx ∧ gx < w2.heap.size := (own_shape HO.out).elim (fun h => absurd h.2 (by rw [HNA.out]; omega)) (fun ⟨q, c, e, k1, k2, _, _⟩ => ⟨q, (Value.slice.inj e).1, k1, k2⟩)
        subst ex
        have hown : OwnR wr w1.heap.size 5 1 (.slice (some ⟨gx, 0, none⟩) la xc) la (z.map (Value.int .u8)) := HZ.out ▸ HW.out
        have hfr := World.ownsRow.frozenAt hown
        have hce : wr.cell? ⟨gx, i, none⟩ = some (.int .u8 (z[i]'(by rw [HZ.out]; exact hil))) := by rw [World.ownsRow.cellAt hown i (by omega), List.getElem?_map, List.getElem?_eq_getElem (by rw [HZ.out]; exact hil)]; rfl
        have HW2 := Lib.hid (OwnI.set HZ.out.symm HW.out i 33)
        have HR2 := Lib.hid (show RowsF (wr.setCell ⟨gx, i, none⟩ (.int .u8 33)) w2.heap.size (.slice none 0 0) ([] : List (List FldV)) [] from ⟨OwnR.setCell HRW.out.out hgx2 _, fun i F u k1 k2 => OwnR.setCell (HRW.out.inn i F u k1 k2) hgx2 _, HRW.out.sep⟩)
        have HB2 := Lib.hid (belSet hbel ⟨gx, i, none⟩ (.int .u8 33) (by show w.heap.size ≤ gx; omega))
        have HZ2 := Lib.hid (show (z.set i 33).length = la by rw [List.length_set]; exact HZ.out)
        clear hown
        go_wp2
        go_roundg g
        case rel => exact ⟨i + 1, z.set i 33, by omega, by push_cast; rfl, HZ2, HW2, HR2, HB2.out⟩
        case measure => omega
  · have RA := Lib.hid qa
    clear qa
    go_enter Tryd.func7, Tryd.ntmps7
    go_upto_region 3 with (first | (go_at_call 9; (with_reducible refine (awake04 _ m (HM.out _ hbel)).mono ?_); rintro e w1 ⟨rfl, hb1⟩; replace hbel := belStep hbel hb1; clear hb1))
    go_wp2_with (at_builtin; refine wpList_app_ints rfl _ _ 22 rfl w1.heap.size 5 .u8 1 Tryd.underlying22 bld_byte _ _ rfl (own_new w1 w1.heap.size 5 .u8 (Nat.le_refl _)) _ la ca (numsL A) rfl (HA.out.later (belAlloc hbel _)) ?c1 ?c2 ?c3 ?_)
    case c1 => simp only [maxLen, List.length_nil]; omega
    case c2 => simp only [List.length_nil]; omega
    case c3 => simp
    intro v1 w2 ho1 hb1 hg1
    try rw [List.nil_append] at ho1
    have h1 : Below w1.heap.size w1 w2 := (belAlloc (Below.refl _ _) _).trans hb1
    have hz1 := hbel.size
    replace hbel := belStep hbel h1
    obtain ⟨xa, xc, rfl, hia⟩ := ints_of_own ho1 (nums_wf _)
    rw [HNA.out] at hia ⊢
    have HX := Lib.hid hia
    have HO := Lib.hid (show OwnI w2 w1.heap.size 5 .u8 (.slice xa la xc) (numsL A) from HNA.out ▸ ho1)
    have HG := Lib.hid (fun q hq => World.ownsRow.lt HO.out q hq)
    clear ho1 hb1 hg1 hia h1
    go_upto_region 5 with (go_at_call 10; (with_reducible refine (lines_of _ _ _ A m _ HX.out (HM.out _ hbel) RA.out).mono ?_); rintro e wl ⟨⟨bl, nl, vl, rfl, hrl⟩, hbl⟩; have HR := Lib.hid hrl; have HBL := Lib.hid hbl; replace hbel := belStep hbel hbl; clear hbl hrl)
    have hv1 := conv_str (HX.out.later HBL.out)
    have hv2 := conv_str (HA.out.later hbel)
    generalize strOfNums (numsL A) = tx at *
    have HOL := Lib.hid (show OwnI wl w1.heap.size 5 .u8 (.slice xa la xc) (numsL A) from OwnR.later HO.out HBL.out)
    have HBE := Lib.hid hbel
    go_wp2
    clear hv1 hv2 hbel
    go_loopg [6] la (fun g iv wr => ∃ (i : Nat) (z : List Int), i + g = la ∧ iv = .int .i64 i ∧ Hid (z.length = la) ∧ Hid (OwnI wr w1.heap.size 5 .u8 (.slice xa la xc) z) ∧ Hid (RowsF wr w2.heap.size (.slice bl (fieldsF A).length nl) (fieldsF A) vl) ∧ Below w.heap.size w wr)
    case atStart => exact ⟨0, numsL A, by omega, rfl, HNA, HOL, HR, HBE.out⟩
    case round =>
      obtain ⟨i, z, hig, rfl, HZ, HW, HRW, hbel⟩ := hrel
      cases gk with
      | zero =>
        obtain rfl : i = la := by omega
        have hd : decide ((i : Int) < (i : Int)) = false := decide_eq_false (by omega)
        go_wp2_with (first | (go_at_call 13; (with_reducible refine (rlex_Lines _ _ _ A _ (HA.out.later hbel) RA.out).mono ?_); rintro e wr3 ⟨⟨br, nr, vr, rfl, hrr⟩, hbr⟩; have HRr := Lib.hid hrr; have HRb := Lib.hid (HRW.out.later hbr); replace hbel := belStep hbel hbr; clear hbr hrr) | (go_at_call 12; (with_reducible refine (rlex_Same _ _ _ _ _ _ (fieldsF A) _ _ _ HRb.out HRr.out).mono ?_); rintro e ws ⟨rfl, hbs⟩; replace hbel := belStep hbel hbs; clear hbs))
        go_ret
        exact ⟨rfl, hbel⟩
      | succ g =>
        have hil : i < la := by omega
        have hd : decide ((i : Int) < (la : Int)) = true := decide_eq_true (by omega)
        have hii : (i : Int) < (la : Int) := by omega
        have hi0 : (0 : Int) ≤ (i : Int) := by omega
        obtain ⟨gx, ex, hgx1, hgx2⟩ : ∃ gx, xa = some ⟨gx, 0, none⟩ ∧ w1.heap.size ≤ gx ∧ gx < w2.heap.size := (own_shape HO.out).elim (fun h => absurd h.2 (by rw [HNA.out]; omega)) (fun ⟨q, c, e, k1, k2, _, _⟩ => ⟨q, (Value.slice.inj e).1, k1, k2⟩)
        subst ex
        have hown : OwnR wr w1.heap.size 5 1 (.slice (some ⟨gx, 0, none⟩) la xc) la (z.map (Value.int .u8)) := HZ.out ▸ HW.out
        have hfr := World.ownsRow.frozenAt hown
        have hce : wr.cell? ⟨gx, i, none⟩ = some (.int .u8 (z[i]'(by rw [HZ.out]; exact hil))) := by rw [World.ownsRow.cellAt hown i (by omega), List.getElem?_map, List.getElem?_eq_getElem (by rw [HZ.out]; exact hil)]; rfl
        have HW2 := Lib.hid (OwnI.set HZ.out.symm HW.out i 33)
        have HR2 := Lib.hid (show RowsF (wr.setCell ⟨gx, i, none⟩ (.int .u8 33)) w2.heap.size (.slice bl (fieldsF A).length nl) (fieldsF A) vl from ⟨OwnR.setCell HRW.out.out hgx2 _, fun i F u k1 k2 => OwnR.setCell (HRW.out.inn i F u k1 k2) hgx2 _, HRW.out.sep⟩)
        have HB2 := Lib.hid (belSet hbel ⟨gx, i, none⟩ (.int .u8 33) (by show w.heap.size ≤ gx; omega))
        have HZ2 := Lib.hid (show (z.set i 33).length = la by rw [List.length_set]; exact HZ.out)
        clear hown
        go_wp2
        go_roundg g
        case rel => exact ⟨i + 1, z.set i 33, by omega, by push_cast; rfl, HZ2, HW2, HR2, HB2.out⟩
        case measure => omega

set_option maxRecDepth 100000 in
set_option maxRecDepth 100000 in
theorem lifted (os : Os) (started : os.Started) (H : Type) (enc : TypeId × Value → H) :
    ReturnsInHanded {} Tryd.checked os 7 .any (fun w args => (Rows.lexKeepsSpec.pre enc Tryd.prog Tryd.f7 [] false w args ∧ laidMetH Tryd.prog Rows.lexKeepsRow.laid w) ∧ sizedMet enc Tryd.prog Tryd.f7 (OpenSpec.ofChange Rows.lexKeepsSpec) false w args) (Rows.lexKeepsSpec.post enc Tryd.prog Tryd.f7 false true false false) := by
  refine returnsInHanded_of_change_and_shaped (C := Tryd.checked) (X := fun w _ => laidMetH Tryd.prog Rows.lexKeepsRow.laid w) (fun _ _ _ hh h => h.of_heap hh) own started (by kernel_rfl) Tryd.func7
    (ChangeSpec.witness_shaped (enc := enc) (C := Tryd.checked) (os := os) (X := fun w _ => laidMetH Tryd.prog Rows.lexKeepsRow.laid w) false (World.laidAll Tryd.prog os Rows.lexKeepsRow.laid) #[.slice none 0 0] 8 (World.laidAll_os _ _ _) (World.shaped_of_ZipB (by kernel_rfl) (by kernel_rfl)) (by kernel_rfl) (by kernel_rfl) (by kernel_rfl) (by rw [MakeChecks.laidMetH_plain _ _ _ (by kernel_rfl)]; exact laidMet_laidAll _ (by kernel_rfl) (by kernel_rfl))) ?_
  intro W base args ds gs before hval0 hW hL hsh
  rw [MakeChecks.laidMetH_plain _ _ _ (by kernel_rfl)] at hL
  have ht : Env W := env_of hL hsh
  clear hL
  have hval : ∀ (j : Nat) t v, Tryd.f7.params[j]? = some t → args[j]? = some v → Value.okWide Tryd.prog W .any base t v := hval0
  have hW' := hW
  obtain ⟨p, q, hA0, hV, rfl, hfz, hnd⟩ := hW
  have hA : DataW.TrodAll enc Tryd.prog W 0 (fun _ => true) true Tryd.f7.params.toList args.toList ds p := hA0
  rw [Tryd.params7] at hA hval
  obtain ⟨v0, vs0, d0, ds0, p0, q0, hargs, rfl, rfl, h0, r0⟩ := trodAll_cons hA
  obtain ⟨rfl, rfl, rfl⟩ := trodAll_nil r0
  obtain rfl : args = #[v0] := by cases args; simp_all
  obtain ⟨rfl, rfl⟩ := trodVars_none hV
  have k0 := h0
  have lt0 : ∀ x ∈ p0, x.block < W.heap.size := by obtain ⟨m, hm⟩ := k0; exact DataW.trod_lt m _ _ _ hm
  have o0 : Value.okWide Tryd.prog W .any base 22 v0 := hval 0 22 v0 rfl rfl
  obtain ⟨a0, len0, cap0, rfl⟩ := okWide_slice Tryd.underlying22 o0
  obtain ⟨z0, w0⟩ : ∃ zs, Ints .u8 W a0 len0 cap0 zs := ints_of_trod Tryd.underlying22 Tryd.underlying5 (by kernel_rfl) h0
  clear hA0 hval0
  refine (walk a0 len0 cap0 z0 W ht w0).mono fun e W' ⟨he, bel⟩ => ?_
  subst he
  exact ⟨_, rfl, _, _, _, [], _, [], hW', trodAll_mk1 (shut_bool Tryd.underlying4 _), (trodAll_cons_mk (Below.trod laidOut (by kernel_rfl) (of_decide_eq_true (by kernel_rfl)) k0 bel lt0) trodAll_mk0), rfl, bel.frame _, fun h => by cases h⟩

theorem over : Rows.lexKeepsRow.holds Tryd.pinned (OpenSpec.ofChange Rows.lexKeepsSpec) :=
  OpenClaim.holds_of_wide 7 Tryd.f7 rfl rfl rfl rfl rfl rfl rfl ⟨rfl, rfl, rfl, rfl, rfl⟩ rfl rfl rfl rfl rfl (by kernel_rfl) Tryd.func7 (by kernel_rfl)
    (of_decide_eq_true (by kernel_rfl)) (by unfold Func.isWrapper; first | (rw [if_pos (by decide +kernel)]; kernel_rfl) | (rw [if_neg (by decide +kernel)]; exact ⟨rfl, rfl⟩))
    (fun os started H enc _ => lifted os started H enc)

/-- The statement. -/
theorem proved : Rows.LexKeepsCardSaid :=
  Claim7.holds_tied_plain_at .later [] Rows.lexKeepsCard.laidKinds true Rows.lexKeepsCard.stood.harness false
    over (fun _ h => by cases h) (by kernel_rfl) (fun _ h => by cases h) lexKeeps_row_tie rfl ⟨rfl, rfl⟩ (by kernel_rfl) rfl
    (fun f fn hf hfn => by
      obtain rfl : f = 7 := Option.some.inj ((show Tryd.prog.funcNamed Rows.lexKeepsRow.func = some 7 by kernel_rfl).symm.trans hf) |>.symm
      obtain rfl : fn = Tryd.f7 := (Option.some.inj (Tryd.func7.symm.trans hfn)).symm
      exact ⟨by kernel_rfl, fun j t ht => by
        rw [Tryd.params7] at ht
        have hm : t ∈ [22] := by simpa using Array.mem_of_getElem? ht
        have hall : ([22].all fun u => !Tryd.prog.wantsStandIn u) = true := by kernel_rfl
        exact (show Tryd.prog.wantsStandIn t = false by simpa using List.all_eq_true.1 hall t hm)⟩)
    (by kernel_rfl)
#print axioms proved

end Go.Proofs.YtgmgeefipkfdcaaDoor.lexKeeps
