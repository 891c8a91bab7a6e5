
/- LexJoins holds for every slice of bytes. -/
import Derived.Test.YtgmgeefipkfdcaaDoorLexRefJ
import Derived.Test.YtgmgeefipkfdcaaDoorLexJoinM
import Derived.Lib.ConvBytes
namespace Go.Proofs.YtgmgeefipkfdcaaDoor.lexJoins
open Go.ChangeShapes Go.WideShapes Go.ChangeAt Go.RowKit
open Go.ChangeMaps (open_string shut_string)
set_option linter.unusedVariables false
set_option linter.unusedSimpArgs false
theorem fields_len (L : List UInt8) : (fieldsF L).length ≤ L.length + 1 := Nat.le_trans (allF_len 1 (linesL L)) (lines_le L).1
theorem conv_bA (x : List UInt8) (w : World) (hx : x.length ≤ 1000000) : ∃ cap W, (convert 9 22 (.string (bA x))).run Tryd.prog w = .ok (.slice (some ⟨w.heap.size, 0, none⟩) x.length cap) W ∧ Ints .u8 W (some ⟨w.heap.size, 0, none⟩) x.length cap (numsL x) ∧ Below w.heap.size w W := by
  have hs : (bA x).size = x.length := bA_size x
  have hrun := Lib.run_convert_string_bytes (P := Tryd.prog) w 9 22 5 (bA x) Tryd.underlying9 Tryd.underlying22 Tryd.underlying5
  rw [hs] at hrun
  refine ⟨_, _, hrun, ⟨⟨by simp [numsL], ?_, ?_, (fun h => by cases h), .inr ⟨_, _, rfl, fun i hi => ?_⟩⟩, fun n hn => ?_⟩, ⟨rfl, rfl, rfl, by rw [Lib.bytesWorld_size]; omega, fun b hb => Lib.bytesWorld_at_old w _ _ b hb⟩⟩
  · exact grownCap_ge _ _ _ _
  · exact grownCap_le_maxLen _ _ _ _ (by unfold maxLen; omega)
  · have hi2 : i < x.length := by simpa [numsL] using hi
    rw [Nat.zero_add, Lib.bytesWorld_cell w _ (bA x) i (by omega), bA_data]
    unfold numsL
    rw [List.getElem?_map, List.getElem?_map, List.getElem?_eq_getElem hi2, List.getD_eq_getElem?_getD, List.getElem?_eq_getElem hi2]
    rfl
  · unfold numsL at hn
    obtain ⟨c, _, rfl⟩ := List.mem_map.1 hn
    exact WalkArith.wf_u8 ⟨by omega, by have := c.toNat_lt; omega⟩
set_option maxRecDepth 100000 in
set_option maxHeartbeats 16000000 in
theorem walk (a : Option Addr) (la ca : Nat) (l1 : List Int) (w : World) (ht : Env w) (h1 : Ints .u8 w a la ca l1) :
    Calls Tryd.prog 5 #[.slice a la ca] w fun e w' => e = .returned (.bool true) ∧ Below w.heap.size w w' := by
  have hw := Below.refl w.heap.size w
  have hbel := hw
  have hb1 := h1.bounds
  obtain ⟨A, rfl, lA⟩ := nums_of_bytes h1
  obtain ⟨m, hm⟩ := ht
  have HM := Lib.hid (keep hm)
  have HA := Lib.hid h1
  have LA := Lib.hid lA
  obtain ⟨_, hb11, hb12⟩ := hb1
  clear h1 hm lA
  by_cases hA : 5000 < la
  · go_enter Tryd.func5, Tryd.ntmps5
    go_wp2_with (first | (go_at_call 9; (with_reducible refine (awake04 _ m (HM.out _ hbel)).mono ?_); rintro e w1 ⟨rfl, hb1⟩; replace hbel := belStep hbel hb1; clear hb1))
    go_ret
    exact ⟨rfl, hbel⟩
  have hnA : ¬ (5000 : Int) < (la : Int) := by omega
  clear hw
  rcases qa : readB A with _ | _
  · have RA := Lib.hid qa
    clear qa
    go_enter Tryd.func5, Tryd.ntmps5
    go_upto_region 3 with (first | (go_at_call 9; (with_reducible refine (awake04 _ m (HM.out _ hbel)).mono ?_); rintro e w1 ⟨rfl, hb1⟩; replace hbel := belStep hbel hb1; clear hb1))
    go_wp2_with (go_at_call 10; (with_reducible refine (lines_no _ _ _ A m _ (HA.out.later hbel) (HM.out _ hbel) RA.out).mono ?_); rintro e wa ⟨rfl, hba⟩; replace hbel := belStep hbel hba; clear hba)
    go_ret
    exact ⟨rfl, hbel⟩
  · have hjr := join_read qa (by rw [LA.out]; omega)
    obtain ⟨hjr1, hjr2⟩ := hjr
    have HAG := Lib.hid (again_fields _ (fields_ok qa))
    have RA := Lib.hid qa
    have HJR := Lib.hid hjr1
    have hfl := fields_len A
    rw [LA.out] at hfl
    clear qa hjr1
    obtain ⟨LL, hLL⟩ : ∃ x, fieldsF A = x := ⟨_, rfl⟩
    have HLL := Lib.hid hLL
    rw [hLL] at HAG HJR hjr2 hfl
    clear hLL
    obtain ⟨MM, hMM⟩ : ∃ x, fieldsF (joinF LL) = x := ⟨_, rfl⟩
    have HMM := Lib.hid hMM
    rw [hMM] at HAG
    clear hMM
    have HAJ := Lib.hid HAG.out.2.1
    have HAE := Lib.hid HAG.out.2.2
    have hML := HAG.out.1
    go_enter Tryd.func5, Tryd.ntmps5
    go_upto_region 3 with (first | (go_at_call 9; (with_reducible refine (awake04 _ m (HM.out _ hbel)).mono ?_); rintro e w1 ⟨rfl, hb1⟩; replace hbel := belStep hbel hb1; clear hb1))
    go_upto_region 4 with (go_at_call 10; (with_reducible refine (lines_of _ _ _ A m _ (HA.out.later hbel) (HM.out _ hbel) RA.out).mono ?_); rintro e wa ⟨⟨ba, na, va, rfl, hra⟩, hba⟩; have HRa := Lib.hid hra; replace hbel := belStep hbel hba; clear hba hra)
    rw [HLL.out]
    rw [HLL.out] at HRa
    have CJ := Lib.hid (lex_Join _ _ _ LL _ wa HRa.out (by omega))
    obtain ⟨J, hJ⟩ : ∃ x, joinF LL = x := ⟨_, rfl⟩
    rw [hJ] at CJ HJR HMM HAJ hjr2
    have HJE := Lib.hid hJ
    clear hJ
    obtain ⟨sj, hsj⟩ : ∃ x, bA J = x := ⟨_, rfl⟩
    rw [hsj] at CJ
    have HSJ := Lib.hid hsj
    clear hsj
    go_upto_region 7 with (go_at_call 14; (with_reducible refine (CJ.out).mono ?_); rintro e wj ⟨rfl, hbj⟩; have HRj := Lib.hid (HRa.out.later hbj); replace hbel := belStep hbel hbj; clear hbj)
    obtain ⟨jc, W2, hrun, hji, hjb⟩ := HSJ.out ▸ conv_bA J wj (by omega)
    have HRk := Lib.hid (HRj.out.later hjb)
    have HJI := Lib.hid hji
    have HJB := Lib.hid (belStep hbel hjb)
    have hzj := hjb.size
    clear hji hjb
    go_upto_region 8 with (go_at_call 10; (with_reducible refine (lines_of _ _ _ J m _ (HJI.out) (HM.out _ HJB.out) HJR.out).mono ?_); rintro e wm ⟨⟨bm, nm, vm, rfl, hrm⟩, hbm⟩; have HRm := Lib.hid hrm; have HRl := Lib.hid (HRk.out.later hbm); have HBM := Lib.hid (belStep HJB.out hbm); clear hbm hrm)
    clear hrun hbel hzj
    rw [HMM.out]
    rw [HMM.out] at HRm
    rw [hML]
    have CM := Lib.hid (fun u (hu : Below wm.heap.size wm u) => lex_Join _ _ _ MM _ u (HRm.out.later hu) (by rw [HAJ.out]; omega))
    have CR := Lib.hid (fun u (hu : Below wm.heap.size wm u) => rlex_Join _ _ _ LL _ u (HRl.out.later hu) (by rw [HJE.out]; omega))
    rw [hML, HAJ.out, HSJ.out] at CM
    rw [HJE.out, HSJ.out] at CR
    have HRM0 := HRm
    rw [hML] at HRm
    obtain ⟨nl, hnl⟩ : ∃ x, LL.length = x := ⟨_, rfl⟩
    rw [hnl]
    rw [hnl] at CM CR hfl
    have HNL := Lib.hid hnl
    clear hnl hML
    have hb := Below.refl wm.heap.size wm
    go_wp2_with (first | (go_at_call 15; (with_reducible refine (CR.out _ hb).mono ?_); rintro e w' ⟨rfl, rfl⟩) | (go_at_call 14; (with_reducible refine (CM.out _ hb).mono ?_); rintro e w5 ⟨rfl, hb5⟩; replace hb := belStep hb hb5; clear hb5))
    have HBW := Lib.hid (belStep HBM.out hb)
    have HRL := Lib.hid (HRl.out.later hb)
    have HRM := Lib.hid (HRm.out.later hb)
    clear hb CM CR HRa HRj HRk CJ
    generalize w5 = W5 at *
    have hb0 := Below.refl W5.heap.size W5
    go_loopg [8] nl (fun g iv wr => ∃ i : Nat, i + g = nl ∧ iv = .int .i64 i ∧ Below W5.heap.size W5 wr)
    case atStart => exact ⟨0, by omega, rfl, hb0⟩
    case round =>
      obtain ⟨i, hig, rfl, hbw⟩ := hrel
      clear hb0
      have HB5 := Lib.hid hbw
      clear hbw
      cases gk with
      | zero =>
        obtain rfl : i = nl := by omega
        have hd : decide ((i : Int) < (i : Int)) = false := decide_eq_false (by omega)
        go_wp2
        go_ret
        exact ⟨rfl, belStep HBW.out HB5.out⟩
      | succ g =>
        have hin : i < nl := by omega
        have hd : decide ((i : Int) < (nl : Int)) = true := decide_eq_true (by omega)
        have hii : (i : Int) < (nl : Int) := by omega
        have hi0 : (0 : Int) ≤ (i : Int) := by omega
        obtain ⟨F, hF⟩ : ∃ F, LL[i]? = some F := ⟨LL[i]'(by rw [HNL.out]; exact hin), List.getElem?_eq_getElem _⟩
        obtain ⟨G, hG, hGt, hGl⟩ := HAE.out i F hF
        have hGF : G.length = F.length := by have h := congrArg List.length hGt; rwa [List.length_map, List.length_map] at h
        obtain ⟨lg, lc, ea, _, _, _, _⟩ := HRL.out.open (by rw [HNL.out]; omega)
        obtain rfl : ba = some ⟨lg, 0, none⟩ := by simpa using (Value.slice.inj ea).1
        clear ea
        have HRM2 := Lib.hid (show RowsF W5 _ (.slice bm MM.length nm) MM vm from by have h := HRM.out; rw [HAG.out.1]; exact h)
        obtain ⟨mg, mc, ea, _, _, _, _⟩ := HRM2.out.open (by rw [HAG.out.1, HNL.out]; omega)
        obtain rfl : bm = some ⟨mg, 0, none⟩ := by simpa using (Value.slice.inj ea).1
        clear ea
        obtain ⟨ra, rn, hrl, hol⟩ := rows_at (HRL.out.later HB5.out) hF
        obtain ⟨sa, sn, hrm2, hom⟩ := rows_at (HRM2.out.later HB5.out) hG
        have HOL := Lib.hid hol
        have HOM := Lib.hid hom
        rw [hGF] at hrm2
        obtain ⟨nf, hnf⟩ : ∃ x, F.length = x := ⟨_, rfl⟩
        have hFl : nf ≤ 9223372036854775807 := by rcases own_shape hol with ⟨_, e⟩ | ⟨g, c, e, h1, h2, h3, h4⟩ <;> omega
        rw [hnf] at hrl hrm2
        have HNF := Lib.hid hnf
        have HGT := Lib.hid hGt
        have HGL := Lib.hid hGl
        have x := keep hrl
        have y := keep hrm2
        clear hF hG hGt hGl hGF hol hom hrl hrm2 hnf
        have hbel : Below wr.heap.size wr wr := Below.refl _ _
        go_wp2
        have kk := fun d os => belStep hbel (below_regrown _ d os)
        refine wp_region_quiet_below (by kernel_rfl) (by kernel_rfl) ?_
        repeat ((with_reducible refine wpQuiet_step (fun K hK => ?_)); go_simp; (try (rw [if_neg]; rotate_left; · decide)); first | ((with_reducible refine hK _ ?_); clear hK K) | (apply Exists.intro; refine ⟨fun _ => ?_, hK _ ?_⟩; (fail); clear hK K))
        refine wpQuiet_nil (fun w1 hw1 => ?_)
        replace hbel := belStep hbel (bel_of_class hw1)
        clear hw1 kk
        go_wp2
        have x2 := keepOn x hbel
        have y2 := keepOn y hbel
        have HX2 := Lib.hid hbel
        clear x y hbel
        generalize w1 = W6 at *
        have hb0 := Below.refl W6.heap.size W6
        go_loopg [9] nf (fun g2 kv wr => ∃ k : Nat, k + g2 = nf ∧ kv = .int .i64 k ∧ Below W6.heap.size W6 wr)
        case atStart => exact ⟨0, by omega, rfl, hb0⟩
        case round =>
          obtain ⟨k, hkg, rfl, hbw⟩ := hrel
          clear hb0
          have HB7 := Lib.hid hbw
          have x := keepOn x2 hbw
          have y := keepOn y2 hbw
          clear hbw
          have hbel : Below wr.heap.size wr wr := Below.refl _ _
          cases gk with
          | zero =>
            obtain rfl : k = nf := by omega
            have hdk : decide ((k : Int) < (k : Int)) = false := decide_eq_false (by omega)
            go_wp2
            go_roundg g
            case rel => exact ⟨i + 1, by omega, by push_cast; rfl, belStep (belStep HB5.out HX2.out) HB7.out⟩
            case measure => omega
          | succ g2 =>
            have hkn : k < nf := by omega
            have hdk : decide ((k : Int) < (nf : Int)) = true := decide_eq_true (by omega)
            have hki : (k : Int) < (nf : Int) := by omega
            have hk0 : (0 : Int) ≤ (k : Int) := by omega
            obtain ⟨f, hf⟩ : ∃ f, F[k]? = some f := ⟨F[k]'(by rw [HNF.out]; exact hkn), List.getElem?_eq_getElem _⟩
            obtain ⟨h, hh, hht⟩ : ∃ h, G[k]? = some h ∧ h.text = f.text := by have e := congrArg (fun l => l[k]?) HGT.out; simp only [List.getElem?_map, hf, Option.map_some] at e; cases hg : G[k]? with | none => rw [hg] at e; cases e | some h => rw [hg] at e; exact ⟨h, rfl, by simpa using e⟩
            have hhl := HGL.out h (List.mem_of_getElem? hh)
            obtain ⟨fg, rfl, _, _, _, f0, f1, f2⟩ := fld_at HOL.out hf
            obtain ⟨mg2, rfl, _, _, _, m0, m1, m2⟩ := fld_at HOM.out hh
            rw [hht] at m0
            rw [hhl, show (1 : Int) + (i : Int) = (i : Int) + 1 by omega] at m1
            generalize bA f.text = tx at *
            have c0 := keepOn (keepOn (keep f0) HX2.out) HB7.out
            have d0 := keepOn (keepOn (keep m0) HX2.out) HB7.out
            have d1 := keepOn (keepOn (keep m1) HX2.out) HB7.out
            clear f0 f1 f2 m0 m1 m2 hh hf hht hhl
            have hiw : IntKind.i64.wrap ((i : Int) + 1) = (i : Int) + 1 := IntWalk.i64_in _ (by have := HNL.out; omega)
            go_wp2
            have kk := fun d os => belStep hbel (below_regrown _ d os)
            refine wp_region_quiet_below (by kernel_rfl) (by kernel_rfl) ?_
            repeat ((with_reducible refine wpQuiet_step (fun K hK => ?_)); go_simp; (try (rw [if_neg]; rotate_left; · decide)); first | ((with_reducible refine hK _ ?_); clear hK K) | (apply Exists.intro; refine ⟨fun _ => ?_, hK _ ?_⟩; (fail); clear hK K))
            refine wpQuiet_nil (fun w1 hw1 => ?_)
            replace hbel := belStep hbel (bel_of_class hw1)
            clear hw1 kk
            go_wp2
            go_roundg g2
            case rel => exact ⟨k + 1, by omega, by push_cast; rfl, belStep HB7.out hbel⟩
            case measure => omega

set_option maxRecDepth 100000 in
set_option maxRecDepth 100000 in
theorem lifted (os : Os) (started : os.Started) (H : Type) (enc : TypeId × Value → H) :
    ReturnsInHanded {} Tryd.checked os 5 .any (fun w args => (Rows.lexJoinsSpec.pre enc Tryd.prog Tryd.f5 [] false w args ∧ laidMetH Tryd.prog Rows.lexJoinsRow.laid w) ∧ sizedMet enc Tryd.prog Tryd.f5 (OpenSpec.ofChange Rows.lexJoinsSpec) false w args) (Rows.lexJoinsSpec.post enc Tryd.prog Tryd.f5 false true false false) := by
  refine returnsInHanded_of_change_and_shaped (C := Tryd.checked) (X := fun w _ => laidMetH Tryd.prog Rows.lexJoinsRow.laid w) (fun _ _ _ hh h => h.of_heap hh) own started (by kernel_rfl) Tryd.func5
    (ChangeSpec.witness_shaped (enc := enc) (C := Tryd.checked) (os := os) (X := fun w _ => laidMetH Tryd.prog Rows.lexJoinsRow.laid w) false (World.laidAll Tryd.prog os Rows.lexJoinsRow.laid) #[.slice none 0 0] 8 (World.laidAll_os _ _ _) (World.shaped_of_ZipB (by kernel_rfl) (by kernel_rfl)) (by kernel_rfl) (by kernel_rfl) (by kernel_rfl) (by rw [MakeChecks.laidMetH_plain _ _ _ (by kernel_rfl)]; exact laidMet_laidAll _ (by kernel_rfl) (by kernel_rfl))) ?_
  intro W base args ds gs before hval0 hW hL hsh
  rw [MakeChecks.laidMetH_plain _ _ _ (by kernel_rfl)] at hL
  have ht : Env W := env_of hL hsh
  clear hL
  have hval : ∀ (j : Nat) t v, Tryd.f5.params[j]? = some t → args[j]? = some v → Value.okWide Tryd.prog W .any base t v := hval0
  have hW' := hW
  obtain ⟨p, q, hA0, hV, rfl, hfz, hnd⟩ := hW
  have hA : DataW.TrodAll enc Tryd.prog W 0 (fun _ => true) true Tryd.f5.params.toList args.toList ds p := hA0
  rw [Tryd.params5] at hA hval
  obtain ⟨v0, vs0, d0, ds0, p0, q0, hargs, rfl, rfl, h0, r0⟩ := trodAll_cons hA
  obtain ⟨rfl, rfl, rfl⟩ := trodAll_nil r0
  obtain rfl : args = #[v0] := by cases args; simp_all
  obtain ⟨rfl, rfl⟩ := trodVars_none hV
  have k0 := h0
  have lt0 : ∀ x ∈ p0, x.block < W.heap.size := by obtain ⟨m, hm⟩ := k0; exact DataW.trod_lt m _ _ _ hm
  have o0 : Value.okWide Tryd.prog W .any base 22 v0 := hval 0 22 v0 rfl rfl
  obtain ⟨a0, len0, cap0, rfl⟩ := okWide_slice Tryd.underlying22 o0
  obtain ⟨z0, w0⟩ : ∃ zs, Ints .u8 W a0 len0 cap0 zs := ints_of_trod Tryd.underlying22 Tryd.underlying5 (by kernel_rfl) h0
  clear hA0 hval0
  refine (walk a0 len0 cap0 z0 W ht w0).mono fun e W' ⟨he, bel⟩ => ?_
  subst he
  exact ⟨_, rfl, _, _, _, [], _, [], hW', trodAll_mk1 (shut_bool Tryd.underlying4 _), (trodAll_cons_mk (Below.trod laidOut (by kernel_rfl) (of_decide_eq_true (by kernel_rfl)) k0 bel lt0) trodAll_mk0), rfl, bel.frame _, fun h => by cases h⟩

theorem over : Rows.lexJoinsRow.holds Tryd.pinned (OpenSpec.ofChange Rows.lexJoinsSpec) :=
  OpenClaim.holds_of_wide 5 Tryd.f5 rfl rfl rfl rfl rfl rfl rfl ⟨rfl, rfl, rfl, rfl, rfl⟩ rfl rfl rfl rfl rfl (by kernel_rfl) Tryd.func5 (by kernel_rfl)
    (of_decide_eq_true (by kernel_rfl)) (by unfold Func.isWrapper; first | (rw [if_pos (by decide +kernel)]; kernel_rfl) | (rw [if_neg (by decide +kernel)]; exact ⟨rfl, rfl⟩))
    (fun os started H enc _ => lifted os started H enc)

/-- The statement. -/
theorem proved : Rows.LexJoinsCardSaid :=
  Claim7.holds_tied_plain_at .later [] Rows.lexJoinsCard.laidKinds true Rows.lexJoinsCard.stood.harness false
    over (fun _ h => by cases h) (by kernel_rfl) (fun _ h => by cases h) lexJoins_row_tie rfl ⟨rfl, rfl⟩ (by kernel_rfl) rfl
    (fun f fn hf hfn => by
      obtain rfl : f = 5 := Option.some.inj ((show Tryd.prog.funcNamed Rows.lexJoinsRow.func = some 5 by kernel_rfl).symm.trans hf) |>.symm
      obtain rfl : fn = Tryd.f5 := (Option.some.inj (Tryd.func5.symm.trans hfn)).symm
      exact ⟨by kernel_rfl, fun j t ht => by
        rw [Tryd.params5] at ht
        have hm : t ∈ [22] := by simpa using Array.mem_of_getElem? ht
        have hall : ([22].all fun u => !Tryd.prog.wantsStandIn u) = true := by kernel_rfl
        exact (show Tryd.prog.wantsStandIn t = false by simpa using List.all_eq_true.1 hall t hm)⟩)
    (by kernel_rfl)
#print axioms proved

end Go.Proofs.YtgmgeefipkfdcaaDoor.lexJoins
