/- QuantUnits holds for every number and every place of a unit. No conditions but that the library's tables lie as its own text lays them. -/
import Derived.Test.YtiaemcejgjobiaaDoorQuantLaws
namespace Go.Proofs.YtiaemcejgjobiaaDoor.quantUnits
open Go.ChangeShapes Go.WideShapes Go.ChangeAt Go.RowKit
open Go.ChangeMaps (open_string shut_string)
set_option linter.unusedVariables false
set_option linter.unusedSimpArgs false

set_option maxRecDepth 100000 in
set_option maxHeartbeats 8000000 in
theorem walk (n c : Int) (W : World) (ht : Tab W) (hn : 0 ≤ n ∧ n ≤ 4294967295) (hc : 0 ≤ c ∧ c ≤ 255) : Calls Tryd.prog 5 #[.int .u32 n, .int .u8 c] W fun e w' => e = .returned (.bool true) ∧ Below W.heap.size W w' := by
  have hbel : Below W.heap.size W W := Below.refl _ _
  have CA := Lib.hid (fun v (hv : Below W.heap.size W v) => awake05 v (ht.later hv))
  clear ht
  obtain ⟨hn1, hn2⟩ := hn
  obtain ⟨hc1, hc2⟩ := hc
  obtain ⟨q, hq⟩ : ∃ d : Nat, (c % 8) = d := ⟨(c % 8).toNat, by omega⟩
  have hq8 : q < 8 := by omega
  obtain ⟨m, hm⟩ : ∃ m : Int, n % 8388608 = m := ⟨_, rfl⟩
  have hm0 : 0 ≤ m ∧ m < 8388608 := by omega
  obtain ⟨hm1, hm2⟩ := hm0
  have hub := unitP_bd q hq8
  have CD := Lib.hid (fun v => Digits_any n hn1 (by omega) v)
  have CE := Lib.hid (fun v => Digits_any m hm1 (by omega) v)
  have R1 := fun v => read_dd n.toNat (by omega) q hq8 v
  have R2 := fun v => read_d n.toNat (by omega) v
  have R3 := fun v => read_dd n.toNat (by omega) 0 (by omega) v
  have R4 := fun v => read_dd m.toNat (by omega) q hq8 v
  have hxz := satMul_le n (unitP q) (unitP 0) hn1 (by omega) (unitP_top q hq8)
  have CU := Lib.hid (fun v => (nmB_list q ▸ unit_name hq8 : unitL (nmB q).toList = unitP q) ▸ quant_Unit (nmB q) v)
  have hmu0 : 0 ≤ m * unitP q := Int.mul_nonneg hm1 (by omega)
  have hmu1 : m * unitP q ≤ 9223372036854775807 := by
    have h1 := Int.mul_le_mul_of_nonneg_left hub.2 hm1
    omega
  have hme : satMul m (unitP q) = m * unitP q := by
    unfold satMul
    rw [Int.max_eq_left hm1, Int.max_eq_left (show (0 : Int) ≤ unitP q by omega)]; omega
  rw [Int.toNat_of_nonneg hn1] at R1 R2 R3
  rw [Int.toNat_of_nonneg hm1, hme] at R4
  have z1 := ddB_size n.toNat (by omega)
  have z2 := ddB_size m.toNat (by omega)
  have z3 := nmB_size q
  have z4 := nmB_size 0
  generalize hx : satMul n (unitP q) = x at *
  generalize hz : satMul n (unitP 0) = z at *
  generalize hu : unitP q = u at *
  generalize hd1 : ddB n.toNat = d1 at *
  generalize hd2 : ddB m.toNat = d2 at *
  have H1 := Lib.hid R1
  have H2 := Lib.hid R2
  have H3 := Lib.hid R3
  have H4 := Lib.hid R4
  clear R1 R2 R3 R4 hx hz hu hd1 hd2 hme
  have HQ := Lib.hid hq
  have hqq : c % 8 = (q : Int) := hq
  have HMM := Lib.hid hm
  clear hq hm
  go_enter Tryd.func5, Tryd.ntmps5
  go_wp2_with (first | (go_at_call 12; (with_reducible refine (CA.out _ hbel).mono ?_); rintro e w1 ⟨rfl, hb1⟩; replace hbel := belStep hbel hb1; clear hb1) | (go_at_call 19; (with_reducible refine (quant_Units _).mono ?_); rintro e w2 ⟨rfl, hb2, hbel2⟩; replace hbel := belStep hbel hbel2; clear hbel2; generalize w1.heap.size = M1 at *) | (go_at_call 20; (with_reducible refine (ref_Names _).mono ?_); rintro e w3 ⟨rfl, hb3, hbel3⟩; replace hbel := belStep hbel hbel3; replace hb2 := hb2.later hbel3; clear hbel3; generalize w2.heap.size = M2 at *))
  clear hqq
  go_loopw [8] (fun i wr => ∃ k : Nat, k ≤ 8 ∧ i = .int .i64 k ∧ Below w3.heap.size w3 wr) (fun i _ => 8 - (intOf i).toNat)
  case atStart => exact ⟨0, Nat.zero_le _, rfl, Below.refl _ _⟩
  case round =>
    obtain ⟨k, hk, rfl, hbr⟩ := hrel
    have hw := hbel
    clear hbel
    have hbel : Below wr.heap.size wr wr := Below.refl _ _
    have HB2 := Lib.hid (hb2.later hbr)
    have HB3 := Lib.hid (hb3.later hbr)
    by_cases hlt : k < 8
    · have x0 := keep (HB2.out.cell (nmC_at hlt))
      have y0 := keep (HB3.out.cell (nmC_at hlt))
      have hq1 : ((nmB k).toList != (nmB k).toList) = false := by simp
      have CUk := fun v => (nmB_list k ▸ unit_name hlt : unitL (nmB k).toList = unitP k) ▸ quant_Unit (nmB k) v
      have CVk := fun v => (nmB_list k ▸ unit_name hlt : unitL (nmB k).toList = unitP k) ▸ ref_Unit (nmB k) v
      have hd8 : decide ((k : Int) < 8) = true := decide_eq_true (by omega)
      have hk8i : (k : Int) < 8 := by omega
      rcases Nat.eq_zero_or_pos k with hk0 | hpos
      · have HK0 := Lib.hid hk0
        have HU := Lib.hid CUk
        have HV := Lib.hid CVk
        have hq2 : (unitP k != unitP k) = false := by simp
        generalize unitP k = up at *
        have hd0 : decide ((0 : Int) < (k : Int)) = false := decide_eq_false (by omega)
        have hd0n : ¬ 0 < k := by omega
        clear CUk CVk hb2 hb3 hk0
        go_wp2
        have kk := fun d os => belStep hbel (below_regrown _ d os)
        refine wp_region_quiet_below (by kernel_rfl) (by kernel_rfl) ?_
        repeat ((with_reducible refine wpQuiet_step (fun K hK => ?_)); go_simp; (try (rw [if_neg]; rotate_left; · decide)); first | ((with_reducible refine hK _ ?_); clear hK K) | (apply Exists.intro; refine ⟨fun _ => ?_, hK _ ?_⟩; (first | (go_at_call 15; with_reducible exact regrown_of_eq (HU.out _)) | (go_at_call 16; with_reducible exact Calls.regrown_of (HV.out _))); clear hK K))
        refine wpQuiet_nil (fun w1 hw1 => ?_)
        replace hbel := belStep hbel (bel_of_class hw1)
        clear hw1 kk
        go_wp2
        go_roundw
        case rel => exact ⟨k + 1, by omega, by push_cast; rfl, belStep hbr hbel⟩
        case measure => simp [intOf] <;> omega
      · obtain ⟨j, hj⟩ : ∃ j, k = j + 1 := ⟨k - 1, by omega⟩
        have hdn := unitP_down (k := j) (by omega)
        rw [← hj] at hdn
        have hj8 : j < 8 := by omega
        have x1 := keep (HB2.out.cell (nmC_at hj8))
        have CUj := fun v => (nmB_list j ▸ unit_name hj8 : unitL (nmB j).toList = unitP j) ▸ quant_Unit (nmB j) v
        have HU := Lib.hid CUk
        have HV := Lib.hid CVk
        have HJ := Lib.hid CUj
        have hq2 : (unitP k != unitP k) = false := by simp
        generalize unitP k = up at *
        generalize unitP j = uj at *
        have hdge : decide (uj ≤ up) = false := decide_eq_false (by omega)
        have hd0 : decide ((0 : Int) < (k : Int)) = true := decide_eq_true (by omega)
        have hj8i : (j : Int) < 8 := by omega
        have hjm : IntKind.i64.wrap ((k : Int) - 1) = (j : Int) := by rw [IntWalk.i64_in _ (by omega)]; omega
        clear CUk CVk CUj hb2 hb3 hj
        go_wp2
        have kk := fun d os => belStep hbel (below_regrown _ d os)
        refine wp_region_quiet_below (by kernel_rfl) (by kernel_rfl) ?_
        repeat ((with_reducible refine wpQuiet_step (fun K hK => ?_)); go_simp; (try (rw [if_neg]; rotate_left; · decide)); first | ((with_reducible refine hK _ ?_); clear hK K) | (apply Exists.intro; refine ⟨fun _ => ?_, hK _ ?_⟩; (first | (go_at_call 15; with_reducible exact regrown_of_eq (HU.out _)) | (go_at_call 15; with_reducible exact regrown_of_eq (HJ.out _)) | (go_at_call 16; with_reducible exact Calls.regrown_of (HV.out _))); clear hK K))
        refine wpQuiet_nil (fun w1 hw1 => ?_)
        replace hbel := belStep hbel (bel_of_class hw1)
        clear hw1 kk
        go_wp2
        go_roundw
        case rel => exact ⟨k + 1, by omega, by push_cast; rfl, belStep hbr hbel⟩
        case measure => simp [intOf] <;> omega
    · obtain rfl : k = 8 := by omega
      have x0 := keep (HB2.out.cell (nmC_at hq8))
      have y0 := keep (HB2.out.cell (nmC_at (show 0 < 8 by omega)))
      clear hb2 hb3
      have hmm := HMM.out
      go_upto_region 16 with (first | (go_at_call 21; (with_reducible refine (CD.out _).mono ?_); rintro e w1 ⟨rfl, hb1⟩; replace hbel := belStep hbel hb1; clear hb1) | (go_at_call 13; (with_reducible refine (H1.out _).mono ?_); rintro e w1 ⟨rfl, hb1⟩; replace hbel := belStep hbel hb1; clear hb1) | (go_at_call 13; (with_reducible refine (H2.out _).mono ?_); rintro e w1 ⟨rfl, hb1⟩; replace hbel := belStep hbel hb1; clear hb1) | (go_at_call 13; (with_reducible refine (H3.out _).mono ?_); rintro e w1 ⟨rfl, hb1⟩; replace hbel := belStep hbel hb1; clear hb1))
      have hq8i : (q : Int) < 8 := by omega
      have ct1 : ¬ 9223372036854775807 < d2.size + (nmB q).size := by omega
      have kk := fun d os => belStep hbel (below_regrown _ d os)
      refine wp_region_quiet_below (by kernel_rfl) (by kernel_rfl) ?_
      repeat ((with_reducible refine wpQuiet_step (fun K hK => ?_)); go_simp; (try (rw [if_neg]; rotate_left; · decide)); first | ((with_reducible refine hK _ ?_); clear hK K) | (apply Exists.intro; refine ⟨fun _ => ?_, hK _ ?_⟩; (first | (go_at_call 21; with_reducible exact Calls.regrown_of (CE.out _)) | (go_at_call 13; with_reducible exact Calls.regrown_of (H4.out _))); clear hK K))
      refine wpQuiet_nil (fun w1 hw1 => ?_)
      replace hbel := belStep hbel (bel_of_class hw1)
      clear hw1 kk
      go_wp2_with (first | (go_at_call 15; (with_reducible refine (CU.out _).mono ?_); rintro e w' ⟨rfl, rfl⟩))
      go_ret
      exact ⟨rfl, belStep hw (belStep hbr hbel)⟩

set_option maxRecDepth 100000 in
theorem door_met (os : Os) (args : Array Value) : laidMet Tryd.prog Rows.quantUnitsRow.laid ((World.doorLaid Tryd.prog 400 os).forCall (fun _ _ => 0) ⟨#[], args, []⟩).memory :=
  laidMet_of_run' 8 (by kernel_rfl) (by kernel_rfl)
set_option maxRecDepth 100000 in
theorem lifted (os : Os) (started : os.Started) (H : Type) (enc : TypeId × Value → H) :
    ReturnsInHanded {} Tryd.checked os 5 .any (fun w args => (Rows.quantUnitsSpec.pre enc Tryd.prog Tryd.f5 [] false w args ∧ laidMetH Tryd.prog Rows.quantUnitsRow.laid w) ∧ sizedMet enc Tryd.prog Tryd.f5 (OpenSpec.ofChange Rows.quantUnitsSpec) false w args) (Rows.quantUnitsSpec.post enc Tryd.prog Tryd.f5 false true false false) := by
  refine returnsInHanded_of_change_and (C := Tryd.checked) (X := fun w _ => laidMetH Tryd.prog Rows.quantUnitsRow.laid w) (fun _ _ _ hh h => h.of_heap hh) own started (by kernel_rfl) Tryd.func5
    (ChangeSpec.witness_shaped (enc := enc) (C := Tryd.checked) (os := os) (X := fun w _ => laidMetH Tryd.prog Rows.quantUnitsRow.laid w) false (World.doorLaid Tryd.prog 400 os) #[.int .u32 0, .int .u8 0] 8 rfl (World.shaped_of_RefB (by kernel_rfl) (by kernel_rfl)) (by kernel_rfl) (by kernel_rfl) (by kernel_rfl) (by rw [MakeChecks.laidMetH_plain _ _ _ (by kernel_rfl)]; exact door_met os _)) ?_
  intro W base args ds gs before hval0 hW _ _ hL _
  rw [MakeChecks.laidMetH_plain _ _ _ (by kernel_rfl)] at hL
  have ht : Tab W := tab_of hL
  clear hL
  have hval : ∀ (j : Nat) t v, Tryd.f5.params[j]? = some t → args[j]? = some v → Value.okWide Tryd.prog W .any base t v := hval0
  have hW' := hW
  obtain ⟨p, q, hA0, hV, rfl, hfz, hnd⟩ := hW
  have hA : DataW.TrodAll enc Tryd.prog W 0 (fun _ => true) true Tryd.f5.params.toList args.toList ds p := hA0
  rw [Tryd.params5] at hA hval
  obtain ⟨v0, vs0, d0, ds0, p0, q0, hargs, rfl, rfl, h0, r0⟩ := trodAll_cons hA
  obtain ⟨v1, vs1, d1, ds1, p1, q1, rfl, rfl, rfl, h1, r1⟩ := trodAll_cons r0
  obtain ⟨rfl, rfl, rfl⟩ := trodAll_nil r1
  obtain rfl : args = #[v0, v1] := by cases args; simp_all
  obtain ⟨rfl, rfl⟩ := trodVars_none hV
  have k0 := h0
  have lt0 : ∀ x ∈ p0, x.block < W.heap.size := by obtain ⟨m, hm⟩ := k0; exact DataW.trod_lt m _ _ _ hm
  have o0 : Value.okWide Tryd.prog W .any base 32 v0 := hval 0 32 v0 rfl rfl
  obtain ⟨a0, rfl, rfl, rfl, w0⟩ := open_int Tryd.underlying32 o0 h0
  have k1 := h1
  have lt1 : ∀ x ∈ p1, x.block < W.heap.size := by obtain ⟨m, hm⟩ := k1; exact DataW.trod_lt m _ _ _ hm
  have o1 : Value.okWide Tryd.prog W .any base 5 v1 := hval 1 5 v1 rfl rfl
  obtain ⟨a1, rfl, rfl, rfl, w1⟩ := open_int Tryd.underlying5 o1 h1
  clear hA0 hval0
  refine (walk a0 a1 W ht (in32_of_wf w0) (in8_of_wf w1)).mono fun e W' ⟨he, bel⟩ => ?_
  subst he
  exact ⟨_, rfl, _, _, _, [], _, [], hW', trodAll_mk1 (shut_bool Tryd.underlying4 _), (trodAll_cons_mk (Below.trod laidOut (by kernel_rfl) (of_decide_eq_true (by kernel_rfl)) k0 bel lt0) (trodAll_cons_mk (Below.trod laidOut (by kernel_rfl) (of_decide_eq_true (by kernel_rfl)) k1 bel lt1) trodAll_mk0)), rfl, bel.frame _, fun h => by cases h⟩

theorem over : Rows.quantUnitsRow.holds Tryd.pinned (OpenSpec.ofChange Rows.quantUnitsSpec) :=
  OpenClaim.holds_of_wide 5 Tryd.f5 rfl rfl rfl rfl rfl rfl rfl ⟨rfl, rfl, rfl, rfl, rfl⟩ rfl rfl rfl rfl rfl (by kernel_rfl) Tryd.func5 (by kernel_rfl)
    (of_decide_eq_true (by kernel_rfl)) (by unfold Func.isWrapper; first | (rw [if_pos (by decide +kernel)]; kernel_rfl) | (rw [if_neg (by decide +kernel)]; exact ⟨rfl, rfl⟩))
    (fun os started H enc _ => lifted os started H enc)

/-- The statement. -/
theorem proved : Rows.QuantUnitsCardSaid :=
  Claim7.holds_tied_plain_at .later [] Rows.quantUnitsCard.laidKinds true Rows.quantUnitsCard.stood.harness true
    over (fun _ h => by cases h) (by kernel_rfl) (fun _ h => by cases h) quantUnits_row_tie rfl ⟨rfl, rfl⟩ (by kernel_rfl) rfl
    (fun f fn hf hfn => by
      obtain rfl : f = 5 := Option.some.inj ((show Tryd.prog.funcNamed Rows.quantUnitsRow.func = some 5 by kernel_rfl).symm.trans hf) |>.symm
      obtain rfl : fn = Tryd.f5 := (Option.some.inj (Tryd.func5.symm.trans hfn)).symm
      exact ⟨by kernel_rfl, fun j t ht => by
        rw [Tryd.params5] at ht
        have hm : t ∈ [32, 5] := by simpa using Array.mem_of_getElem? ht
        have hall : ([32, 5].all fun u => !Tryd.prog.wantsStandIn u) = true := by kernel_rfl
        exact (show Tryd.prog.wantsStandIn t = false by simpa using List.all_eq_true.1 hall t hm)⟩)
    (by kernel_rfl)
#print axioms proved

end Go.Proofs.YtiaemcejgjobiaaDoor.quantUnits
