
/- SweepExtra holds for all its arguments. No conditions. -/
import Derived.Test.YtampkolkbjmmkaaAwake22
namespace Go.Proofs.Ytampkolkbjmmkaa.sweepExtra
open Go.ChangeShapes Go.WideShapes Go.ChangeAt Go.RowKit
open Go.ChangeMaps (open_string shut_string)
set_option linter.unusedVariables false
set_option linter.unusedSimpArgs false
open Go.Sort
theorem lo_of {L : List ContV} (h : RisesC L) {k : Nat} {x : ContV} (hx : L[k]? = some x) : (L.take k).any (fun y => y.id.toList == x.id.toList) = false := by
  rw [List.any_eq_false]
  intro y hy
  obtain ⟨j, hj⟩ := List.getElem?_of_mem hy
  have hjk : j < k := by
    rcases Nat.lt_or_ge j k with q | q
    · exact q
    · rw [List.getElem?_eq_none (by rw [List.length_take]; omega)] at hj; cases hj
  rw [List.getElem?_take_of_lt hjk] at hj
  obtain ⟨h1, e1⟩ := List.getElem?_eq_some_iff.1 hj
  obtain ⟨h2, e2⟩ := List.getElem?_eq_some_iff.1 hx
  have h3 := List.pairwise_iff_getElem.1 h j k h1 h2 hjk
  rw [e1, e2] at h3
  simp only [beq_iff_eq]
  intro e
  rw [e] at h3
  exact List.lt_irrefl _ h3
theorem dead_at {L : List ContV} {U : List ByteArray} {k : Nat} (hk : k < (deadC L U).length) : ∃ y, (deadL L U)[k]? = some y ∧ (deadC L U)[k]? = some y.id ∧ y ∈ L := by
  have h1 : k < (deadL L U).length := by unfold deadC at hk; rwa [List.length_map] at hk
  refine ⟨(deadL L U)[k], List.getElem?_eq_getElem h1, ?_, ?_⟩
  · unfold deadC; rw [List.getElem?_map, List.getElem?_eq_getElem h1]; rfl
  · exact (List.mem_filter.1 (sortBy_mem.1 (List.getElem_mem h1))).1
theorem dead_sorted {L : List ContV} {U : List ByteArray} {i k : Nat} {y z : ContV} (hik : i < k) (hy : (deadL L U)[i]? = some y) (hz : (deadL L U)[k]? = some z) : ¬ z.last < y.last := by
  have h := sortBy_pw swo_cfC (L.filter (deadB U))
  obtain ⟨h1, e1⟩ := List.getElem?_eq_some_iff.1 hy
  obtain ⟨h2, e2⟩ := List.getElem?_eq_some_iff.1 hz
  have h3 := List.pairwise_iff_getElem.1 h i k h1 h2 hik
  unfold deadL at e1 e2
  rw [e1, e2, Bool.not_eq_true'] at h3
  intro q
  rw [← lessC_eq] at h3
  unfold lessC at h3
  rw [decide_eq_true q] at h3
  cases h3
set_option maxRecDepth 100000 in
set_option maxHeartbeats 16000000 in
theorem cl_last (a : Option Addr) (len cap : Nat) (L : List ContV) (s : ByteArray) (k0 : Nat) (x0 : ContV) (w : World) (hl : L.length = len) (hR : Row w a len cap 4 (L.flatMap ContV.cells)) (hx0 : L[k0]? = some x0) (he0 : (x0.id.toList == s.toList) = true) (hlo : (L.take k0).any (fun y => y.id.toList == s.toList) = false) :
    Calls Try.prog 30 #[.slice a len cap, .string s] w fun e w' => e = .returned (.int .i64 x0.last) ∧ Below w.heap.size w w' := by
  have hw : Below w.heap.size w w := Below.refl _ _
  have hbd_a : len ≤ cap ∧ cap ≤ 9223372036854775807 := by obtain ⟨_, h1, h2, _⟩ := hR; unfold maxLen at h2; exact ⟨h1, h2⟩
  obtain ⟨hbd1_a, hbd2_a⟩ := hbd_a
  have HR := Lib.hid hR
  have HX0 := Lib.hid hx0
  have HE0 := Lib.hid he0
  have HLO := Lib.hid hlo
  have hk0l : k0 < L.length := (List.getElem?_eq_some_iff.1 hx0).1
  clear hR hx0 he0 hlo
  subst hl
  go_enter Try.func30, Try.ntmps30
  go_wp2
  go_loopw [5] (fun iv wr => ∃ k : Nat, k ≤ k0 ∧ iv = .int .i64 k ∧ Below w.heap.size w wr) (fun iv _ => L.length - (intOf iv).toNat)
  case atStart => exact ⟨0, Nat.zero_le _, rfl, hw⟩
  case round =>
    clear hw
    obtain ⟨k, hk, rfl, hbel⟩ := hrel
    have hlt : k < L.length := by omega
    have hd : decide ((k : Int) < (L.length : Int)) = true := decide_eq_true (by omega)
    have hki : (k : Int) < (L.length : Int) := by omega
    have hk0i : (0 : Int) ≤ (k : Int) := by omega
    obtain ⟨x, hx⟩ : ∃ x, L[k]? = some x := ⟨L[k], List.getElem?_eq_getElem hlt⟩
    obtain ⟨bc, oc, ec, _, hcc⟩ := (HR.out).elem ContV.cells_len (by omega) hx
    subst ec
    have c0 := keep (hcc 0 _ rfl)
    have c1 := keep (hcc 1 _ rfl)
    have c2 := keep (hcc 2 _ rfl)
    have c3 := keep (hcc 3 _ rfl)
    rw [Nat.add_zero] at c0
    by_cases hkk : k = k0
    · subst hkk
      obtain rfl := Option.some.inj (hx.symm.trans HX0.out)
      have he := HE0.out
      clear hx hcc
      go_wp2
      go_ret
      exact ⟨rfl, hbel⟩
    · have he : (x.id.toList == s.toList) = false := by have h := List.any_eq_false.1 HLO.out x (List.mem_of_getElem? (i := k) (by rw [List.getElem?_take_of_lt (by omega)]; exact hx)); simpa using h
      clear hx hcc
      go_wp2
      go_roundw
      case rel => exact ⟨k + 1, by omega, by push_cast; rfl, hbel⟩
      case measure => simp [intOf] <;> omega
set_option maxRecDepth 100000 in
set_option maxHeartbeats 16000000 in
theorem walk (a : Option Addr) (n c : Nat) (L : List ContV) (b : Option Addr) (ul uc : Nat) (U : List ByteArray) (kp : Int) (w : World) (hl : L.length = n) (hok : ∀ x ∈ L, x.ok) (hR : Row w a n c 4 (L.flatMap ContV.cells)) (hu : U.length = ul) (huk : ∀ s ∈ U, s.size ≤ maxLen) (hRU : Row w b ul uc 1 (U.map Value.string)) (hkp : 0 ≤ kp ∧ kp ≤ 255) :
    Calls Try.prog 5 #[.slice a n c, .slice b ul uc, .int .u8 kp] w fun e w' => e = .returned (.bool true) ∧ Below w.heap.size w w' := by
  have hw : Below w.heap.size w w := Below.refl _ _
  have hbel := hw
  have hbd : n ≤ c ∧ c ≤ 9223372036854775807 := by obtain ⟨_, h1, h2, _⟩ := hR; unfold maxLen at h2; exact ⟨h1, h2⟩
  obtain ⟨hbd1, hbd2⟩ := hbd
  obtain ⟨fw, hfw⟩ : ∃ q, fitC L = q := ⟨_, rfl⟩
  have CFW := Lib.hid (fun u (hu : Below w.heap.size w u) => hfw ▸ cref_Fit a n c L u hl (hR.later hu) hok)
  have HFW := Lib.hid hfw
  have HR := Lib.hid hR
  have HOK := Lib.hid hok
  have HLN := Lib.hid hl
  clear hR hok hl hfw
  have hbu : ul ≤ uc ∧ uc ≤ 9223372036854775807 := by obtain ⟨_, h1, h2, _⟩ := hRU; unfold maxLen at h2; exact ⟨h1, h2⟩
  obtain ⟨hbu1, hbu2⟩ := hbu
  obtain ⟨fu, hfu⟩ : ∃ q, fewT U = q := ⟨_, rfl⟩
  have CFU := Lib.hid (fun u (hu9 : Below w.heap.size w u) => hfu ▸ iref_Names b ul uc U u hu (hRU.later hu9) huk)
  have HFU := Lib.hid hfu
  have HUK := Lib.hid huk
  have HRU := Lib.hid hRU
  have HUN := Lib.hid hu
  clear hRU huk hu hfu
  go_enter Try.func5, Try.ntmps5
  go_upto_region 3 with (first | (go_at_call 19; (with_reducible refine (awake22 _).mono ?_); rintro e w1 ⟨rfl, hb1⟩; replace hbel := belStep hbel hb1; clear hb1) | (go_at_call 20; (with_reducible refine (CFW.out _ hbel).mono ?_); rintro e wf1 ⟨rfl, hb_wf1⟩; replace hbel := belStep hbel hb_wf1; clear hb_wf1; rcases fw with _ | _) | (go_at_call 21; (with_reducible refine (CFU.out _ hbel).mono ?_); rintro e wf3 ⟨rfl, hb_wf3⟩; replace hbel := belStep hbel hb_wf3; clear hb_wf3; rcases fu with _ | _))
  · go_ret
    exact ⟨rfl, hbel⟩
  · go_ret
    exact ⟨rfl, hbel⟩
  have HB := Lib.hid hbel
  have HRC := Lib.hid (fit_rises HFW.out)
  have hn60 : n ≤ 60 := by rw [← HLN.out]; exact fit_len HFW.out
  have hu60 : ul ≤ 60 := by rw [← HUN.out]; exact few_lenT HFU.out
  clear hw CFW CFU
  obtain ⟨kn, rfl⟩ : ∃ kn : Nat, kp = kn := ⟨kp.toNat, by omega⟩
  have hk255 : kn ≤ 255 := by omega
  have hkw : IntKind.i64.wrap (kn : Int) = (kn : Int) := IntWalk.i64_in _ (by omega)
  have CD := Lib.hid (fun u (hu : Below w.heap.size w u) => sw_Dead a n c L b ul uc U u HLN.out (HR.out.later hu) HUN.out (HRU.out.later hu) HUK.out HOK.out HRC.out (by omega) (by omega))
  have CE := Lib.hid (fun u (hu : Below w.heap.size w u) => sw_Extra a n c L b ul uc U (kn : Int) u HLN.out (HR.out.later hu) HUN.out (HRU.out.later hu) HUK.out HOK.out HRC.out (by omega) (by omega) (by unfold InI; omega))
  have HDA := Lib.hid (fun k (hk : k < (deadC L U).length) => dead_at hk)
  have hdl := dead_le L U
  rw [HLN.out] at hdl
  have hxl : (extraT (deadC L U) (kn : Int)).length = (deadC L U).length - kn := by unfold extraT; rw [List.length_take, show ((kn : Int)).toNat = kn from rfl]; omega
  have hxd : ∀ i, i < (extraT (deadC L U) (kn : Int)).length → (extraT (deadC L U) (kn : Int))[i]? = (deadC L U)[i]? := fun i hi => by unfold extraT at hi ⊢; rw [List.length_take] at hi; rw [List.getElem?_take_of_lt (by omega)]
  obtain ⟨X, hX⟩ : ∃ X, extraT (deadC L U) (kn : Int) = X := ⟨_, rfl⟩
  simp only [hX] at CE hxl hxd
  clear hX
  obtain ⟨D, hD⟩ : ∃ D, deadC L U = D := ⟨_, rfl⟩
  simp only [hD] at CD HDA hxl hxd hdl
  clear hD
  have HXL := Lib.hid hxl
  have HXD := Lib.hid hxd
  clear hxl hxd
  have hx1 : X.length ≤ D.length := by rw [HXL.out]; omega
  clear hbel
  go_upto_region 5 with (first | (go_at_call 25; (with_reducible refine (CD.out _ HB.out).mono ?_); rintro e w1 ⟨v_w1, rfl, ho_, hb_⟩; obtain ⟨da, dc, rfl, hr_⟩ := rowR_of_own ho_; have HX1 := Lib.hid hr_; clear ho_ hr_; replace HB := Lib.hid (belStep HB.out hb_); clear hb_) | (go_at_call 27; (with_reducible refine (CE.out _ HB.out).mono ?_); rintro e w2 ⟨v_w2, rfl, ho_, hb_⟩; obtain ⟨xa, xc, rfl, hr_⟩ := rowR_of_own ho_; have HX2 := Lib.hid hr_; clear ho_ hr_; replace HX1 := Lib.hid (HX1.out.later hb_); replace HB := Lib.hid (belStep HB.out hb_); clear hb_))
  clear CD CE
  have hb0 : Below w2.heap.size w2 w2 := Below.refl _ _
  generalize w2 = W3 at *
  have hbd1 : D.length ≤ dc ∧ dc ≤ 9223372036854775807 := by obtain ⟨_, h1, h2, _⟩ := HX1.out; unfold maxLen at h2; exact ⟨h1, h2⟩
  have hbd2 : X.length ≤ xc ∧ xc ≤ 9223372036854775807 := by obtain ⟨_, h1, h2, _⟩ := HX2.out; unfold maxLen at h2; exact ⟨h1, h2⟩
  obtain ⟨hbd3, hbd4⟩ := hbd1
  obtain ⟨hbd5, hbd6⟩ := hbd2
  by_cases hc : D.length ≤ kn
  · have hX0 : X = [] := List.eq_nil_of_length_eq_zero (by rw [HXL.out]; omega)
    have t1 : decide ((D.length : Int) ≤ (kn : Int)) = true := decide_eq_true (by omega)
    have t2 : decide ((kn : Int) < (D.length : Int)) = false := decide_eq_false (by omega)
    subst hX0
    go_wp2
    go_loopw [9] (fun iv wr => iv = .int .i64 0 ∧ Below W3.heap.size W3 wr) (fun iv _ => 0)
    case atStart => exact ⟨rfl, hb0⟩
    case round =>
      obtain ⟨rfl, hbr⟩ := hrel
      go_wp2
      go_ret
      exact ⟨by first | rfl | simp, belStep HB.out hbr⟩
  · have hxe : (X.length : Int) = (D.length : Int) - (kn : Int) := by rw [HXL.out]; omega
    have t1 : decide ((D.length : Int) ≤ (kn : Int)) = false := decide_eq_false (by omega)
    have t2 : decide ((kn : Int) < (D.length : Int)) = true := decide_eq_true (by omega)
    have t3 : IntKind.i64.wrap ((D.length : Int) - (kn : Int)) = (D.length : Int) - (kn : Int) := IntWalk.i64_in _ (by omega)
    have t4 : ((X.length : Int) != (D.length : Int) - (kn : Int)) = false := by rw [hxe]; simp
    have t5 : ((X.length : Int) == (D.length : Int) - (kn : Int)) = true := by rw [hxe]; simp
    have HXE := Lib.hid hxe
    clear hxe
    go_wp2
    clear t1 t2 t3 t4 t5
    go_loopw [9] (fun iv wr => ∃ k : Nat, k ≤ X.length ∧ iv = .int .i64 k ∧ Below W3.heap.size W3 wr) (fun iv _ => X.length - (intOf iv).toNat)
    case atStart => exact ⟨0, Nat.zero_le _, rfl, hb0⟩
    case round =>
      clear hb0
      obtain ⟨i, hi, rfl, hbr⟩ := hrel
      by_cases hlt : i < X.length
      · have hd : decide ((i : Int) < (X.length : Int)) = true := decide_eq_true (by omega)
        have hii : (i : Int) < (X.length : Int) := by omega
        have hi0 : (0 : Int) ≤ (i : Int) := by omega
        have hiD : (i : Int) < (D.length : Int) := by omega
        obtain ⟨y, hy1, hy2, hy3⟩ := HDA.out i (by omega)
        have hy4 := (HXD.out i hlt).trans hy2
        obtain ⟨b1, o1, e1, k1⟩ := text_cell (HX2.out.later hbr) hy4
        obtain ⟨b2, o2, e2, k2⟩ := text_cell (HX1.out.later hbr) hy2
        subst e1 e2
        have y0 := keep k1
        have z0 := keep k2
        clear k1 k2 hy4
        have hqe : (y.id.toList == y.id.toList) = true := beq_self_eq_true _
        have hqn : (y.id.toList != y.id.toList) = false := by simp
        have HDI := Lib.hid hy2; have HY1 := Lib.hid hy1; clear hy2
        obtain ⟨ky, hky⟩ := List.getElem?_of_mem hy3
        have HLY := Lib.hid (fun u (hu : Below w.heap.size w u) => cl_last a n c L y.id ky y u HLN.out (HR.out.later hu) hky (by simp) (lo_of HRC.out hky))
        clear hy1 hy3 hky
        obtain ⟨yl, hyl⟩ : ∃ q, y.last = q := ⟨_, rfl⟩
        have HYL := Lib.hid hyl
        rw [hyl] at HLY
        clear hyl
        have hbel : Below wr.heap.size wr wr := Below.refl _ _
        have HBR := Lib.hid hbr
        clear hbr
        go_wp2
        have kk := fun d os => belStep hbel (below_regrown _ d os)
        refine wp_region_quiet_below (by kernel_rfl) (by kernel_rfl) ?_
        repeat ((with_reducible refine wpQuiet_step (fun K hK => ?_)); go_simp; (try (rw [if_neg]; rotate_left; · decide)); first | ((with_reducible refine hK _ ?_); clear hK K) | (apply Exists.intro; refine ⟨fun _ => ?_, hK _ ?_⟩; (fail); clear hK K))
        refine wpQuiet_nil (fun w1 hw1 => ?_)
        replace hbel := belStep hbel (bel_of_class hw1)
        clear hw1 kk
        go_wp2
        have HB2 := Lib.hid (belStep HBR.out hbel)
        clear hbel y0 z0
        have HB3 := Lib.hid HB2.out
        have hb9 : Below W3.heap.size W3 _ := HB3.out
        go_loopw [10] (fun iv wr => ∃ k : Nat, X.length ≤ k ∧ k ≤ D.length ∧ iv = .int .i64 k ∧ Below W3.heap.size W3 wr) (fun iv _ => D.length - (intOf iv).toNat)
        case atStart => exact ⟨X.length, Nat.le_refl _, hx1, rfl, HB2.out⟩
        case round =>
          skip
          obtain ⟨k, hk1, hk2, rfl, hbr⟩ := hrel
          by_cases hlk : k < D.length
          · have hd : decide ((k : Int) < (D.length : Int)) = true := decide_eq_true (by omega)
            have hkk : (k : Int) < (D.length : Int) := by omega
            have hk0 : (0 : Int) ≤ (k : Int) := by omega
            obtain ⟨z, hz1, hz2, hz3⟩ := HDA.out k hlk
            obtain ⟨b1, o1, e1, k1⟩ := text_cell (HX1.out.later hbr) hz2
            obtain ⟨b2, o2, e2, k2⟩ := text_cell (HX2.out.later hbr) ((HXD.out i hlt).trans (HDI.out))
            simp only [Option.some.injEq, Addr.mk.injEq, and_true] at e1 e2
            obtain ⟨rfl, rfl⟩ := e1
            obtain ⟨rfl, rfl⟩ := e2
            have y0 := keep k1
            have z0 := keep k2
            clear k1 k2 hz2
            obtain ⟨kz, hkz⟩ := List.getElem?_of_mem hz3
            have HLZ := Lib.hid (fun u (hu : Below w.heap.size w u) => cl_last a n c L z.id kz z u HLN.out (HR.out.later hu) hkz (by simp) (lo_of HRC.out hkz))
            have hns := dead_sorted (by omega) HY1.out hz1
            rw [HYL.out] at hns
            obtain ⟨zl, hzl⟩ : ∃ q, z.last = q := ⟨_, rfl⟩
            rw [hzl] at HLZ hns
            have hdn : decide (zl < yl) = false := decide_eq_false hns
            clear hz1 hz3 hkz hzl
            have HBR2 := Lib.hid hbr
            clear hbr
            have hbel : Below wr.heap.size wr wr := Below.refl _ _
            go_upto_region 15 with fail
            have kk := fun d os => belStep hbel (below_regrown _ d os)
            refine wp_region_quiet_below (by kernel_rfl) (by kernel_rfl) ?_
            repeat ((with_reducible refine wpQuiet_step (fun K hK => ?_)); go_simp; (try (rw [if_neg]; rotate_left; · decide)); first | ((with_reducible refine hK _ ?_); clear hK K) | (apply Exists.intro; refine ⟨fun _ => ?_, hK _ ?_⟩; (first | (go_at_call 30; with_reducible exact Calls.regrown_of (HLZ.out _ (belStep HB.out (belStep HBR2.out (kk _ _))))) | (go_at_call 30; with_reducible exact Calls.regrown_of (HLY.out _ (belStep HB.out (belStep HBR2.out (kk _ _)))))); clear hK K))
            refine wpQuiet_nil (fun w1 hw1 => ?_)
            replace hbel := belStep hbel (bel_of_class hw1)
            clear hw1 kk
            go_wp2
            go_roundw
            case rel => exact ⟨k + 1, by omega, by omega, by push_cast; rfl, belStep HBR2.out hbel⟩
            case measure => simp [intOf] <;> omega
          · obtain rfl : k = D.length := by omega
            have hd : decide ((D.length : Int) < (D.length : Int)) = false := decide_eq_false (by omega)
            go_wp2
            go_roundw
            case rel => exact ⟨i + 1, by omega, by push_cast; rfl, hbr⟩
            case measure => simp [intOf] <;> omega
      · obtain rfl : i = X.length := by omega
        have hd : decide ((X.length : Int) < (X.length : Int)) = false := decide_eq_false (by omega)
        go_wp2
        go_ret
        exact ⟨by first | rfl | simp, belStep HB.out hbr⟩

set_option maxRecDepth 100000 in
theorem lifted (os : Os) (started : os.Started) (H : Type) (enc : TypeId × Value → H) :
    ReturnsInHanded {} Try.checked os 5 .any (Rows.sweepExtraSpec.pre6 enc Try.prog Try.f5 Rows.sweepExtraRow.domain false) (Rows.sweepExtraSpec.post enc Try.prog Try.f5 false true false false) := by
  refine returnsInHanded_of_change (C := Try.checked) own started (by kernel_rfl) Try.func5
    (ChangeSpec.witness6 (enc := enc) (C := Try.checked) false ⟨#[], #[.slice none 0 0, .slice none 0 0, .int .u8 0], []⟩ 8 (by kernel_rfl) (by kernel_rfl) (by kernel_rfl) (by kernel_rfl)) ?_
  intro W base args ds gs before hval0 hW hcnd _
  have hval : ∀ (j : Nat) t v, Try.f5.params[j]? = some t → args[j]? = some v → Value.okWide Try.prog W .any base t v := hval0
  have hW' := hW
  obtain ⟨p, q, hA0, hV, rfl, hfz, hnd⟩ := hW
  have hA : DataW.TrodAll enc Try.prog W 0 (fun _ => true) true Try.f5.params.toList args.toList ds p := hA0
  rw [Try.params5] at hA hval
  obtain ⟨v0, vs0, d0, ds0, p0, q0, hargs, rfl, rfl, h0, r0⟩ := trodAll_cons hA
  obtain ⟨v1, vs1, d1, ds1, p1, q1, rfl, rfl, rfl, h1, r1⟩ := trodAll_cons r0
  obtain ⟨v2, vs2, d2, ds2, p2, q2, rfl, rfl, rfl, h2, r2⟩ := trodAll_cons r1
  obtain ⟨rfl, rfl, rfl⟩ := trodAll_nil r2
  obtain rfl : args = #[v0, v1, v2] := by cases args; simp_all
  obtain ⟨rfl, rfl⟩ := trodVars_none hV
  have k0 := h0
  have lt0 : ∀ x ∈ p0, x.block < W.heap.size := by obtain ⟨m, hm⟩ := k0; exact DataW.trod_lt m _ _ _ hm
  have o0 : Value.okWide Try.prog W .any base 22 v0 := hval 0 22 v0 rfl rfl
  obtain ⟨xa0, xn0, xc0, xl0, rfl, fl0, fo0, fr0⟩ := open_conts o0 h0
  have k1 := h1
  have lt1 : ∀ x ∈ p1, x.block < W.heap.size := by obtain ⟨m, hm⟩ := k1; exact DataW.trod_lt m _ _ _ hm
  have o1 : Value.okWide Try.prog W .any base 23 v1 := hval 1 23 v1 rfl rfl
  obtain ⟨ya1, yn1, yc1, yu1, rfl, gl1, go1, gr1⟩ := open_texts o1 h1
  have k2 := h2
  have lt2 : ∀ x ∈ p2, x.block < W.heap.size := by obtain ⟨m, hm⟩ := k2; exact DataW.trod_lt m _ _ _ hm
  have o2 : Value.okWide Try.prog W .any base 5 v2 := hval 2 5 v2 rfl rfl
  obtain ⟨a2, rfl, rfl, rfl, w2⟩ := open_int Try.underlying5 o2 h2
  clear hA0 hval0
  refine (walk xa0 xn0 xc0 xl0 ya1 yn1 yc1 yu1 a2 W fl0 fo0 fr0 gl1 go1 gr1 (in8_of_wf w2)).mono fun e W' ⟨he, bel⟩ => ?_
  subst he
  exact ⟨_, rfl, _, _, _, [], _, [], hW', trodAll_mk1 (shut_bool Try.underlying4 _), (trodAll_cons_mk (Below.trod laidOut (by kernel_rfl) (of_decide_eq_true (by kernel_rfl)) k0 bel lt0) (trodAll_cons_mk (Below.trod laidOut (by kernel_rfl) (of_decide_eq_true (by kernel_rfl)) k1 bel lt1) (trodAll_cons_mk (Below.trod laidOut (by kernel_rfl) (of_decide_eq_true (by kernel_rfl)) k2 bel lt2) trodAll_mk0))), rfl, bel.frame _, fun h => by cases h⟩

theorem over : Rows.sweepExtraRow.holds Try.pinned (OpenSpec.ofChange Rows.sweepExtraSpec) :=
  OpenClaim.holds_of_wide 5 Try.f5 rfl rfl rfl rfl rfl rfl rfl ⟨rfl, rfl, rfl, rfl, rfl⟩ rfl rfl rfl rfl rfl (by kernel_rfl) Try.func5 (by kernel_rfl)
    (of_decide_eq_true (by kernel_rfl)) (by unfold Func.isWrapper; first | (rw [if_pos (by decide +kernel)]; kernel_rfl) | (rw [if_neg (by decide +kernel)]; exact ⟨rfl, rfl⟩))
    (fun os started H enc _ => lifted os started H enc)

/-- The statement. -/
theorem proved : Rows.SweepExtraSaid := over
#print axioms proved

end Go.Proofs.Ytampkolkbjmmkaa.sweepExtra
