
/- DiskTorn holds for every two slices of bytes and every whole number. No conditions. -/
import Derived.Test.YtcnjcldfbidkmaaDkAw
import Derived.BigQuiet
namespace Go.Proofs.Ytcnjcldfbidkmaa.diskTorn
open Go.ChangeShapes Go.WideShapes Go.ChangeAt Go.RowKit
open Go.ChangeMaps (open_string shut_string)
set_option linter.unusedVariables false
open Go.RowKit Go.Sort Go.Maps Go.WideMaps
set_option linter.unusedSimpArgs false
def tOp (Z : List Int) : MOp := ⟨1, ⟨#[97]⟩, ⟨#[]⟩, Z⟩
theorem t_right (Z : List Int) : rightM (tOp Z) = true := by unfold rightM tOp; rw [if_pos rfl]; show namedM ⟨#[97]⟩ = true; decide +kernel
theorem t_E (Z : List Int) : doE (tOp Z) = 0 := by unfold doE; rw [t_right]; rfl
theorem t_do (d : DiskV) (Z : List Int) : doW d (tOp Z) = { d with done := d.done ++ [tOp Z] } := by unfold doW; rw [t_right]; rfl
def tD2 (l : List Int) : DiskV := syncW (doW ⟨[], [], 0⟩ (tOp l))
def tD4 (l m : List Int) (k : Int) : DiskV := crashW (doW (tD2 l) (tOp m)) [k]
theorem t_len1 (l : List Int) : (doW ⟨[], [], 0⟩ (tOp l)).cap + (doW ⟨[], [], 0⟩ (tOp l)).done.length ≤ 100000 := by rw [t_do]; show 0 + 1 ≤ 100000; omega
theorem t_len2 (l : List Int) : (tD2 l).cap + (tD2 l).done.length ≤ 100000 := by unfold tD2; rw [t_do]; show 0 + 1 + 0 ≤ 100000; omega
theorem t_len3 (l m : List Int) : (doW (tD2 l) (tOp m)).cap + (doW (tD2 l) (tOp m)).done.length ≤ 100000 := by rw [t_do]; unfold tD2; rw [t_do]; show 0 + 1 + 1 ≤ 100000; omega
theorem t_len4 (l m : List Int) (k : Int) : (tD4 l m k).cap + (tD4 l m k).done.length ≤ 100000 := by unfold tD4; rw [t_do]; unfold tD2; rw [t_do]; show 0 + 1 + 1 + 0 ≤ 100000; omega
theorem t_done4 (l m : List Int) (k : Int) : (tD4 l m k).done.length = 0 := rfl
def tR (l m : List Int) (k : Int) : List Int := if k = 0 then l else if 1 ≤ k ∧ k ≤ (m.length : Int) then m.take (k - 1).toNat else m
theorem t_get (l m : List Int) (k : Int) : getF (tD4 l m k).look ⟨#[97]⟩ = some (tR l m k) := by
  have hs : ((⟨#[97]⟩ : ByteArray).toList == (⟨#[97]⟩ : ByteArray).toList) = true := by simp
  have h1 : (tD4 l m k).look = crashS (putF [] ⟨#[97]⟩ l) (tOp m, k) := by unfold tD4; rw [t_do]; unfold tD2; rw [t_do]; rfl
  rw [h1]
  unfold crashS tR
  dsimp only
  split
  · rw [find_putF, if_pos hs]
  · unfold partM tOp
    dsimp only
    simp only [true_and]
    split
    · show getF (putF _ _ _) _ = _
      rw [find_putF, if_pos hs]
    · show getF (putF _ _ _) _ = _
      rw [find_putF, if_pos hs]
set_option maxRecDepth 100000 in
set_option maxHeartbeats 16000000 in
theorem walk (a : Option Addr) (len cap : Nat) (l : List Int) (b : Option Addr) (lb lc : Nat) (m : List Int) (k : Int) (w : World) (hl : Ints .u8 w a len cap l) (hm : Ints .u8 w b lb lc m) (hk : InI k) :
    Calls Try.prog 9 #[.slice a len cap, .slice b lb lc, .int .i64 k] w fun e w' => e = .returned (.bool true) ∧ Below w.heap.size w w' := by
  have hw : Below w.heap.size w w := Below.refl _ _
  have hbel := hw
  have hln := hl.bounds
  have hmn := hm.bounds
  obtain ⟨hl1, hl2, hl3⟩ := hln
  obtain ⟨hm1, hm2, hm3⟩ := hmn
  subst hl1
  subst hm1
  have hl4 : l.length ≤ 9223372036854775807 := by omega
  have hm4 : m.length ≤ 9223372036854775807 := by omega
  have HL := Lib.hid hl
  have HM := Lib.hid hm
  obtain ⟨hk1, hk2⟩ := hk
  clear hl hm
  by_cases hL : 300 < l.length
  · have dL : decide ((300 : Int) < (l.length : Int)) = true := decide_eq_true (by omega)
    go_enter Try.func9, Try.ntmps9
    go_wp2_with (first | (go_at_call 30; (with_reducible refine (awake_10 _).mono ?_); rintro e wa ⟨rfl, ha⟩; replace hbel := belStep hbel ha; clear ha))
    go_ret
    exact ⟨rfl, hbel⟩
  · have dL : decide ((300 : Int) < (l.length : Int)) = false := decide_eq_false (by omega)
    have iL : ¬ (300 : Int) < (l.length : Int) := by omega
    by_cases hM : 300 < m.length
    · have dM : decide ((300 : Int) < (m.length : Int)) = true := decide_eq_true (by omega)
      go_enter Try.func9, Try.ntmps9
      go_wp2_with (first | (go_at_call 30; (with_reducible refine (awake_10 _).mono ?_); rintro e wa ⟨rfl, ha⟩; replace hbel := belStep hbel ha; clear ha))
      go_ret
      exact ⟨rfl, hbel⟩
    · have dM : decide ((300 : Int) < (m.length : Int)) = false := decide_eq_false (by omega)
      have iM : ¬ (300 : Int) < (m.length : Int) := by omega
      go_enter Try.func9, Try.ntmps9
      go_upto_region 6 with (first | (go_at_call 30; (with_reducible refine (awake_10 _).mono ?_); rintro e wa ⟨rfl, ha⟩; replace hbel := belStep hbel ha; clear ha) | (go_at_call 32; (with_reducible refine (dl_New w.heap.size [] _ (fun b hb => absurd hb List.not_mem_nil) hbel.size).mono ?_); rintro e w1 ⟨M, rfl, hd_, hb_⟩; have HD := Lib.hid hd_; have HB1 := Lib.hid (hbel.trans hb_); clear hd_ hb_))
      clear hbel hw
      have C1 := Lib.hid (show Calls Try.prog 33 #[.pointer (some ⟨M, 0, none⟩), .agg #[.int .i64 1, .string ⟨#[97]⟩, .string ⟨#[]⟩, .slice a l.length cap]] (w1) (fun e w' => e = .returned (.int .i64 0) ∧ DKv w.heap.size w' M [] (doW ⟨[], [], 0⟩ (tOp l)) ∧ Below w.heap.size (w1) w' ∧ Free [] (w1) w') from (dl_Do w.heap.size M [] ⟨[], [], 0⟩ _ HD.out (fun b hb => absurd hb List.not_mem_nil) HB1.out.size (by decide) ⟨1, ⟨#[97]⟩, ⟨#[]⟩, a, cap, l⟩ (HL.out.later HB1.out) (show l.length ≤ 1000000 by omega) ⟨show (⟨#[97]⟩ : ByteArray).size ≤ maxLen by decide +kernel, show (⟨#[]⟩ : ByteArray).size ≤ maxLen by decide +kernel, ⟨show (-9223372036854775808 : Int) ≤ 1 by omega, show (1 : Int) ≤ 9223372036854775807 by omega⟩⟩).mono (by rintro e wq ⟨h1, h2, h3⟩; exact ⟨h1.trans (congrArg (fun z => Ending.returned (.int .i64 z)) (t_E l)), h2, h3⟩))
      go_upto_region 7 with (go_at_call 33; (with_reducible refine (C1.out).mono ?_); rintro e w2 ⟨rfl, hd_, hb_, -⟩; have HD2 := Lib.hid hd_; have HB2 := Lib.hid (HB1.out.trans hb_); clear hd_ hb_ C1 HD)
      have C2 := Lib.hid (show Calls Try.prog 35 #[.pointer (some ⟨M, 0, none⟩)] (w2) _ from dl_Sync w.heap.size M [] _ _ HD2.out (fun b hb => absurd hb List.not_mem_nil) HB2.out.size (t_len1 l))
      go_upto_region 8 with (go_at_call 35; (with_reducible refine (C2.out).mono ?_); rintro e w3 ⟨rfl, hd_, hb_, -⟩; have HD3 := Lib.hid (show DKv w.heap.size w3 M [] (tD2 l) from hd_); have HB3 := Lib.hid (HB2.out.trans hb_); clear hd_ hb_ C2 HD2)
      have C3 := Lib.hid (show Calls Try.prog 33 #[.pointer (some ⟨M, 0, none⟩), .agg #[.int .i64 1, .string ⟨#[97]⟩, .string ⟨#[]⟩, .slice b m.length lc]] (w3) (fun e w' => e = .returned (.int .i64 0) ∧ DKv w.heap.size w' M [] (doW (tD2 l) (tOp m)) ∧ Below w.heap.size (w3) w' ∧ Free [] (w3) w') from (dl_Do w.heap.size M [] (tD2 l) _ HD3.out (fun b hb => absurd hb List.not_mem_nil) HB3.out.size (t_len2 l) ⟨1, ⟨#[97]⟩, ⟨#[]⟩, b, lc, m⟩ (HM.out.later HB3.out) (show m.length ≤ 1000000 by omega) ⟨show (⟨#[97]⟩ : ByteArray).size ≤ maxLen by decide +kernel, show (⟨#[]⟩ : ByteArray).size ≤ maxLen by decide +kernel, ⟨show (-9223372036854775808 : Int) ≤ 1 by omega, show (1 : Int) ≤ 9223372036854775807 by omega⟩⟩).mono (by rintro e wq ⟨h1, h2, h3⟩; exact ⟨h1.trans (congrArg (fun z => Ending.returned (.int .i64 z)) (t_E m)), h2, h3⟩))
      go_upto_region 9 with (go_at_call 33; (with_reducible refine (C3.out).mono ?_); rintro e w4 ⟨rfl, hd_, hb_, -⟩; have HD4 := Lib.hid hd_; have HB4 := Lib.hid (HB3.out.trans hb_); clear hd_ hb_ C3 HD3)
      have k1 := belAlloc (Below.refl w4.heap.size w4) (.cells #[.int .i64 k] 3)
      have HB4x := Lib.hid (belStep HB4.out k1)
      have hz : Ints .i64 (w4.alloc (.cells #[.int .i64 k] 3)) (some ⟨w4.heap.size, 0, none⟩) 1 1 [k] := ints_new (k := .i64) w4 [k] 3 (0, 0) (by unfold maxLen; simp) (fun x hx => by simp at hx; subst hx; exact WalkArith.wf_i64 ⟨by omega, by omega⟩)
      have C4 := Lib.hid (show Calls Try.prog 37 #[.pointer (some ⟨M, 0, none⟩), .slice (some ⟨w4.heap.size, 0, none⟩) 1 1] ((w4.alloc (.cells #[.int .i64 k] 3))) _ from dl_Crash w.heap.size M [] _ _ (HD4.out.later k1) (fun b hb => absurd hb List.not_mem_nil) HB4x.out.size (t_len3 l m) _ _ _ _ hz)
      clear k1 hz HD4 HB4
      go_upto_region 10 with (go_at_call 37; (with_reducible refine (C4.out).mono ?_); rintro e w5 ⟨rfl, hd_, hb_, -⟩; have HD5 := Lib.hid (show DKv w.heap.size w5 M [] (tD4 l m k) from hd_); have HB5 := Lib.hid (HB4x.out.trans hb_); clear hd_ hb_ C4 HB4x)
      have C5 := Lib.hid (show Calls Try.prog 45 #[.pointer (some ⟨M, 0, none⟩), .string ⟨#[97]⟩] w5 (fun e w' => ∃ a c, e = .returned (.tuple #[.slice a (tR l m k).length c, .int .i64 0]) ∧ Ints .u8 w' a (tR l m k).length c (tR l m k) ∧ DKv w.heap.size w' M [] (tD4 l m k) ∧ Below w5.heap.size w5 w') from (dl_Read w.heap.size M [] _ w5 HD5.out HB5.out.size (t_len4 l m k) ⟨#[97]⟩ (by decide +kernel)).mono (by rw [t_get]; rintro e wq ⟨a, c, rfl, h1, _, _, h2, h3⟩; exact ⟨a, c, rfl, h1, h2, h3⟩))
      go_upto_region 11 with (go_at_call 45; (with_reducible refine (C5.out).mono ?_); rintro e w6 ⟨ra, rc, rfl, hi_, hd_, hb_⟩; have HD6 := Lib.hid hd_; have HI := Lib.hid hi_; have HB6 := Lib.hid (belStep HB5.out hb_); clear hi_ hd_ hb_ C5 HD5)
      have C6 := Lib.hid (show Calls Try.prog 41 #[.pointer (some ⟨M, 0, none⟩)] w6 (fun e w' => e = .returned (.int .i64 ((0 : Nat) : Int)) ∧ w' = w6) from by have z := dl_Open w.heap.size M [] _ w6 HD6.out HB6.out.size; rw [t_done4] at z; exact z)
      have hv1 := conv_str HI.out
      have hv2 := conv_str (HL.out.later HB6.out)
      have hv3 := conv_str (HM.out.later HB6.out)
      by_cases hk0 : k = 0
      · have e1 : tR l m k = l := by unfold tR; rw [if_pos hk0]
        have hq9 := congrArg strOfNums e1
        rw [hq9] at hv1
        subst hk0
        have e9 := beq_self_eq_true (strOfNums l).toList
        generalize (tR l m 0).length = rl at *
        generalize strOfNums l = sx at *
        go_wp2_with (go_at_call 41; (with_reducible refine (C6.out).mono ?_); rintro e w7 ⟨rfl, hz9⟩; have hz8 := hz9.symm; subst hz8)
        go_ret
        exact ⟨by first | rfl | simp, HB6.out⟩
      · have d0 : (k == (0 : Int)) = false := by rw [beq_eq_false_iff_ne]; exact hk0
        by_cases hkr : 1 ≤ k ∧ k ≤ (m.length : Int)
        · obtain ⟨hr1, hr2⟩ := hkr
          have e1 : tR l m k = m.take (k - 1).toNat := by unfold tR; rw [if_neg hk0, if_pos ⟨hr1, hr2⟩]
          have hv1 := conv_str (HI.out.later (belDrew (Below.refl w6.heap.size w6)))
          have hq9 := congrArg strOfNums e1
          rw [hq9] at hv1
          obtain ⟨j, hj⟩ : ∃ j : Nat, (k - 1).toNat = j := ⟨_, rfl⟩
          have hkj : k - 1 = (j : Int) := by omega
          have hjl : j ≤ m.length := by omega
          have hjc : (j : Int) ≤ (lc : Int) := by omega
          have hwj : IntKind.i64.wrap (j : Int) = (j : Int) := IntWalk.i64_in _ (by omega)
          have hj0 : (0 : Int) ≤ (j : Int) := by omega
          rw [hj] at hv1
          clear hj
          have hv4 := conv_str (ints_takeD ((HM.out.later HB6.out).later (belDrew (Below.refl w6.heap.size w6))) hjl)
          have d1 : decide (k < (0 : Int)) = false := decide_eq_false (by omega)
          have d2 : decide ((m.length : Int) < k) = false := decide_eq_false (by omega)
          have e9 := beq_self_eq_true (strOfNums (m.take j)).toList
          generalize (tR l m k).length = rl at *
          generalize strOfNums (m.take j) = sx at *
          go_upto_region 17 with (go_at_call 41; (with_reducible refine (C6.out).mono ?_); rintro e w7 ⟨rfl, hz9⟩; have hz8 := hz9.symm; subst hz8)
          go_region
          go_wp2
          go_ret
          exact ⟨by first | rfl | simp, by first | exact HB6.out | exact belDrew HB6.out⟩
        · have e1 : tR l m k = m := by unfold tR; rw [if_neg hk0, if_neg hkr]
          have hq9 := congrArg strOfNums e1
          rw [hq9] at hv1
          have e9 := beq_self_eq_true (strOfNums m).toList
          generalize (tR l m k).length = rl at *
          generalize strOfNums m = sx at *
          by_cases hkn : k < 0
          · have d1 : decide (k < (0 : Int)) = true := decide_eq_true hkn
            go_wp2_with (go_at_call 41; (with_reducible refine (C6.out).mono ?_); rintro e w7 ⟨rfl, hz9⟩; have hz8 := hz9.symm; subst hz8)
            go_ret
            exact ⟨by first | rfl | simp, HB6.out⟩
          · have d1 : decide (k < (0 : Int)) = false := decide_eq_false hkn
            have d2 : decide ((m.length : Int) < k) = true := decide_eq_true (by omega)
            go_wp2_with (go_at_call 41; (with_reducible refine (C6.out).mono ?_); rintro e w7 ⟨rfl, hz9⟩; have hz8 := hz9.symm; subst hz8)
            go_ret
            exact ⟨by first | rfl | simp, HB6.out⟩

set_option maxRecDepth 100000 in
theorem lifted (os : Os) (started : os.Started) (H : Type) (enc : TypeId × Value → H) :
    ReturnsInHanded {} Try.checked os 9 .any (Rows.diskTornSpec.pre6 enc Try.prog Try.f9 Rows.diskTornRow.domain false) (Rows.diskTornSpec.post enc Try.prog Try.f9 false true false false) := by
  refine returnsInHanded_of_change (C := Try.checked) own started (by kernel_rfl) Try.func9
    (ChangeSpec.witness6 (enc := enc) (C := Try.checked) false ⟨#[], #[.slice none 0 0, .slice none 0 0, .int .i64 0], []⟩ 8 (by kernel_rfl) (by kernel_rfl) (by kernel_rfl) (by kernel_rfl)) ?_
  intro W base args ds gs before hval0 hW hcnd _
  have hval : ∀ (j : Nat) t v, Try.f9.params[j]? = some t → args[j]? = some v → Value.okWide Try.prog W .any base t v := hval0
  have hW' := hW
  obtain ⟨p, q, hA0, hV, rfl, hfz, hnd⟩ := hW
  have hA : DataW.TrodAll enc Try.prog W 0 (fun _ => true) true Try.f9.params.toList args.toList ds p := hA0
  rw [Try.params9] at hA hval
  obtain ⟨v0, vs0, d0, ds0, p0, q0, hargs, rfl, rfl, h0, r0⟩ := trodAll_cons hA
  obtain ⟨v1, vs1, d1, ds1, p1, q1, rfl, rfl, rfl, h1, r1⟩ := trodAll_cons r0
  obtain ⟨v2, vs2, d2, ds2, p2, q2, rfl, rfl, rfl, h2, r2⟩ := trodAll_cons r1
  obtain ⟨rfl, rfl, rfl⟩ := trodAll_nil r2
  obtain rfl : args = #[v0, v1, v2] := by cases args; simp_all
  obtain ⟨rfl, rfl⟩ := trodVars_none hV
  have k0 := h0
  have lt0 : ∀ x ∈ p0, x.block < W.heap.size := by obtain ⟨m, hm⟩ := k0; exact DataW.trod_lt m _ _ _ hm
  have o0 : Value.okWide Try.prog W .any base 68 v0 := hval 0 68 v0 rfl rfl
  obtain ⟨a0, len0, cap0, rfl⟩ := okWide_slice Try.underlying68 o0
  obtain ⟨z0, w0⟩ : ∃ zs, Ints .u8 W a0 len0 cap0 zs := ints_of_trod Try.underlying68 Try.underlying5 (by kernel_rfl) h0
  have k1 := h1
  have lt1 : ∀ x ∈ p1, x.block < W.heap.size := by obtain ⟨m, hm⟩ := k1; exact DataW.trod_lt m _ _ _ hm
  have o1 : Value.okWide Try.prog W .any base 68 v1 := hval 1 68 v1 rfl rfl
  obtain ⟨a1, len1, cap1, rfl⟩ := okWide_slice Try.underlying68 o1
  obtain ⟨z1, w1⟩ : ∃ zs, Ints .u8 W a1 len1 cap1 zs := ints_of_trod Try.underlying68 Try.underlying5 (by kernel_rfl) h1
  have k2 := h2
  have lt2 : ∀ x ∈ p2, x.block < W.heap.size := by obtain ⟨m, hm⟩ := k2; exact DataW.trod_lt m _ _ _ hm
  have o2 : Value.okWide Try.prog W .any base 3 v2 := hval 2 3 v2 rfl rfl
  obtain ⟨a2, rfl, rfl, rfl, w2⟩ := open_int Try.underlying3 o2 h2
  clear hA0 hval0
  refine (walk a0 len0 cap0 z0 a1 len1 cap1 z1 a2 W w0 w1 (inI_of_wf w2)).mono fun e W' ⟨he, bel⟩ => ?_
  subst he
  exact ⟨_, rfl, _, _, _, [], _, [], hW', trodAll_mk1 (shut_bool Try.underlying4 _), (trodAll_cons_mk (Below.trod laidOut (by kernel_rfl) (of_decide_eq_true (by kernel_rfl)) k0 bel lt0) (trodAll_cons_mk (Below.trod laidOut (by kernel_rfl) (of_decide_eq_true (by kernel_rfl)) k1 bel lt1) (trodAll_cons_mk (Below.trod laidOut (by kernel_rfl) (of_decide_eq_true (by kernel_rfl)) k2 bel lt2) trodAll_mk0))), rfl, bel.frame _, fun h => by cases h⟩

theorem over : Rows.diskTornRow.holds Try.pinned (OpenSpec.ofChange Rows.diskTornSpec) :=
  OpenClaim.holds_of_wide 9 Try.f9 rfl rfl rfl rfl rfl rfl rfl ⟨rfl, rfl, rfl, rfl, rfl⟩ rfl rfl rfl rfl rfl (by kernel_rfl) Try.func9 (by kernel_rfl)
    (of_decide_eq_true (by kernel_rfl)) (by unfold Func.isWrapper; first | (rw [if_pos (by decide +kernel)]; kernel_rfl) | (rw [if_neg (by decide +kernel)]; exact ⟨rfl, rfl⟩))
    (fun os started H enc _ => lifted os started H enc)

/-- The statement. -/
theorem proved : Rows.DiskTornSaid := over
#print axioms proved

end Go.Proofs.Ytcnjcldfbidkmaa.diskTorn
