/- FramePuts holds for every version and body. No conditions. -/
import Derived.Test.YtbochncjmcblkaaAwake09
namespace Go.Proofs.Ytbochncjmcblkaa.framePuts
open Go.ChangeShapes Go.WideShapes Go.ChangeAt Go.RowKit
open Go.ChangeMaps (open_string shut_string)
set_option linter.unusedVariables false
set_option linter.unusedSimpArgs false

set_option maxRecDepth 100000 in
set_option maxHeartbeats 8000000 in
theorem walk (v : Int) (a : Option Addr) (len cap : Nat) (l : List Int) (w : World) (hv : InI v) (hl : Ints .u8 w a len cap l) :
    Calls Try.prog 8 #[.int .i64 v, .slice a len cap] w fun e w' => e = .returned (.bool true) ∧ Below w.heap.size w w' := by
  have hw : Below w.heap.size w w := Below.refl _ _
  have hbel := hw
  have hb := hl.bounds.2
  have HL := Lib.hid hl
  have HV := Lib.hid hv
  obtain ⟨i0, hi0, hz, hsz, hbs⟩ : ∃ i, Try.prog.info? 5 = some i ∧ i.zero = some (.int .u8 0) ∧ i.size = 1 ∧ i.bytes = 1 := by
    have hi := info_u8
    cases hpp : Try.prog.info? 5 with
    | none => rw [hpp] at hi; simp at hi
    | some i => rw [hpp] at hi; simp at hi; exact ⟨i, rfl, hi.1, hi.2.1, hi.2.2⟩
  have hbytes := Lib.hid (show i0.bytes * 1048577 ≤ 281474976710656 by rw [hbs]; omega)
  have HZ := Lib.hid hz
  have HS := Lib.hid hsz
  have HI0 := Lib.hid hi0
  unfold InI at hv
  clear hl hi0 hz hsz hbs
  by_cases h3000 : 3000 < len
  · go_enter Try.func8, Try.ntmps8
    go_wp2_with (first | (go_at_call 21; (with_reducible refine (awake09 _).mono ?_); rintro e w1 ⟨rfl, hb1⟩; replace hbel := belStep hbel hb1; clear hb1))
    go_ret
    exact ⟨rfl, hbel⟩
  by_cases hr : v < 0 ∨ 4294967295 < v
  · have hr3 : v < 0 ∨ 4294967295 < v ∨ 1048576 < len := by omega
    have CN := Lib.hid (fun u => frame_Put_no v a len cap u HV.out hb hr3)
    clear hr3
    rcases hr with hr | hr
    · go_enter Try.func8, Try.ntmps8
      go_wp2_with (first | (go_at_call 21; (with_reducible refine (awake09 _).mono ?_); rintro e w1 ⟨rfl, hb1⟩; replace hbel := belStep hbel hb1; clear hb1) | (go_at_call 22; (with_reducible refine (CN.out _).mono ?_); rintro e w4 ⟨rfl, rfl⟩) | (at_make; refine wpList_make_full _ rfl _ _ 22 rfl w1.heap.size 5 i0 (.int .u8 0) 1 Try.underlying22 HI0.out HZ.out HS.out .i64 .i64 _ _ 1048577 rfl rfl rfl rfl hbytes.out (by unfold maxLen; omega) (Nat.le_refl _) ?_; intro w2 ho2 hg2; replace hbel := belStep hbel ((Below.refl _ _).grown hg2 (Nat.le_refl _) (fun q hq => by cases hq)); clear ho2 hg2) | (go_at_call 22; (with_reducible refine (frame_Put_no 0 _ 1048577 1048577 _ (by unfold InI; omega) (by omega) (.inr (.inr (by omega)))).mono ?_); rintro e w5 ⟨rfl, rfl⟩))
      go_ret
      exact ⟨rfl, hbel⟩
    · by_cases h0 : v < 0
      · omega
      go_enter Try.func8, Try.ntmps8
      go_wp2_with (first | (go_at_call 21; (with_reducible refine (awake09 _).mono ?_); rintro e w1 ⟨rfl, hb1⟩; replace hbel := belStep hbel hb1; clear hb1) | (go_at_call 22; (with_reducible refine (CN.out _).mono ?_); rintro e w4 ⟨rfl, rfl⟩) | (at_make; refine wpList_make_full _ rfl _ _ 22 rfl w1.heap.size 5 i0 (.int .u8 0) 1 Try.underlying22 HI0.out HZ.out HS.out .i64 .i64 _ _ 1048577 rfl rfl rfl rfl hbytes.out (by unfold maxLen; omega) (Nat.le_refl _) ?_; intro w2 ho2 hg2; replace hbel := belStep hbel ((Below.refl _ _).grown hg2 (Nat.le_refl _) (fun q hq => by cases hq)); clear ho2 hg2) | (go_at_call 22; (with_reducible refine (frame_Put_no 0 _ 1048577 1048577 _ (by unfold InI; omega) (by omega) (.inr (.inr (by omega)))).mono ?_); rintro e w5 ⟨rfl, rfl⟩))
      go_ret
      exact ⟨rfl, hbel⟩
  · obtain ⟨n, rfl⟩ : ∃ n : Nat, v = n := ⟨v.toNat, by omega⟩
    have hn : n < 4294967296 := by omega
    have h0 : ¬ ((n : Int) < 0) := by omega
    have h1 : ¬ (4294967295 < (n : Int)) := by omega
    have CP := Lib.hid (fun u (hu : Below w.heap.size w u) => frame_Put n a len cap l u hn (HL.out.later hu) (by omega))
    have CR := Lib.hid (fun u (hu : Below w.heap.size w u) => fref_Put n a len cap l u hn (HL.out.later hu) (by omega))
    have HWF := Lib.hid (fun m hm => wf8 m (frameL_B (v := n) (bytes_of HL.out) m hm))
    have CS := Lib.hid (fun (a2 : Option Addr) (c2 : Nat) (a3 : Option Addr) (c3 : Nat) u (h2 : Ints .u8 u a2 (len + 16) c2 (frameL n l)) (h3 : Ints .u8 u a3 (len + 16) c3 (frameL n l)) => (beq_self_eq_true (frameL n l)) ▸ sref_Same a2 (len + 16) c2 _ a3 (len + 16) c3 _ u h2 h3)
    clear hr
    go_enter Try.func8, Try.ntmps8
    go_wp2_with (first | (go_at_call 21; (with_reducible refine (awake09 _).mono ?_); rintro e w1 ⟨rfl, hb1⟩; replace hbel := belStep hbel hb1; clear hb1) | (go_at_call 22; (with_reducible refine (CP.out _ hbel).mono ?_); rintro e w4 ⟨g4, c4, rfl, _, hi4, hb4⟩; have HX := Lib.hid (ints_ownS hi4 HWF.out); replace hbel := belStep hbel hb4; clear hi4 hb4) | (at_make; refine wpList_make_full _ rfl _ _ 22 rfl w4.heap.size 5 i0 (.int .u8 0) 1 Try.underlying22 HI0.out HZ.out HS.out .i64 .i64 _ _ 1048577 rfl rfl rfl rfl hbytes.out (by unfold maxLen; omega) (Nat.le_refl _) ?_; intro w2 ho2 hg2; have hb2 := ((Below.refl _ _).grown hg2 (Nat.le_refl _) (fun q hq => by cases hq) : Below w4.heap.size w4 w2); replace hbel := belStep hbel hb2; replace HX := Lib.hid (HX.out.later hb2); clear ho2 hg2 hb2) | (go_at_call 22; (with_reducible refine (frame_Put_no 0 _ 1048577 1048577 _ (by unfold InI; omega) (by omega) (.inr (.inr (by omega)))).mono ?_); rintro e w5 ⟨rfl, rfl⟩) | (go_at_call 23; (with_reducible refine (CR.out _ hbel).mono ?_); rintro e w6 ⟨a6, c6, rfl, hi6, hb6⟩; replace HX := Lib.hid (HX.out.later hb6); have HY := Lib.hid hi6; replace hbel := belStep hbel hb6; clear hi6 hb6) | (go_at_call 17; (with_reducible refine (CS.out _ _ _ _ _ HX.out HY.out).mono ?_); rintro e w9 ⟨rfl, rfl⟩))
    go_ret
    exact ⟨rfl, hbel⟩

set_option maxRecDepth 100000 in
theorem lifted (os : Os) (started : os.Started) (H : Type) (enc : TypeId × Value → H) :
    ReturnsInHanded {} Try.checked os 8 .any (Rows.framePutsSpec.pre6 enc Try.prog Try.f8 Rows.framePutsRow.domain false) (Rows.framePutsSpec.post enc Try.prog Try.f8 false true false false) := by
  refine returnsInHanded_of_change (C := Try.checked) own started (by kernel_rfl) Try.func8
    (ChangeSpec.witness6 (enc := enc) (C := Try.checked) false ⟨#[], #[.int .i64 0, .slice none 0 0], []⟩ 8 (by kernel_rfl) (by kernel_rfl) (by kernel_rfl) (by kernel_rfl)) ?_
  intro W base args ds gs before hval0 hW hcnd _
  have hval : ∀ (j : Nat) t v, Try.f8.params[j]? = some t → args[j]? = some v → Value.okWide Try.prog W .any base t v := hval0
  have hW' := hW
  obtain ⟨p, q, hA0, hV, rfl, hfz, hnd⟩ := hW
  have hA : DataW.TrodAll enc Try.prog W 0 (fun _ => true) true Try.f8.params.toList args.toList ds p := hA0
  rw [Try.params8] at hA hval
  obtain ⟨v0, vs0, d0, ds0, p0, q0, hargs, rfl, rfl, h0, r0⟩ := trodAll_cons hA
  obtain ⟨v1, vs1, d1, ds1, p1, q1, rfl, rfl, rfl, h1, r1⟩ := trodAll_cons r0
  obtain ⟨rfl, rfl, rfl⟩ := trodAll_nil r1
  obtain rfl : args = #[v0, v1] := by cases args; simp_all
  obtain ⟨rfl, rfl⟩ := trodVars_none hV
  have k0 := h0
  have lt0 : ∀ x ∈ p0, x.block < W.heap.size := by obtain ⟨m, hm⟩ := k0; exact DataW.trod_lt m _ _ _ hm
  have o0 : Value.okWide Try.prog W .any base 3 v0 := hval 0 3 v0 rfl rfl
  obtain ⟨a0, rfl, rfl, rfl, w0⟩ := open_int Try.underlying3 o0 h0
  have k1 := h1
  have lt1 : ∀ x ∈ p1, x.block < W.heap.size := by obtain ⟨m, hm⟩ := k1; exact DataW.trod_lt m _ _ _ hm
  have o1 : Value.okWide Try.prog W .any base 22 v1 := hval 1 22 v1 rfl rfl
  obtain ⟨a1, len1, cap1, rfl⟩ := okWide_slice Try.underlying22 o1
  obtain ⟨z1, w1⟩ : ∃ zs, Ints .u8 W a1 len1 cap1 zs := ints_of_trod Try.underlying22 Try.underlying5 (by kernel_rfl) h1
  clear hA0 hval0
  refine (walk a0 a1 len1 cap1 z1 W (inI_of_wf w0) w1).mono fun e W' ⟨he, bel⟩ => ?_
  subst he
  exact ⟨_, rfl, _, _, _, [], _, [], hW', trodAll_mk1 (shut_bool Try.underlying4 _), (trodAll_cons_mk (Below.trod laidOut (by kernel_rfl) (of_decide_eq_true (by kernel_rfl)) k0 bel lt0) (trodAll_cons_mk (Below.trod laidOut (by kernel_rfl) (of_decide_eq_true (by kernel_rfl)) k1 bel lt1) trodAll_mk0)), rfl, bel.frame _, fun h => by cases h⟩

theorem over : Rows.framePutsRow.holds Try.pinned (OpenSpec.ofChange Rows.framePutsSpec) :=
  OpenClaim.holds_of_wide 8 Try.f8 rfl rfl rfl rfl rfl rfl rfl ⟨rfl, rfl, rfl, rfl, rfl⟩ rfl rfl rfl rfl rfl (by kernel_rfl) Try.func8 (by kernel_rfl)
    (of_decide_eq_true (by kernel_rfl)) (by unfold Func.isWrapper; first | (rw [if_pos (by decide +kernel)]; kernel_rfl) | (rw [if_neg (by decide +kernel)]; exact ⟨rfl, rfl⟩))
    (fun os started H enc _ => lifted os started H enc)

/-- The statement. -/
theorem proved : Rows.FramePutsSaid := over
#print axioms proved

end Go.Proofs.Ytbochncjmcblkaa.framePuts
