/- FrameGets holds for every slice of bytes. No conditions. -/
import Derived.Test.YtbochncjmcblkaaAwake09
namespace Go.Proofs.Ytbochncjmcblkaa.frameGets
open Go.ChangeShapes Go.WideShapes Go.ChangeAt Go.RowKit
open Go.ChangeMaps (open_string shut_string)
set_option linter.unusedVariables false
set_option linter.unusedSimpArgs false

set_option maxRecDepth 100000 in
set_option maxHeartbeats 8000000 in
theorem walk (a : Option Addr) (len cap : Nat) (l : List Int) (w : World) (hl : Ints .u8 w a len cap l) :
    Calls Try.prog 10 #[.slice a len cap] w fun e w' => e = .returned (.bool true) ∧ Below w.heap.size w w' := by
  have hw : Below w.heap.size w w := Below.refl _ _
  have hbel := hw
  have hb := hl.bounds.2
  have hln := hl.bounds.1
  have HL := Lib.hid hl
  clear hl
  by_cases h3000 : 3000 < len
  · clear hln
    go_enter Try.func10, Try.ntmps10
    go_wp2_with (first | (go_at_call 21; (with_reducible refine (awake09 _).mono ?_); rintro e w1 ⟨rfl, hb1⟩; replace hbel := belStep hbel hb1; clear hb1))
    go_ret
    exact ⟨rfl, hbel⟩
  rcases frame_cases l with ⟨v, x, hf⟩ | hno
  · have hfl := hf.len
    obtain ⟨k, ek⟩ : ∃ k, x.length = k := ⟨_, rfl⟩
    rw [ek, hln] at hfl
    subst hfl
    have el := hf.1
    have CG := Lib.hid (fun u (hu : Below w.heap.size w u) => frame_Get_ok a (k + 16) cap l u (HL.out.later hu) (by omega) v x k hf ek)
    have CR := Lib.hid (fun u (hu : Below w.heap.size w u) => fref_Get_ok a k cap l u (HL.out.later hu) (by omega) v x hf)
    have CS := Lib.hid (fun (a2 : Option Addr) (c2 : Nat) (a3 : Option Addr) (c3 : Nat) u (h2 : Ints .u8 u a2 k c2 x) (h3 : Ints .u8 u a3 k c3 x) => (beq_self_eq_true x) ▸ sref_Same a2 k c2 _ a3 k c3 _ u h2 h3)
    have e2 : (frameL v x == l) = true := by rw [← el]; simp
    have CT := Lib.hid (fun (a2 : Option Addr) (c2 : Nat) u (h2 : Ints .u8 u a2 (k + 16) c2 (frameL v x)) (hu : Below w.heap.size w u) => e2 ▸ sref_Same a2 (k + 16) c2 _ a (k + 16) cap l u h2 (HL.out.later hu))
    have hv := hf.2.1
    have HWF := Lib.hid (fun m hm => wf8 m (frameL_B (v := v) (hf.bytes (bytes_of HL.out)) m hm))
    clear hf ek el e2 hln
    go_enter Try.func10, Try.ntmps10
    go_wp2_with (first | (go_at_call 21; (with_reducible refine (awake09 _).mono ?_); rintro e w1 ⟨rfl, hb1⟩; replace hbel := belStep hbel hb1; clear hb1) | (go_at_call 24; (with_reducible refine (CG.out _ hbel).mono ?_); rintro e w2 ⟨g2, c2, a2, cx2, rfl, _, ⟨_, hq1, hq2⟩, _, hi2, hb2⟩; replace hbel := belStep hbel hb2; have HI := Lib.hid hi2; clear hb2 hi2) | (go_at_call 25; (with_reducible refine (CR.out _ hbel).mono ?_); rintro e w3 ⟨a3, c3, rfl, hi3, hb3⟩; replace hbel := belStep hbel hb3; replace HI := Lib.hid (HI.out.later hb3); have HJ := Lib.hid hi3; have CP := Lib.hid (frame_Put v a2 k cx2 x w3 hv HI.out (by omega)); clear hb3 hi3) | (go_at_call 22; (with_reducible refine CP.out.mono ?_); rintro e w4 ⟨g4, c4, rfl, _, hi4, hb4⟩; have HX := Lib.hid (ints_ownS hi4 HWF.out); replace HI := Lib.hid (HI.out.later hb4); replace HJ := Lib.hid (HJ.out.later hb4); replace hbel := belStep hbel hb4; clear hi4 hb4) | (go_at_call 17; (with_reducible refine (CS.out _ _ _ _ _ HI.out HJ.out).mono ?_); rintro e w9 ⟨rfl, rfl⟩) | (go_at_call 17; (with_reducible refine (CT.out _ _ _ HX.out hbel).mono ?_); rintro e w9 ⟨rfl, rfl⟩))
    go_ret
    exact ⟨rfl, hbel⟩
  · have CG := Lib.hid (fun u (hu : Below w.heap.size w u) => frame_Get_no a len cap l u (HL.out.later hu) (by omega) hno)
    have CR := Lib.hid (fun u (hu : Below w.heap.size w u) => fref_Get_no a len cap l u (HL.out.later hu) (by omega) hno)
    clear hno hln
    go_enter Try.func10, Try.ntmps10
    go_wp2_with (first | (go_at_call 21; (with_reducible refine (awake09 _).mono ?_); rintro e w1 ⟨rfl, hb1⟩; replace hbel := belStep hbel hb1; clear hb1) | (go_at_call 24; (with_reducible refine (CG.out _ hbel).mono ?_); rintro e w1 ⟨rfl, hb1⟩; replace hbel := belStep hbel hb1; clear hb1) | (go_at_call 25; (with_reducible refine (CR.out _ hbel).mono ?_); rintro e w1 ⟨rfl, hb1⟩; replace hbel := belStep hbel hb1; clear hb1))
    go_ret
    exact ⟨rfl, hbel⟩

set_option maxRecDepth 100000 in
theorem lifted (os : Os) (started : os.Started) (H : Type) (enc : TypeId × Value → H) :
    ReturnsInHanded {} Try.checked os 10 .any (Rows.frameGetsSpec.pre6 enc Try.prog Try.f10 Rows.frameGetsRow.domain false) (Rows.frameGetsSpec.post enc Try.prog Try.f10 false true false false) := by
  refine returnsInHanded_of_change (C := Try.checked) own started (by kernel_rfl) Try.func10
    (ChangeSpec.witness6 (enc := enc) (C := Try.checked) false ⟨#[], #[.slice none 0 0], []⟩ 8 (by kernel_rfl) (by kernel_rfl) (by kernel_rfl) (by kernel_rfl)) ?_
  intro W base args ds gs before hval0 hW hcnd _
  have hval : ∀ (j : Nat) t v, Try.f10.params[j]? = some t → args[j]? = some v → Value.okWide Try.prog W .any base t v := hval0
  have hW' := hW
  obtain ⟨p, q, hA0, hV, rfl, hfz, hnd⟩ := hW
  have hA : DataW.TrodAll enc Try.prog W 0 (fun _ => true) true Try.f10.params.toList args.toList ds p := hA0
  rw [Try.params10] at hA hval
  obtain ⟨v0, vs0, d0, ds0, p0, q0, hargs, rfl, rfl, h0, r0⟩ := trodAll_cons hA
  obtain ⟨rfl, rfl, rfl⟩ := trodAll_nil r0
  obtain rfl : args = #[v0] := by cases args; simp_all
  obtain ⟨rfl, rfl⟩ := trodVars_none hV
  have k0 := h0
  have lt0 : ∀ x ∈ p0, x.block < W.heap.size := by obtain ⟨m, hm⟩ := k0; exact DataW.trod_lt m _ _ _ hm
  have o0 : Value.okWide Try.prog W .any base 22 v0 := hval 0 22 v0 rfl rfl
  obtain ⟨a0, len0, cap0, rfl⟩ := okWide_slice Try.underlying22 o0
  obtain ⟨z0, w0⟩ : ∃ zs, Ints .u8 W a0 len0 cap0 zs := ints_of_trod Try.underlying22 Try.underlying5 (by kernel_rfl) h0
  clear hA0 hval0
  refine (walk a0 len0 cap0 z0 W w0).mono fun e W' ⟨he, bel⟩ => ?_
  subst he
  exact ⟨_, rfl, _, _, _, [], _, [], hW', trodAll_mk1 (shut_bool Try.underlying4 _), (trodAll_cons_mk (Below.trod laidOut (by kernel_rfl) (of_decide_eq_true (by kernel_rfl)) k0 bel lt0) trodAll_mk0), rfl, bel.frame _, fun h => by cases h⟩

theorem over : Rows.frameGetsRow.holds Try.pinned (OpenSpec.ofChange Rows.frameGetsSpec) :=
  OpenClaim.holds_of_wide 10 Try.f10 rfl rfl rfl rfl rfl rfl rfl ⟨rfl, rfl, rfl, rfl, rfl⟩ rfl rfl rfl rfl rfl (by kernel_rfl) Try.func10 (by kernel_rfl)
    (of_decide_eq_true (by kernel_rfl)) (by unfold Func.isWrapper; first | (rw [if_pos (by decide +kernel)]; kernel_rfl) | (rw [if_neg (by decide +kernel)]; exact ⟨rfl, rfl⟩))
    (fun os started H enc _ => lifted os started H enc)

/-- The statement. -/
theorem proved : Rows.FrameGetsSaid := over
#print axioms proved

end Go.Proofs.Ytbochncjmcblkaa.frameGets
