/- FrameKeeps holds for every version and body. No conditions. -/
import Derived.Test.YtbochncjmcblkaaAwake09
namespace Go.Proofs.Ytbochncjmcblkaa.frameKeeps
open Go.ChangeShapes Go.WideShapes Go.ChangeAt Go.RowKit
open Go.ChangeMaps (open_string shut_string)
set_option linter.unusedVariables false
set_option linter.unusedSimpArgs false

set_option maxRecDepth 100000 in
set_option maxHeartbeats 4000000 in
theorem walk (v0 : Int) (a : Option Addr) (len cap : Nat) (l : List Int) (w : World) (hv0 : 0 ≤ v0 ∧ v0 ≤ 4294967295) (hl : Ints .u8 w a len cap l) :
    Calls Try.prog 11 #[.int .u32 v0, .slice a len cap] w fun e w' => e = .returned (.bool true) ∧ Below w.heap.size w w' := by
  have hw : Below w.heap.size w w := Below.refl _ _
  have hbel := hw
  have hb := hl.bounds
  have hby := bytes_of hl
  have HL := Lib.hid hl
  obtain ⟨hln, hb2, hb3⟩ := hb
  obtain ⟨v, rfl⟩ : ∃ n : Nat, v0 = n := ⟨v0.toNat, by omega⟩
  obtain ⟨hv1, hv2⟩ := hv0
  clear hl
  by_cases h1000 : 1000 < len
  · clear hln
    go_enter Try.func11, Try.ntmps11
    go_wp2_with (first | (go_at_call 21; (with_reducible refine (awake09 _).mono ?_); rintro e w1 ⟨rfl, hb1⟩; replace hbel := belStep hbel hb1; clear hb1))
    go_ret
    exact ⟨rfl, hbel⟩
  have HN := Lib.hid hln
  clear hln
  have CP := Lib.hid (fun u (hu : Below w.heap.size w u) => frame_Put v a len cap l u (by omega) (HL.out.later hu) (by omega))
  have HFI := Lib.hid (frame_is (v := v) (x := l) (by omega) (by rw [HN.out]; omega))
  have HPB := Lib.hid (fun m hm => wf8 m (frameL_B (v := v) hby m hm))
  go_enter Try.func11, Try.ntmps11
  go_wp2_with (first | (go_at_call 21; (with_reducible refine (awake09 _).mono ?_); rintro e w1 ⟨rfl, hb1⟩; replace hbel := belStep hbel hb1; clear hb1) | (at_builtin; refine wpList_app_ints rfl _ _ 22 rfl w1.heap.size 5 .u8 1 Try.underlying22 info_u8 _ _ rfl (own_new w1 w1.heap.size 5 .u8 (Nat.le_refl _)) _ len cap l rfl (HL.out.later (belAlloc hbel _)) ?c1 ?c2 ?c3 ?_))
  case c1 => simp only [maxLen, List.length_nil]; omega
  case c2 => simp only [List.length_nil]; omega
  case c3 => simp
  intro v1 w2 ho1 hb1 hg1
  try rw [List.nil_append] at ho1
  replace hbel : Below w.heap.size w w2 := (hbel.trans ((belAlloc (Below.refl _ _) _ : Below w1.heap.size w1 (w1.alloc _)).mono hbel.size)).trans (hb1.mono hbel.size)
  obtain ⟨aw, cw, rfl, hiw⟩ := ints_of_own ho1 (fun m hm => wf8 m (hby m hm))
  rw [HN.out] at hiw ⊢
  have HW := Lib.hid hiw
  clear ho1 hg1 hb1 hiw
  go_wp2_with (first | (go_at_call 22; (with_reducible refine (CP.out _ hbel).mono ?_); rintro e w3 ⟨gx, cx, rfl, hcx, hox, hb3⟩; have HX := Lib.hid (ints_ownS hox HPB.out); have HOX := Lib.hid hox; have CG := Lib.hid (frame_Get_ok _ _ _ _ _ HX.out (by omega) v l len HFI.out HN.out); clear hox) | (go_at_call 24; (with_reducible refine CG.out.mono ?_); rintro e w4 ⟨gy, c4, ay, cy, rfl, ha4, ⟨hq1, hq2, hq3⟩, hoy, hiy, hb4⟩; have HA := Lib.hid ha4; have HY := Lib.hid hoy; clear ha4 hiy hoy))
  replace hb3 : Below w2.heap.size w2 w3 := hb3
  have hs23 : w2.heap.size ≤ w3.heap.size := hb3.size
  have EH := Lib.hid (show (headL v l).length = len + 12 by rw [headL_len, HN.out])
  go_loopw [11] (fun i wr => ∃ k : Nat, k ≤ len ∧ i = .int .i64 k ∧ ∃ l', OwnI wr w3.heap.size 5 .u8 (.slice (some ⟨gy, 0, none⟩) (len + 12) c4) l' ∧ l'.length = len + 12 ∧ Below w3.heap.size w3 wr) (fun i _ => len - (intOf i).toNat)
  case atStart => exact ⟨0, Nat.zero_le _, rfl, headL v l, HY.out, EH.out, hb4⟩
  case round =>
    obtain ⟨k, hk, rfl, l', hown, hl', hbr⟩ := hrel
    by_cases hlt : k < len
    · obtain rfl := HA.out (by omega)
      have x0 := hown.cellAt hl'.symm (i := 12 + k) (by omega)
      have f0 := hown.frozenAt hl'.symm (12 + k)
      have HO := Lib.hid hown
      have HLl := Lib.hid hl'
      obtain ⟨c, ec⟩ : ∃ c, el l' (12 + k) = c := ⟨_, rfl⟩
      rw [ec] at x0
      clear hown hl' ec
      go_wp2
      go_roundw
      case rel => exact ⟨k + 1, by omega, by push_cast; rfl, _, HO.out.set HLl.out.symm _ _, by rw [List.length_set]; exact HLl.out, hbr.setCell hq1 _⟩
      case measure => simp [intOf] <;> omega
    · obtain rfl : k = len := by omega
      clear hown hl'
      have HXr := Lib.hid (HX.out.later hbr)
      have hb2r : Below w2.heap.size w2 wr := belStep hb3 hbr
      have hbw : Below w.heap.size w wr := belStep hbel hb2r
      have CRP := Lib.hid (fref_Put v aw k cw l wr (by omega) (HW.out.later hb2r) (by omega))
      have CS := Lib.hid (fun (a2 : Option Addr) (c2 : Nat) (a3 : Option Addr) (c3 : Nat) u (h2 : Ints .u8 u a2 (k + 16) c2 (frameL v l)) (h3 : Ints .u8 u a3 (k + 16) c3 (frameL v l)) => (beq_self_eq_true (frameL v l)) ▸ sref_Same a2 (k + 16) c2 _ a3 (k + 16) c3 _ u h2 h3)
      go_wp2_with (first | (go_at_call 23; (with_reducible refine CRP.out.mono ?_); rintro e w5 ⟨a8, c8, rfl, hi8, hb8⟩; replace HXr := Lib.hid (HXr.out.later hb8); have H8 := Lib.hid hi8; clear hi8) | (go_at_call 17; (with_reducible refine (CS.out _ _ _ _ _ HXr.out H8.out).mono ?_); rintro e w9 ⟨rfl, rfl⟩))
      have HOr := Lib.hid (HOX.out.later (belStep hbr hb8))
      have hb25 : Below w2.heap.size w2 w5 := belStep hb2r hb8
      have HLX := Lib.hid (show (frameL v l).length = k + 16 by rw [frameL_len, HN.out])
      have CSb := Lib.hid (fun u (hu : Below w2.heap.size w2 u) => (beq_self_eq_true l) ▸ sref_Same a k cap l aw k cw l u (HL.out.later (belStep hbel hu)) (HW.out.later hu))
      clear hb8 hbw hb2r hbr
      obtain ⟨hgx1, hgx2, hgx3, hgx4⟩ := hcx
      go_loopw [13] (fun i wr => ∃ j : Nat, j ≤ k + 16 ∧ i = .int .i64 j ∧ ∃ l', OwnI wr w2.heap.size 5 .u8 (.slice (some ⟨gx, 0, none⟩) (k + 16) cx) l' ∧ l'.length = k + 16 ∧ Below w2.heap.size w2 wr) (fun i _ => k + 16 - (intOf i).toNat)
      case atStart => exact ⟨0, Nat.zero_le _, rfl, _, HOr.out, HLX.out, hb25⟩
      case round =>
        obtain ⟨j, hj, rfl, l', hown, hl', hbr⟩ := hrel
        by_cases hlt : j < k + 16
        · have x0 := hown.cellAt hl'.symm hlt
          have f0 := hown.frozenAt hl'.symm j
          have HO := Lib.hid hown
          have HLl := Lib.hid hl'
          obtain ⟨c, ec⟩ : ∃ c, el l' j = c := ⟨_, rfl⟩
          rw [ec] at x0
          clear hown hl' ec
          go_wp2
          go_roundw
          case rel => exact ⟨j + 1, by omega, by push_cast; rfl, _, HO.out.set HLl.out.symm _ _, by rw [List.length_set]; exact HLl.out, hbr.setCell hgx1 _⟩
          case measure => simp [intOf] <;> omega
        · obtain rfl : j = k + 16 := by omega
          clear hown hl'
          go_wp2_with (first | (go_at_call 17; (with_reducible refine (CSb.out _ hbr).mono ?_); rintro e w9 ⟨rfl, rfl⟩))
          go_ret
          exact ⟨rfl, belStep hbel hbr⟩

set_option maxRecDepth 100000 in
theorem lifted (os : Os) (started : os.Started) (H : Type) (enc : TypeId × Value → H) :
    ReturnsInHanded {} Try.checked os 11 .any (Rows.frameKeepsSpec.pre6 enc Try.prog Try.f11 Rows.frameKeepsRow.domain false) (Rows.frameKeepsSpec.post enc Try.prog Try.f11 false true false false) := by
  refine returnsInHanded_of_change (C := Try.checked) own started (by kernel_rfl) Try.func11
    (ChangeSpec.witness6 (enc := enc) (C := Try.checked) false ⟨#[], #[.int .u32 0, .slice none 0 0], []⟩ 8 (by kernel_rfl) (by kernel_rfl) (by kernel_rfl) (by kernel_rfl)) ?_
  intro W base args ds gs before hval0 hW hcnd _
  have hval : ∀ (j : Nat) t v, Try.f11.params[j]? = some t → args[j]? = some v → Value.okWide Try.prog W .any base t v := hval0
  have hW' := hW
  obtain ⟨p, q, hA0, hV, rfl, hfz, hnd⟩ := hW
  have hA : DataW.TrodAll enc Try.prog W 0 (fun _ => true) true Try.f11.params.toList args.toList ds p := hA0
  rw [Try.params11] at hA hval
  obtain ⟨v0, vs0, d0, ds0, p0, q0, hargs, rfl, rfl, h0, r0⟩ := trodAll_cons hA
  obtain ⟨v1, vs1, d1, ds1, p1, q1, rfl, rfl, rfl, h1, r1⟩ := trodAll_cons r0
  obtain ⟨rfl, rfl, rfl⟩ := trodAll_nil r1
  obtain rfl : args = #[v0, v1] := by cases args; simp_all
  obtain ⟨rfl, rfl⟩ := trodVars_none hV
  have k0 := h0
  have lt0 : ∀ x ∈ p0, x.block < W.heap.size := by obtain ⟨m, hm⟩ := k0; exact DataW.trod_lt m _ _ _ hm
  have o0 : Value.okWide Try.prog W .any base 24 v0 := hval 0 24 v0 rfl rfl
  obtain ⟨a0, rfl, rfl, rfl, w0⟩ := open_int Try.underlying24 o0 h0
  have k1 := h1
  have lt1 : ∀ x ∈ p1, x.block < W.heap.size := by obtain ⟨m, hm⟩ := k1; exact DataW.trod_lt m _ _ _ hm
  have o1 : Value.okWide Try.prog W .any base 22 v1 := hval 1 22 v1 rfl rfl
  obtain ⟨a1, len1, cap1, rfl⟩ := okWide_slice Try.underlying22 o1
  obtain ⟨z1, w1⟩ : ∃ zs, Ints .u8 W a1 len1 cap1 zs := ints_of_trod Try.underlying22 Try.underlying5 (by kernel_rfl) h1
  clear hA0 hval0
  refine (walk a0 a1 len1 cap1 z1 W (in32_of_wf w0) w1).mono fun e W' ⟨he, bel⟩ => ?_
  subst he
  exact ⟨_, rfl, _, _, _, [], _, [], hW', trodAll_mk1 (shut_bool Try.underlying4 _), (trodAll_cons_mk (Below.trod laidOut (by kernel_rfl) (of_decide_eq_true (by kernel_rfl)) k0 bel lt0) (trodAll_cons_mk (Below.trod laidOut (by kernel_rfl) (of_decide_eq_true (by kernel_rfl)) k1 bel lt1) trodAll_mk0)), rfl, bel.frame _, fun h => by cases h⟩

theorem over : Rows.frameKeepsRow.holds Try.pinned (OpenSpec.ofChange Rows.frameKeepsSpec) :=
  OpenClaim.holds_of_wide 11 Try.f11 rfl rfl rfl rfl rfl rfl rfl ⟨rfl, rfl, rfl, rfl, rfl⟩ rfl rfl rfl rfl rfl (by kernel_rfl) Try.func11 (by kernel_rfl)
    (of_decide_eq_true (by kernel_rfl)) (by unfold Func.isWrapper; first | (rw [if_pos (by decide +kernel)]; kernel_rfl) | (rw [if_neg (by decide +kernel)]; exact ⟨rfl, rfl⟩))
    (fun os started H enc _ => lifted os started H enc)

/-- The statement. -/
theorem proved : Rows.FrameKeepsSaid := over
#print axioms proved

end Go.Proofs.Ytbochncjmcblkaa.frameKeeps
