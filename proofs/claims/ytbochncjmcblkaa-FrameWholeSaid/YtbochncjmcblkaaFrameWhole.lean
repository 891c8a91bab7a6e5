/- FrameWhole holds for every version, body, place, turn and byte more. No conditions. -/
import Derived.Test.YtbochncjmcblkaaAwake09
namespace Go.Proofs.Ytbochncjmcblkaa.frameWhole
open Go.ChangeShapes Go.WideShapes Go.ChangeAt Go.RowKit
open Go.ChangeMaps (open_string shut_string)
set_option linter.unusedVariables false
set_option linter.unusedSimpArgs false

theorem no_cut {l : List Int} (h : cutOk l = false) : NoFrame l := fun v x hf => by
  have := (cutOk_iff (b := l)).2 ⟨_, hf.1⟩
  rw [h] at this; cases this

theorem xor_pow (c p : Nat) (hc : c < 256) : bits .xor .u8 (c : Int) (2 ^ (p % 8) % 256) = ((c ^^^ 2 ^ (p % 8) : Nat) : Int) := by
  have hm8 : p % 8 < 8 := by omega
  have hp : 2 ^ (p % 8) < 256 := by
    calc 2 ^ (p % 8) < 2 ^ 8 := Nat.pow_lt_pow_right (by omega) hm8
      _ = 256 := rfl
  have := xor8 c (2 ^ (p % 8)) hc hp
  rw [← this]
  congr 1
  have e3 : ((2 ^ (p % 8) : Nat) : Int) = (2 : Int) ^ (p % 8) := by push_cast; rfl
  rw [← e3]
  exact Int.emod_eq_of_lt (Int.natCast_nonneg _) (Int.ofNat_lt.2 hp)

set_option maxRecDepth 100000 in
set_option maxHeartbeats 16000000 in
theorem walk (v0 : Int) (a : Option Addr) (len cap : Nat) (l : List Int) (at0 turn more : Int) (w : World) (hv0 : 0 ≤ v0 ∧ v0 ≤ 4294967295) (hl : Ints .u8 w a len cap l) (hat : 0 ≤ at0 ∧ at0 ≤ 65535) (htu : 0 ≤ turn ∧ turn ≤ 4294967295) (hmo : 0 ≤ more ∧ more ≤ 255) :
    Calls Try.prog 9 #[.int .u32 v0, .slice a len cap, .int .u16 at0, .int .u32 turn, .int .u8 more] w fun e w' => e = .returned (.bool true) ∧ Below w.heap.size w w' := by
  have hw : Below w.heap.size w w := Below.refl _ _
  have hbel := hw
  obtain ⟨hln, hb⟩ := hl.bounds
  have hby := bytes_of hl
  have HL := Lib.hid hl
  obtain ⟨v, rfl⟩ : ∃ n : Nat, v0 = n := ⟨v0.toNat, by omega⟩
  obtain ⟨hv1, hv2⟩ := hv0
  obtain ⟨ha1, ha2⟩ := hat
  obtain ⟨ht1, ht2⟩ := htu
  obtain ⟨hm1, hm2⟩ := hmo
  clear hl
  by_cases h1000 : 1000 < len
  · clear hln
    go_enter Try.func9, Try.ntmps9
    go_wp2_with (first | (go_at_call 21; (with_reducible refine (awake09 _).mono ?_); rintro e w1 ⟨rfl, hb1⟩; replace hbel := belStep hbel hb1; clear hb1))
    go_ret
    exact ⟨rfl, hbel⟩
  obtain ⟨t, rfl⟩ : ∃ t : Nat, turn = t := ⟨turn.toNat, by omega⟩
  obtain ⟨q, rfl⟩ : ∃ t : Nat, at0 = t := ⟨at0.toNat, by omega⟩
  have HN := Lib.hid hln
  clear hln
  have hfi := frame_is (v := v) (x := l) (by omega) (by rw [HN.out]; omega)
  have hfb := frameL_B (v := v) hby
  have CP := Lib.hid (fun u (hu : Below w.heap.size w u) => frame_Put v a len cap l u (by omega) (HL.out.later hu) (by omega))
  have CSm := Lib.hid (fun (a2 : Option Addr) (c2 : Nat) u (h2 : Ints .u8 u a2 len c2 l) (hu : Below w.heap.size w u) => (beq_self_eq_true l) ▸ sref_Same a2 len c2 l a len cap l u h2 (HL.out.later hu))
  have HFI := Lib.hid hfi
  have HFB := Lib.hid hfb
  have HWF := Lib.hid (fun m hm => wf8 m (hfb m hm))
  have E1 := Lib.hid (show (frameL v l).length = len + 16 by rw [frameL_len, HN.out])
  clear hby hfi hfb
  go_enter Try.func9, Try.ntmps9
  go_upto_region 8 with (first | (go_at_call 21; (with_reducible refine (awake09 _).mono ?_); rintro e w1 ⟨rfl, hb1⟩; replace hbel := belStep hbel hb1; clear hb1) | (go_at_call 22; (with_reducible refine (CP.out _ hbel).mono ?_); rintro e w3 ⟨gx, cx, rfl, hcx, hox, hb3⟩; have HX := Lib.hid (ints_ownS hox HWF.out); have HOX := Lib.hid hox; have CG := Lib.hid (frame_Get_ok _ _ _ _ _ HX.out (by omega) v l len HFI.out HN.out); clear hox) | (go_at_call 24; (with_reducible refine CG.out.mono ?_); rintro e w4 ⟨g4, c4, ay, cy, rfl, ha4, hq4, ho4, hiy, hb4⟩; have HY := Lib.hid hiy; clear hiy ha4 hq4 ho4) | (go_at_call 17; (with_reducible refine (CSm.out _ _ _ HY.out (belStep (belStep hbel hb3) hb4)).mono ?_); rintro e w9 ⟨rfl, rfl⟩))
  obtain ⟨kk, ek, hkk⟩ : ∃ k : Nat, ((q : Int) % ((len : Int) + 16)) = k ∧ k < len + 16 := by
    have e1 := Int.emod_nonneg (q : Int) (show ((len : Int) + 16) ≠ 0 by omega)
    have e2 := Int.emod_lt_of_pos (q : Int) (show 0 < ((len : Int) + 16) by omega)
    exact ⟨((q : Int) % ((len : Int) + 16)).toNat, by omega, by omega⟩
  rw [ek]
  clear ek
  obtain ⟨hgx1, hgx2, hgx3, hgx4⟩ := hcx
  have hT : Below w3.heap.size w3 w4 := hb4
  have hsz1 : w1.heap.size ≤ w3.heap.size := hb3.size
  have hbw1 : Below w.heap.size w w1 := hbel
  replace hbel := belStep hbel hb3
  have HP := Lib.hid (no_prefix (b := (frameL v l).take kk) (r := (frameL v l).drop kk) (by rw [List.take_append_drop]; exact HFI.out) (fun e => by have := congrArg List.length e; rw [List.length_drop, E1.out] at this; simp at this; omega))
  have HM := Lib.hid (no_more (r := [more]) HFI.out (by simp))
  have CG1 := Lib.hid (fun u (hu : Below w3.heap.size w3 u) => frame_Get_no (some ⟨gx, 0, none⟩) kk cx _ u ((HX.out.later hu).take (n := kk) (by omega) (by simp)) (by omega) HP.out)
  have hkc : (kk : Int) ≤ (cx : Int) := by omega
  have E3 := Lib.hid (show (frameL v l ++ [more]).length = len + 17 by rw [List.length_append, E1.out]; rfl)
  clear HY hb4
  go_wp2_with (first | (go_at_call 24; (with_reducible refine (CG1.out _ hT).mono ?_); rintro e w5 ⟨rfl, hb5⟩; replace hT := belStep hT hb5; have hb4s : w3.heap.size ≤ w5.heap.size := hT.size; clear hb5) | (at_builtin; refine wpList_app_ints rfl _ _ 22 rfl w5.heap.size 5 .u8 1 Try.underlying22 info_u8 _ _ rfl (own_new w5 w5.heap.size 5 .u8 (Nat.le_refl _)) _ (len + 16) cx (frameL v l) rfl (HX.out.later (belAlloc hT _)) (by simp only [maxLen, List.length_nil]; omega) (by simp only [List.length_nil]; omega) (by simp) ?_; intro v6 w6 ho6 hb6 hg6; (try rw [List.nil_append] at ho6); have hb56 := (belAlloc (Below.refl _ _) _ : Below w5.heap.size w5 (w5.alloc _)).trans hb6; have HO := Lib.hid ho6; replace hT := belStep hT hb56; clear ho6 hb6 hg6) | (at_builtin; refine wpList_app_one rfl _ _ 22 rfl w5.heap.size 5 .u8 1 Try.underlying22 info_u8 _ _ rfl (HO.out.alloc (.cells #[.int .u8 more] 5)) _ _ rfl (by simp; rfl) (by rw [E1.out]; simp only [maxLen]; omega) (by rw [E1.out]; omega) (by have := hb56.size; simp; omega) ?_; intro v7 w7 ho7 hb7 hg7 hm7; obtain ⟨a7, c7, rfl, hi7⟩ := ints_of_own ho7 (fun c hc => (List.mem_append.1 hc).elim (HWF.out c) (fun h => by simp at h; subst h; exact wf8 _ ⟨hm1, hm2⟩)); rw [E3.out] at hi7 ⊢; have CG2 := Lib.hid (frame_Get_no a7 (len + 17) c7 _ w7 hi7 (by omega) HM.out); have hs35 := hb56.size; replace hT := (belAlloc hT _).trans (hb7.mono (by have := hb4s; omega)); clear ho7 hb7 hg7 hm7 hi7) | (go_at_call 24; (with_reducible refine CG2.out.mono ?_); rintro e w8 ⟨rfl, hb8⟩; replace hT := belStep hT hb8; clear hb8))
  · go_ret
    exact ⟨rfl, belStep hbel hT⟩
  · obtain ⟨k, ek, hk8⟩ : ∃ k : Nat, ((q : Int) % (8 * ((len : Int) + 16) - 31)) = k ∧ k + 32 ≤ 8 * (len + 16) := by
      have e1 := Int.emod_nonneg (q : Int) (show (8 * ((len : Int) + 16) - 31) ≠ 0 by omega)
      have e2 := Int.emod_lt_of_pos (q : Int) (show 0 < (8 * ((len : Int) + 16) - 31) by omega)
      exact ⟨((q : Int) % (8 * ((len : Int) + 16) - 31)).toNat, by omega, by omega⟩
    rw [ek]
    clear ek
    have hz : ((t : Int) == 0) = false := by assumption
    have h0 : ¬ t = 0 := by
      intro e
      rw [e] at hz
      exact absurd hz (by decide)
    obtain ⟨X, hX1, hX2⟩ := num_of (l := frameL v l) HFB.out
    rw [E1.out] at hX1 hX2
    have hok : cutOk (frameL v l) = true := put_ok _
    rw [← hX2] at hok
    have HO4 := HOX.out.later hT
    rw [← hX2] at HO4
    have BU := Lib.hid (burst X (len + 16) t k hX1 hk8 (by omega) h0 hok)
    have HO := Lib.hid HO4
    have hb14 : Below w1.heap.size w1 w8 := belStep hb3 hT
    have hbw : Below w.heap.size w w1 := hbw1
    have hgw : w1.heap.size ≤ gx := hgx1
    clear HO4 hX1 hX2 hok HOX HX hb3 hT CG1 CG2 HP HM hkk hkc hb4s hs35 hsz1 hgx4 hm1 hm2 ha1 ha2 hv1 hv2 hb hbel hb56 E3 hz h0
    go_loopw [24] (fun i wr => ∃ j : Nat, j ≤ 32 ∧ i = .int .i64 j ∧ OwnI wr w1.heap.size 5 .u8 (.slice (some ⟨gx, 0, none⟩) (len + 16) cx) (tailN (X ^^^ turned t k j) (len + 16)) ∧ Below w1.heap.size w1 wr) (fun i _ => 32 - (intOf i).toNat)
    case atStart => exact ⟨0, Nat.zero_le _, rfl, by simpa [turned] using HO.out, hb14⟩
    case round =>
      obtain ⟨j, hj, rfl, hown, hbr⟩ := hrel
      by_cases hlt : j < 32
      · have x0 := hown.cellAt (i := (k + j) / 8) (tailN_len _ _).symm (by omega)
        have f0 := hown.frozenAt (tailN_len _ _).symm ((k + j) / 8)
        have HOw := Lib.hid hown
        rw [el_tailN _ _ _ (by omega)] at x0
        obtain ⟨c, ec⟩ : ∃ c : Nat, (X ^^^ turned t k j) / 256 ^ ((k + j) / 8) % 256 = c := ⟨_, rfl⟩
        rw [ec] at x0
        have hc8 : c < 256 := by omega
        have EC := Lib.hid ec
        have key : ((bits .and .u32 ((t : Int) / 2 ^ j) 1 == 1) = true ∧ turned t k (j + 1) = turned t k j ^^^ 2 ^ (k + j)) ∨ ((bits .and .u32 ((t : Int) / 2 ^ j) 1 == 1) = false ∧ turned t k (j + 1) = turned t k j) := by
          have e1 := and1 (t / 2 ^ j) (Nat.lt_of_le_of_lt (Nat.div_le_self _ _) (by omega))
          have e2 : ((t / 2 ^ j : Nat) : Int) = (t : Int) / 2 ^ j := by push_cast; rfl
          rw [e2] at e1
          rw [e1]
          have hts : turned t k (j + 1) = if t / 2 ^ j % 2 = 1 then turned t k j ^^^ 2 ^ (k + j) else turned t k j := rfl
          rw [hts]
          rcases Nat.mod_two_eq_zero_or_one (t / 2 ^ j) with z | z
          · right; rw [z]; exact ⟨by decide, by rw [if_neg (by omega)]⟩
          · left; rw [z]; exact ⟨by decide, by rw [if_pos rfl]⟩
        have hm8 : (k + j) % 8 < 8 := by omega
        have hbit := xor_pow c (k + j) hc8
        have HB := Lib.hid hbit
        clear hown ec hbit
        rcases key with ⟨k1, k2⟩ | ⟨k1, k2⟩
        · have K2 := Lib.hid k2
          clear k2
          go_wp2
          go_roundw
          case rel =>
            refine ⟨j + 1, by omega, by push_cast; rfl, ?_, hbr.setCell (by omega) _⟩
            have h5 := HOw.out.set (tailN_len _ _).symm ((k + j) / 8) (bits .xor .u8 (c : Int) (2 ^ ((k + j) % 8) % 256))
            rw [K2.out, ← Nat.xor_assoc, tail_flip _ _ _ (by omega), EC.out, ← HB.out]
            exact h5
          case measure => simp [intOf] <;> omega
        · have K2 := Lib.hid k2
          clear k2
          go_wp2
          go_roundw
          case rel => exact ⟨j + 1, by omega, by push_cast; rfl, by rw [K2.out]; exact HOw.out, hbr⟩
          case measure => simp [intOf] <;> omega
      · obtain rfl : j = 32 := by omega
        have hi := ints_ownS hown (fun m hm => wf8 m (tailN_Bytes _ _ m hm))
        have CN := Lib.hid (frame_Get_no _ (len + 16) cx _ wr hi (by omega) (no_cut BU.out))
        clear hown hi
        go_wp2_with (go_at_call 24; (with_reducible refine CN.out.mono ?_); rintro e w5 ⟨rfl, hb5⟩)
        go_ret
        exact ⟨rfl, belStep (belStep hbw hbr) hb5⟩

set_option maxRecDepth 100000 in
theorem lifted (os : Os) (started : os.Started) (H : Type) (enc : TypeId × Value → H) :
    ReturnsInHanded {} Try.checked os 9 .any (Rows.frameWholeSpec.pre6 enc Try.prog Try.f9 Rows.frameWholeRow.domain false) (Rows.frameWholeSpec.post enc Try.prog Try.f9 false true false false) := by
  refine returnsInHanded_of_change (C := Try.checked) own started (by kernel_rfl) Try.func9
    (ChangeSpec.witness6 (enc := enc) (C := Try.checked) false ⟨#[], #[.int .u32 0, .slice none 0 0, .int .u16 0, .int .u32 0, .int .u8 0], []⟩ 8 (by kernel_rfl) (by kernel_rfl) (by kernel_rfl) (by kernel_rfl)) ?_
  intro W base args ds gs before hval0 hW hcnd _
  have hval : ∀ (j : Nat) t v, Try.f9.params[j]? = some t → args[j]? = some v → Value.okWide Try.prog W .any base t v := hval0
  have hW' := hW
  obtain ⟨p, q, hA0, hV, rfl, hfz, hnd⟩ := hW
  have hA : DataW.TrodAll enc Try.prog W 0 (fun _ => true) true Try.f9.params.toList args.toList ds p := hA0
  rw [Try.params9] at hA hval
  obtain ⟨v0, vs0, d0, ds0, p0, q0, hargs, rfl, rfl, h0, r0⟩ := trodAll_cons hA
  obtain ⟨v1, vs1, d1, ds1, p1, q1, rfl, rfl, rfl, h1, r1⟩ := trodAll_cons r0
  obtain ⟨v2, vs2, d2, ds2, p2, q2, rfl, rfl, rfl, h2, r2⟩ := trodAll_cons r1
  obtain ⟨v3, vs3, d3, ds3, p3, q3, rfl, rfl, rfl, h3, r3⟩ := trodAll_cons r2
  obtain ⟨v4, vs4, d4, ds4, p4, q4, rfl, rfl, rfl, h4, r4⟩ := trodAll_cons r3
  obtain ⟨rfl, rfl, rfl⟩ := trodAll_nil r4
  obtain rfl : args = #[v0, v1, v2, v3, v4] := by cases args; simp_all
  obtain ⟨rfl, rfl⟩ := trodVars_none hV
  have k0 := h0
  have lt0 : ∀ x ∈ p0, x.block < W.heap.size := by obtain ⟨m, hm⟩ := k0; exact DataW.trod_lt m _ _ _ hm
  have o0 : Value.okWide Try.prog W .any base 24 v0 := hval 0 24 v0 rfl rfl
  obtain ⟨a0, rfl, rfl, rfl, w0⟩ := open_int Try.underlying24 o0 h0
  have k1 := h1
  have lt1 : ∀ x ∈ p1, x.block < W.heap.size := by obtain ⟨m, hm⟩ := k1; exact DataW.trod_lt m _ _ _ hm
  have o1 : Value.okWide Try.prog W .any base 22 v1 := hval 1 22 v1 rfl rfl
  obtain ⟨a1, len1, cap1, rfl⟩ := okWide_slice Try.underlying22 o1
  obtain ⟨z1, w1⟩ : ∃ zs, Ints .u8 W a1 len1 cap1 zs := ints_of_trod Try.underlying22 Try.underlying5 (by kernel_rfl) h1
  have k2 := h2
  have lt2 : ∀ x ∈ p2, x.block < W.heap.size := by obtain ⟨m, hm⟩ := k2; exact DataW.trod_lt m _ _ _ hm
  have o2 : Value.okWide Try.prog W .any base 30 v2 := hval 2 30 v2 rfl rfl
  obtain ⟨a2, rfl, rfl, rfl, w2⟩ := open_int Try.underlying30 o2 h2
  have k3 := h3
  have lt3 : ∀ x ∈ p3, x.block < W.heap.size := by obtain ⟨m, hm⟩ := k3; exact DataW.trod_lt m _ _ _ hm
  have o3 : Value.okWide Try.prog W .any base 24 v3 := hval 3 24 v3 rfl rfl
  obtain ⟨a3, rfl, rfl, rfl, w3⟩ := open_int Try.underlying24 o3 h3
  have k4 := h4
  have lt4 : ∀ x ∈ p4, x.block < W.heap.size := by obtain ⟨m, hm⟩ := k4; exact DataW.trod_lt m _ _ _ hm
  have o4 : Value.okWide Try.prog W .any base 5 v4 := hval 4 5 v4 rfl rfl
  obtain ⟨a4, rfl, rfl, rfl, w4⟩ := open_int Try.underlying5 o4 h4
  clear hA0 hval0
  refine (walk a0 a1 len1 cap1 z1 a2 a3 a4 W (in32_of_wf w0) w1 (in16_of_wf w2) (in32_of_wf w3) (in8_of_wf w4)).mono fun e W' ⟨he, bel⟩ => ?_
  subst he
  exact ⟨_, rfl, _, _, _, [], _, [], hW', trodAll_mk1 (shut_bool Try.underlying4 _), (trodAll_cons_mk (Below.trod laidOut (by kernel_rfl) (of_decide_eq_true (by kernel_rfl)) k0 bel lt0) (trodAll_cons_mk (Below.trod laidOut (by kernel_rfl) (of_decide_eq_true (by kernel_rfl)) k1 bel lt1) (trodAll_cons_mk (Below.trod laidOut (by kernel_rfl) (of_decide_eq_true (by kernel_rfl)) k2 bel lt2) (trodAll_cons_mk (Below.trod laidOut (by kernel_rfl) (of_decide_eq_true (by kernel_rfl)) k3 bel lt3) (trodAll_cons_mk (Below.trod laidOut (by kernel_rfl) (of_decide_eq_true (by kernel_rfl)) k4 bel lt4) trodAll_mk0))))), rfl, bel.frame _, fun h => by cases h⟩

theorem over : Rows.frameWholeRow.holds Try.pinned (OpenSpec.ofChange Rows.frameWholeSpec) :=
  OpenClaim.holds_of_wide 9 Try.f9 rfl rfl rfl rfl rfl rfl rfl ⟨rfl, rfl, rfl, rfl, rfl⟩ rfl rfl rfl rfl rfl (by kernel_rfl) Try.func9 (by kernel_rfl)
    (of_decide_eq_true (by kernel_rfl)) (by unfold Func.isWrapper; first | (rw [if_pos (by decide +kernel)]; kernel_rfl) | (rw [if_neg (by decide +kernel)]; exact ⟨rfl, rfl⟩))
    (fun os started H enc _ => lifted os started H enc)

/-- The statement. -/
theorem proved : Rows.FrameWholeSaid := over
#print axioms proved

end Go.Proofs.Ytbochncjmcblkaa.frameWhole
