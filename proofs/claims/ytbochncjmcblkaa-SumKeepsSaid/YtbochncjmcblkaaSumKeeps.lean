/- SumKeeps holds for every slice of bytes. No conditions. -/
import Derived.Test.YtbochncjmcblkaaSumMore
namespace Go.Proofs.Ytbochncjmcblkaa.sumKeeps
open Go.ChangeShapes Go.WideShapes Go.ChangeAt Go.RowKit
open Go.ChangeMaps (open_string shut_string)
set_option linter.unusedVariables false
set_option linter.unusedSimpArgs false

set_option maxRecDepth 100000 in
set_option maxHeartbeats 4000000 in
theorem walk (a : Option Addr) (len cap : Nat) (l : List Int) (w : World) (hl : Ints .u8 w a len cap l) :
    Calls Try.prog 6 #[.slice a len cap] w fun e w' => e = .returned (.bool true) ∧ Below w.heap.size w w' := by
  have hw : Below w.heap.size w w := Below.refl _ _
  have hbel := hw
  have hb := hl.bounds
  have hby := bytes_of hl
  have HL := Lib.hid hl
  obtain ⟨hln, hb2, hb3⟩ := hb
  clear hl
  by_cases h1000 : 1000 < len
  · clear hln
    go_enter Try.func6, Try.ntmps6
    go_wp2_with (first | (go_at_call 13; (with_reducible refine (awake08 _).mono ?_); rintro e w1 ⟨rfl, hb1⟩; replace hbel := belStep hbel hb1; clear hb1))
    go_ret
    exact ⟨rfl, hbel⟩
  have HN := Lib.hid hln
  clear hln
  have CP := Lib.hid (fun v (hv : Below w.heap.size w v) => put_own a len cap l v (HL.out.later hv) (by omega))
  go_enter Try.func6, Try.ntmps6
  go_wp2_with (first | (go_at_call 13; (with_reducible refine (awake08 _).mono ?_); rintro e w1 ⟨rfl, hb1⟩; replace hbel := belStep hbel hb1; clear hb1) | (at_builtin; refine wpList_app_ints rfl _ _ 22 rfl w1.heap.size 5 .u8 1 Try.underlying22 info_u8 _ _ rfl (own_new w1 w1.heap.size 5 .u8 (Nat.le_refl _)) _ len cap l rfl (HL.out.later (belAlloc hbel _)) ?c1 ?c2 ?c3 ?_))
  case c1 => simp only [maxLen, List.length_nil]; omega
  case c2 => simp only [List.length_nil]; omega
  case c3 => simp
  intro v1 w2 ho1 hb1 hg1
  try rw [List.nil_append] at ho1
  replace hbel : Below w.heap.size w w2 := (hbel.trans ((belAlloc (Below.refl _ _) _ : Below w1.heap.size w1 (w1.alloc _)).mono hbel.size)).trans (hb1.mono hbel.size)
  obtain ⟨aw, cw, rfl, hiw⟩ := ints_of_own ho1 (fun m hm => wf8 m (hby m hm))
  rw [HN.out] at hiw ⊢
  have HW := Lib.hid hiw
  clear ho1 hg1 hb1 hiw
  have hpb := put_bytes hby
  have HPB := Lib.hid hpb
  clear hpb
  go_wp2_with (first | (go_at_call 18; (with_reducible refine (CP.out _ hbel).mono ?_); rintro e w3 ⟨gx, cx, rfl, hcx, hox, hb3⟩; have HX := Lib.hid (ints_ownS hox HPB.out); have HOX := Lib.hid hox; clear hox) | (go_at_call 20; (with_reducible refine (cut_put l _ (len + 4) cx _ HX.out (by omega)).mono ?_); rintro e w4 ⟨vy, rfl, hoy, hb4⟩))
  obtain ⟨ay, cy, rfl, hiy⟩ := ints_of_own hoy (fun m hm => wf8 m (hby m hm))
  rw [HN.out] at hiy hoy ⊢
  have HY := Lib.hid hoy
  have hyb : len ≤ cy ∧ cy ≤ 9223372036854775807 := hiy.bounds.2
  clear hoy hiy
  replace hb3 : Below w2.heap.size w2 w3 := hb3
  have hs23 : w2.heap.size ≤ w3.heap.size := hb3.size
  go_loopw [7] (fun i wr => ∃ k : Nat, k ≤ len ∧ i = .int .i64 k ∧ ∃ l', OwnI wr w3.heap.size 5 .u8 (.slice ay len cy) l' ∧ l'.length = len ∧ Below w3.heap.size w3 wr) (fun i _ => len - (intOf i).toNat)
  case atStart => exact ⟨0, Nat.zero_le _, rfl, l, HY.out, HN.out, hb4⟩
  case round =>
    obtain ⟨k, hk, rfl, l', hown, hl', hbr⟩ := hrel
    by_cases hlt : k < len
    · obtain ⟨g, rfl, hg1, hg2, hg3, hg4⟩ := hown.open hl' (by omega)
      have x0 := hown.cellAt hl'.symm hlt
      have f0 := hown.frozenAt hl'.symm k
      have HO := Lib.hid hown
      have HLl := Lib.hid hl'
      obtain ⟨c, ec⟩ : ∃ c, el l' k = c := ⟨_, rfl⟩
      rw [ec] at x0
      clear hown hl' ec
      go_wp2
      go_roundw
      case rel => exact ⟨k + 1, by omega, by push_cast; rfl, _, HO.out.set HLl.out.symm _ _, by rw [List.length_set]; exact HLl.out, hbr.setCell hg1 _⟩
      case measure => simp [intOf] <;> omega
    · obtain rfl : k = len := by omega
      clear hown hl'
      have HXr := Lib.hid (HX.out.later hbr)
      have hb2r : Below w2.heap.size w2 wr := belStep hb3 hbr
      have hbw : Below w.heap.size w wr := belStep hbel hb2r
      have CRP := Lib.hid (refput_ints aw k cw l wr (HW.out.later hb2r) (by omega))
      have CS := Lib.hid (fun (a2 : Option Addr) (c2 : Nat) (a3 : Option Addr) (c3 : Nat) v (h2 : Ints .u8 v a2 (k + 4) c2 (l ++ tailN (sumOf l) 4)) (h3 : Ints .u8 v a3 (k + 4) c3 (l ++ tailN (sumOf l) 4)) => (beq_self_eq_true (l ++ tailN (sumOf l) 4)) ▸ sref_Same a2 (k + 4) c2 _ a3 (k + 4) c3 _ v h2 h3)
      go_wp2_with (first | (go_at_call 19; (with_reducible refine CRP.out.mono ?_); rintro e w5 ⟨a8, c8, rfl, hi8, hb8⟩; replace HXr := Lib.hid (HXr.out.later hb8); have H8 := Lib.hid hi8; clear hi8) | (go_at_call 17; (with_reducible refine (CS.out _ _ _ _ _ HXr.out H8.out).mono ?_); rintro e w9 ⟨rfl, rfl⟩))
      have HOr := Lib.hid (HOX.out.later (belStep hbr hb8))
      have hb25 : Below w2.heap.size w2 w5 := belStep hb2r hb8
      have hlx : (l ++ tailN (sumOf l) 4).length = k + 4 := by rw [List.length_append, tailN_len, HN.out]
      have HLX := Lib.hid hlx
      have CSb := Lib.hid (fun v (hv : Below w2.heap.size w2 v) => (beq_self_eq_true l) ▸ sref_Same a k cap l aw k cw l v (HL.out.later (belStep hbel hv)) (HW.out.later hv))
      clear hlx hb8 hbw hb2r hbr
      obtain ⟨hgx1, hgx2, hgx3, hgx4⟩ := hcx
      go_loopw [9] (fun i wr => ∃ j : Nat, j ≤ k + 4 ∧ i = .int .i64 j ∧ ∃ l', OwnI wr w2.heap.size 5 .u8 (.slice (some ⟨gx, 0, none⟩) (k + 4) cx) l' ∧ l'.length = k + 4 ∧ Below w2.heap.size w2 wr) (fun i _ => k + 4 - (intOf i).toNat)
      case atStart => exact ⟨0, Nat.zero_le _, rfl, _, HOr.out, HLX.out, hb25⟩
      case round =>
        obtain ⟨j, hj, rfl, l', hown, hl', hbr⟩ := hrel
        by_cases hlt : j < k + 4
        · have x0 := hown.cellAt hl'.symm hlt
          have f0 := hown.frozenAt hl'.symm j
          have HO := Lib.hid hown
          have HLl := Lib.hid hl'
          obtain ⟨c, ec⟩ : ∃ c, el l' j = c := ⟨_, rfl⟩
          rw [ec] at x0
          clear hown hl' ec
          go_wp2
          go_roundw
          case rel => exact ⟨j + 1, by omega, by push_cast; rfl, _, HO.out.set HLl.out.symm _ _, by rw [List.length_set]; exact HLl.out, hbr.setCell hgx1 _⟩
          case measure => simp [intOf] <;> omega
        · obtain rfl : j = k + 4 := by omega
          clear hown hl'
          go_wp2_with (first | (go_at_call 17; (with_reducible refine (CSb.out _ hbr).mono ?_); rintro e w9 ⟨rfl, rfl⟩))
          go_ret
          exact ⟨rfl, belStep hbel hbr⟩

set_option maxRecDepth 100000 in
theorem lifted (os : Os) (started : os.Started) (H : Type) (enc : TypeId × Value → H) :
    ReturnsInHanded {} Try.checked os 6 .any (Rows.sumKeepsSpec.pre6 enc Try.prog Try.f6 Rows.sumKeepsRow.domain false) (Rows.sumKeepsSpec.post enc Try.prog Try.f6 false true false false) := by
  refine returnsInHanded_of_change (C := Try.checked) own started (by kernel_rfl) Try.func6
    (ChangeSpec.witness6 (enc := enc) (C := Try.checked) false ⟨#[], #[.slice none 0 0], []⟩ 8 (by kernel_rfl) (by kernel_rfl) (by kernel_rfl) (by kernel_rfl)) ?_
  intro W base args ds gs before hval0 hW hcnd _
  have hval : ∀ (j : Nat) t v, Try.f6.params[j]? = some t → args[j]? = some v → Value.okWide Try.prog W .any base t v := hval0
  have hW' := hW
  obtain ⟨p, q, hA0, hV, rfl, hfz, hnd⟩ := hW
  have hA : DataW.TrodAll enc Try.prog W 0 (fun _ => true) true Try.f6.params.toList args.toList ds p := hA0
  rw [Try.params6] at hA hval
  obtain ⟨v0, vs0, d0, ds0, p0, q0, hargs, rfl, rfl, h0, r0⟩ := trodAll_cons hA
  obtain ⟨rfl, rfl, rfl⟩ := trodAll_nil r0
  obtain rfl : args = #[v0] := by cases args; simp_all
  obtain ⟨rfl, rfl⟩ := trodVars_none hV
  have k0 := h0
  have lt0 : ∀ x ∈ p0, x.block < W.heap.size := by obtain ⟨m, hm⟩ := k0; exact DataW.trod_lt m _ _ _ hm
  have o0 : Value.okWide Try.prog W .any base 22 v0 := hval 0 22 v0 rfl rfl
  obtain ⟨a0, len0, cap0, rfl⟩ := okWide_slice Try.underlying22 o0
  obtain ⟨z0, w0⟩ : ∃ zs, Ints .u8 W a0 len0 cap0 zs := ints_of_trod Try.underlying22 Try.underlying5 (by kernel_rfl) h0
  clear hA0 hval0
  refine (walk a0 len0 cap0 z0 W w0).mono fun e W' ⟨he, bel⟩ => ?_
  subst he
  exact ⟨_, rfl, _, _, _, [], _, [], hW', trodAll_mk1 (shut_bool Try.underlying4 _), (trodAll_cons_mk (Below.trod laidOut (by kernel_rfl) (of_decide_eq_true (by kernel_rfl)) k0 bel lt0) trodAll_mk0), rfl, bel.frame _, fun h => by cases h⟩

theorem over : Rows.sumKeepsRow.holds Try.pinned (OpenSpec.ofChange Rows.sumKeepsSpec) :=
  OpenClaim.holds_of_wide 6 Try.f6 rfl rfl rfl rfl rfl rfl rfl ⟨rfl, rfl, rfl, rfl, rfl⟩ rfl rfl rfl rfl rfl (by kernel_rfl) Try.func6 (by kernel_rfl)
    (of_decide_eq_true (by kernel_rfl)) (by unfold Func.isWrapper; first | (rw [if_pos (by decide +kernel)]; kernel_rfl) | (rw [if_neg (by decide +kernel)]; exact ⟨rfl, rfl⟩))
    (fun os started H enc _ => lifted os started H enc)

/-- The statement. -/
theorem proved : Rows.SumKeepsSaid := over
#print axioms proved

end Go.Proofs.Ytbochncjmcblkaa.sumKeeps
