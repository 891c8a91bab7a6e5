/- SumTurned holds for every slice of bytes, place and turn. No conditions. -/
import Derived.Test.YtbochncjmcblkaaSumBurst
namespace Go.Proofs.Ytbochncjmcblkaa.sumTurned
open Go.ChangeShapes Go.WideShapes Go.ChangeAt Go.RowKit
open Go.ChangeMaps (open_string shut_string)
set_option linter.unusedVariables false
set_option linter.unusedSimpArgs false

theorem cut_no (a : Option Addr) (n cap : Nat) (l : List Int) (w : World) (hl : Ints .u8 w a n cap l) (hlen : n ≤ 1000000) (hn : cutOk l = false) :
    Calls Try.prog 20 #[.slice a n cap] w fun e w' => ∃ a2 c2, e = .returned (.tuple #[.slice a2 0 c2, .bool false]) ∧ Below w.heap.size w w' := by
  refine (sum_Cut a n cap l w hl hlen).mono ?_
  rintro e w1 ⟨v, rfl, hown, hb1⟩
  have e2 : cutBody l = [] := by unfold cutBody; rw [hn]; rfl
  rw [e2] at hown
  obtain ⟨a2, c2, rfl, _⟩ := ints_of_own hown (fun m hm => by cases hm)
  exact ⟨a2, c2, by rw [hn]; rfl, hb1⟩

set_option maxRecDepth 100000 in
set_option maxHeartbeats 8000000 in
theorem walk (a : Option Addr) (len cap : Nat) (l : List Int) (at0 : Int) (turn : Int) (w : World) (hl : Ints .u8 w a len cap l) (hat : 0 ≤ at0 ∧ at0 ≤ 65535) (htu : 0 ≤ turn ∧ turn ≤ 4294967295) :
    Calls Try.prog 4 #[.slice a len cap, .int .u16 at0, .int .u32 turn] w fun e w' => e = .returned (.bool true) ∧ Below w.heap.size w w' := by
  have hw : Below w.heap.size w w := Below.refl _ _
  have hbel := hw
  have hb := hl.bounds
  have hby := bytes_of hl
  have HL := Lib.hid hl
  obtain ⟨hln, hb2, hb3⟩ := hb
  obtain ⟨ha1, ha2⟩ := hat
  obtain ⟨ht1, ht2⟩ := htu
  clear hl
  by_cases h1000 : 1000 < len
  · clear hln
    go_enter Try.func4, Try.ntmps4
    go_wp2_with (first | (go_at_call 13; (with_reducible refine (awake08 _).mono ?_); rintro e w1 ⟨rfl, hb1⟩; replace hbel := belStep hbel hb1; clear hb1))
    go_ret
    exact ⟨rfl, hbel⟩
  obtain ⟨t, rfl⟩ : ∃ t : Nat, turn = t := ⟨turn.toNat, by omega⟩
  obtain ⟨q, rfl⟩ : ∃ t : Nat, at0 = t := ⟨at0.toNat, by omega⟩
  by_cases h0 : t = 0
  · subst h0
    clear hln
    have hz : ((((0 : Nat) : Int)) == 0) = true := by decide
    go_enter Try.func4, Try.ntmps4
    go_wp2_with (first | (go_at_call 13; (with_reducible refine (awake08 _).mono ?_); rintro e w1 ⟨rfl, hb1⟩; replace hbel := belStep hbel hb1; clear hb1))
    go_ret
    exact ⟨rfl, hbel⟩
  have HN := Lib.hid hln
  clear hln
  have hz : ((t : Int) == 0) = false := by simp; omega
  have CP := Lib.hid (fun v (hv : Below w.heap.size w v) => put_own a len cap l v (HL.out.later hv) (by omega))
  have CSm := Lib.hid (fun (a2 : Option Addr) (c2 : Nat) v (h2 : Ints .u8 v a2 len c2 l) (hv : Below w.heap.size w v) => (beq_self_eq_true l) ▸ sref_Same a2 len c2 l a len cap l v h2 (HL.out.later hv))
  have HPB := Lib.hid (put_bytes hby)
  have hHB := Lib.hid hby
  clear hby
  go_enter Try.func4, Try.ntmps4
  go_wp2_with (first | (go_at_call 13; (with_reducible refine (awake08 _).mono ?_); rintro e w1 ⟨rfl, hb1⟩; replace hbel := belStep hbel hb1; clear hb1) | (go_at_call 18; (with_reducible refine (CP.out _ hbel).mono ?_); rintro e w3 ⟨gx, cx, rfl, hcx, hox, hb3⟩; have HX := Lib.hid (ints_ownS hox HPB.out); have HOX := Lib.hid hox; clear hox) | (go_at_call 20; (with_reducible refine (cut_put l _ (len + 4) cx _ HX.out (by omega)).mono ?_); rintro e w4 ⟨vy, rfl, hoy, hb4⟩; obtain ⟨ay, cy, rfl, hiy⟩ := ints_of_own hoy (fun m hm => wf8 m (hHB.out m hm)); rw [HN.out] at hiy ⊢; have HY := Lib.hid hiy; clear hoy hiy) | (go_at_call 17; (with_reducible refine (CSm.out _ _ _ HY.out (belStep (belStep hbel hb3) hb4)).mono ?_); rintro e w9 ⟨rfl, rfl⟩))
  obtain ⟨k, ek, hk8⟩ : ∃ k : Nat, ((q : Int) % (8 * ((len : Int) + 4) - 31)) = k ∧ k + 32 ≤ 8 * (len + 4) := by
    have e1 := Int.emod_nonneg (q : Int) (show (8 * ((len : Int) + 4) - 31) ≠ 0 by omega)
    have e2 := Int.emod_lt_of_pos (q : Int) (show 0 < (8 * ((len : Int) + 4) - 31) by omega)
    exact ⟨((q : Int) % (8 * ((len : Int) + 4) - 31)).toNat, by omega, by omega⟩
  rw [ek]
  clear ek
  have hlx : (l ++ tailN (sumOf l) 4).length = len + 4 := by rw [List.length_append, tailN_len, HN.out]
  obtain ⟨X, hX1, hX2⟩ := num_of (l := l ++ tailN (sumOf l) 4) (fun c hc => in8_of_wf (HPB.out c hc))
  rw [hlx] at hX1 hX2
  have hok := put_ok l
  rw [← hX2] at hok
  have HO4 := HOX.out.later hb4
  rw [← hX2] at HO4
  have BU := Lib.hid (burst X (len + 4) t k hX1 hk8 (by omega) h0 hok)
  have HO := Lib.hid HO4
  have hb14 : Below w1.heap.size w1 w4 := belStep hb3 hb4
  obtain ⟨hgx1, hgx2, hgx3, hgx4⟩ := hcx
  clear HO4 hX1 hX2 hok hlx HOX HX HPB hb3 hb4
  go_loopw [11] (fun i wr => ∃ j : Nat, j ≤ 32 ∧ i = .int .i64 j ∧ OwnI wr w1.heap.size 5 .u8 (.slice (some ⟨gx, 0, none⟩) (len + 4) cx) (tailN (X ^^^ turned t k j) (len + 4)) ∧ Below w1.heap.size w1 wr) (fun i _ => 32 - (intOf i).toNat)
  case atStart => exact ⟨0, Nat.zero_le _, rfl, by simpa [turned] using HO.out, hb14⟩
  case round =>
    obtain ⟨j, hj, rfl, hown, hbr⟩ := hrel
    by_cases hlt : j < 32
    · have x0 := hown.cellAt (i := (k + j) / 8) (tailN_len _ _).symm (by omega)
      have f0 := hown.frozenAt (tailN_len _ _).symm ((k + j) / 8)
      have HOw := Lib.hid hown
      rw [el_tailN _ _ _ (by omega)] at x0
      obtain ⟨c, ec⟩ : ∃ c : Nat, (X ^^^ turned t k j) / 256 ^ ((k + j) / 8) % 256 = c := ⟨_, rfl⟩
      rw [ec] at x0
      have hc8 : c < 256 := by omega
      have EC := Lib.hid ec
      have key : ((bits .and .u32 ((t : Int) / 2 ^ j) 1 == 1) = true ∧ turned t k (j + 1) = turned t k j ^^^ 2 ^ (k + j)) ∨ ((bits .and .u32 ((t : Int) / 2 ^ j) 1 == 1) = false ∧ turned t k (j + 1) = turned t k j) := by
        have e1 := and1 (t / 2 ^ j) (Nat.lt_of_le_of_lt (Nat.div_le_self _ _) (by omega))
        have e2 : ((t / 2 ^ j : Nat) : Int) = (t : Int) / 2 ^ j := by push_cast; rfl
        rw [e2] at e1
        rw [e1]
        have hts : turned t k (j + 1) = if t / 2 ^ j % 2 = 1 then turned t k j ^^^ 2 ^ (k + j) else turned t k j := rfl
        rw [hts]
        rcases Nat.mod_two_eq_zero_or_one (t / 2 ^ j) with z | z
        · right; rw [z]; exact ⟨by decide, by rw [if_neg (by omega)]⟩
        · left; rw [z]; exact ⟨by decide, by rw [if_pos rfl]⟩
      have hm8 : (k + j) % 8 < 8 := by omega
      have hbit : bits .xor .u8 (c : Int) (2 ^ ((k + j) % 8) % 256) = ((c ^^^ 2 ^ ((k + j) % 8) : Nat) : Int) := by
        have hp : 2 ^ ((k + j) % 8) < 256 := by
          calc 2 ^ ((k + j) % 8) < 2 ^ 8 := Nat.pow_lt_pow_right (by omega) hm8
            _ = 256 := rfl
        have := xor8 c (2 ^ ((k + j) % 8)) hc8 hp
        rw [← this]
        congr 1
        have e3 : ((2 ^ ((k + j) % 8) : Nat) : Int) = (2 : Int) ^ ((k + j) % 8) := by push_cast; rfl
        rw [← e3]
        exact Int.emod_eq_of_lt (Int.natCast_nonneg _) (Int.ofNat_lt.2 hp)
      have HB := Lib.hid hbit
      clear hown ec hbit
      rcases key with ⟨k1, k2⟩ | ⟨k1, k2⟩
      · have K2 := Lib.hid k2
        clear k2
        go_wp2
        go_roundw
        case rel =>
          refine ⟨j + 1, by omega, by push_cast; rfl, ?_, hbr.setCell hgx1 _⟩
          have h5 := HOw.out.set (tailN_len _ _).symm ((k + j) / 8) (bits .xor .u8 (c : Int) (2 ^ ((k + j) % 8) % 256))
          rw [K2.out, ← Nat.xor_assoc, tail_flip _ _ _ (by omega), EC.out, ← HB.out]
          exact h5
        case measure => simp [intOf] <;> omega
      · have K2 := Lib.hid k2
        clear k2
        go_wp2
        go_roundw
        case rel => exact ⟨j + 1, by omega, by push_cast; rfl, by rw [K2.out]; exact HOw.out, hbr⟩
        case measure => simp [intOf] <;> omega
    · obtain rfl : j = 32 := by omega
      have hi := ints_ownS hown (fun m hm => wf8 m (tailN_Bytes _ _ m hm))
      have CN := Lib.hid (cut_no _ (len + 4) cx _ wr hi (by omega) BU.out)
      clear hown hi
      go_wp2_with (go_at_call 20; (with_reducible refine CN.out.mono ?_); rintro e w5 ⟨a2, c2, rfl, hb5⟩)
      go_ret
      exact ⟨rfl, belStep (belStep hbel hbr) hb5⟩

set_option maxRecDepth 100000 in
theorem lifted (os : Os) (started : os.Started) (H : Type) (enc : TypeId × Value → H) :
    ReturnsInHanded {} Try.checked os 4 .any (Rows.sumTurnedSpec.pre6 enc Try.prog Try.f4 Rows.sumTurnedRow.domain false) (Rows.sumTurnedSpec.post enc Try.prog Try.f4 false true false false) := by
  refine returnsInHanded_of_change (C := Try.checked) own started (by kernel_rfl) Try.func4
    (ChangeSpec.witness6 (enc := enc) (C := Try.checked) false ⟨#[], #[.slice none 0 0, .int .u16 0, .int .u32 0], []⟩ 8 (by kernel_rfl) (by kernel_rfl) (by kernel_rfl) (by kernel_rfl)) ?_
  intro W base args ds gs before hval0 hW hcnd _
  have hval : ∀ (j : Nat) t v, Try.f4.params[j]? = some t → args[j]? = some v → Value.okWide Try.prog W .any base t v := hval0
  have hW' := hW
  obtain ⟨p, q, hA0, hV, rfl, hfz, hnd⟩ := hW
  have hA : DataW.TrodAll enc Try.prog W 0 (fun _ => true) true Try.f4.params.toList args.toList ds p := hA0
  rw [Try.params4] at hA hval
  obtain ⟨v0, vs0, d0, ds0, p0, q0, hargs, rfl, rfl, h0, r0⟩ := trodAll_cons hA
  obtain ⟨v1, vs1, d1, ds1, p1, q1, rfl, rfl, rfl, h1, r1⟩ := trodAll_cons r0
  obtain ⟨v2, vs2, d2, ds2, p2, q2, rfl, rfl, rfl, h2, r2⟩ := trodAll_cons r1
  obtain ⟨rfl, rfl, rfl⟩ := trodAll_nil r2
  obtain rfl : args = #[v0, v1, v2] := by cases args; simp_all
  obtain ⟨rfl, rfl⟩ := trodVars_none hV
  have k0 := h0
  have lt0 : ∀ x ∈ p0, x.block < W.heap.size := by obtain ⟨m, hm⟩ := k0; exact DataW.trod_lt m _ _ _ hm
  have o0 : Value.okWide Try.prog W .any base 22 v0 := hval 0 22 v0 rfl rfl
  obtain ⟨a0, len0, cap0, rfl⟩ := okWide_slice Try.underlying22 o0
  obtain ⟨z0, w0⟩ : ∃ zs, Ints .u8 W a0 len0 cap0 zs := ints_of_trod Try.underlying22 Try.underlying5 (by kernel_rfl) h0
  have k1 := h1
  have lt1 : ∀ x ∈ p1, x.block < W.heap.size := by obtain ⟨m, hm⟩ := k1; exact DataW.trod_lt m _ _ _ hm
  have o1 : Value.okWide Try.prog W .any base 30 v1 := hval 1 30 v1 rfl rfl
  obtain ⟨a1, rfl, rfl, rfl, w1⟩ := open_int Try.underlying30 o1 h1
  have k2 := h2
  have lt2 : ∀ x ∈ p2, x.block < W.heap.size := by obtain ⟨m, hm⟩ := k2; exact DataW.trod_lt m _ _ _ hm
  have o2 : Value.okWide Try.prog W .any base 24 v2 := hval 2 24 v2 rfl rfl
  obtain ⟨a2, rfl, rfl, rfl, w2⟩ := open_int Try.underlying24 o2 h2
  clear hA0 hval0
  refine (walk a0 len0 cap0 z0 a1 a2 W w0 (in16_of_wf w1) (in32_of_wf w2)).mono fun e W' ⟨he, bel⟩ => ?_
  subst he
  exact ⟨_, rfl, _, _, _, [], _, [], hW', trodAll_mk1 (shut_bool Try.underlying4 _), (trodAll_cons_mk (Below.trod laidOut (by kernel_rfl) (of_decide_eq_true (by kernel_rfl)) k0 bel lt0) (trodAll_cons_mk (Below.trod laidOut (by kernel_rfl) (of_decide_eq_true (by kernel_rfl)) k1 bel lt1) (trodAll_cons_mk (Below.trod laidOut (by kernel_rfl) (of_decide_eq_true (by kernel_rfl)) k2 bel lt2) trodAll_mk0))), rfl, bel.frame _, fun h => by cases h⟩

theorem over : Rows.sumTurnedRow.holds Try.pinned (OpenSpec.ofChange Rows.sumTurnedSpec) :=
  OpenClaim.holds_of_wide 4 Try.f4 rfl rfl rfl rfl rfl rfl rfl ⟨rfl, rfl, rfl, rfl, rfl⟩ rfl rfl rfl rfl rfl (by kernel_rfl) Try.func4 (by kernel_rfl)
    (of_decide_eq_true (by kernel_rfl)) (by unfold Func.isWrapper; first | (rw [if_pos (by decide +kernel)]; kernel_rfl) | (rw [if_neg (by decide +kernel)]; exact ⟨rfl, rfl⟩))
    (fun os started H enc _ => lifted os started H enc)

/-- The statement. -/
theorem proved : Rows.SumTurnedSaid := over
#print axioms proved

end Go.Proofs.Ytbochncjmcblkaa.sumTurned
