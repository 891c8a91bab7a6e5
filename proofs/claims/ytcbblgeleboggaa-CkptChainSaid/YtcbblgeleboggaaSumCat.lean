
/- slices.Grow of nil, slices.Concat, sum.Put. -/
import Derived.Test.YtcbblgeleboggaaSumRefPut
import Derived.Lib.AppendZerosOnto
namespace Go.Proofs.Ytcbblgeleboggaa
open Go.RowKit
set_option linter.unusedVariables false
set_option linter.unusedSimpArgs false

set_option maxRecDepth 100000 in
set_option maxHeartbeats 2000000 in
theorem slices_Grow (n : Nat) (w : World) (hn : n ≤ 2000000) :
    Calls Try.prog 58 #[.slice none 0 0, .int .i64 n] w fun e w' => ∃ v, e = .returned v ∧ OwnI w' w.heap.size 5 .u8 v [] ∧ Below w.heap.size w w' := by
  by_cases h0 : n = 0
  · subst h0
    go_enter Try.func58, Try.ntmps58
    go_wp2
    go_ret
    exact ⟨_, rfl, OwnI.nil _ _ _ _, Below.refl _ _⟩
  · have hp : 0 < n := by omega
    obtain ⟨i0, hi0, hz, hsz, hbs⟩ : ∃ i, Try.prog.info? 5 = some i ∧ i.zero = some (.int .u8 0) ∧ i.size = 1 ∧ i.bytes = 1 := by
      have hi := info_u8
      cases hpp : Try.prog.info? 5 with
      | none => rw [hpp] at hi; simp at hi
      | some i => rw [hpp] at hi; simp at hi; exact ⟨i, rfl, hi.1, hi.2.1, hi.2.2⟩
    have hold : (Builtin.firstCells i0.size 0 (.slice none 0 0)).run Try.prog w.drew = .ok ([] : List Value).toArray w.drew := run_firstCells_none w.drew i0.size 0 0 0
    have hrz : ∀ ty, (Builtin.append_ #[29, 3] ty #[.slice none 0 0, .int .i64 n]).run Try.prog w =
        .ok (.slice (some ⟨w.heap.size, 0, none⟩) n (grownCap w n 0 5)) (w.drew.alloc (.cells (([] : List Value).toArray ++ Builtin.zeroCells (Value.int .u8 0).cells n ++ Builtin.zeroCells (Value.int .u8 0).cells (grownCap w n 0 5 - n)) 5)) := fun ty => by
      have h := Lib.run_append_grow_zeros w 29 3 ty 5 i0 (.int .u8 0) .i64 .i64 Try.underlying29 Try.underlying3 hi0 hz none 0 0 [] hold n hp (by omega) (by omega) (by omega)
        (by rw [hbs]; omega) (growslice_fits (by omega) (by rw [hbs]; omega))
      rw [Nat.zero_add] at h
      exact h
    have hGn : n ≤ grownCap w n 0 5 := grownCap_ge w _ _ _
    have hGm := grownCap_le_maxLen w n 0 5 (by unfold maxLen; omega)
    obtain ⟨G, hG⟩ : ∃ G, grownCap w n 0 5 = G := ⟨_, rfl⟩
    simp only [hG] at hrz hGn hGm
    have hG63 : G ≤ 9223372036854775807 := by unfold maxLen at hGm; omega
    obtain ⟨cur, hcur⟩ : ∃ cur, ([] : List Value).toArray ++ Builtin.zeroCells (Value.int .u8 0).cells n ++ Builtin.zeroCells (Value.int .u8 0).cells (G - n) = cur := ⟨_, rfl⟩
    have hcs : cur.size = G * 1 := by rw [← hcur]; simp [size_zeroCells, Value.cells]; omega
    simp only [hcur] at hrz
    clear hold hG hcur
    go_enter Try.func58, Try.ntmps58
    go_wp2_with (at_builtin; refine Lib.wpList_append_run _ rfl _ _ _ _ rfl _ _ rfl rfl _ _ (hrz _) ?_)
    all_goals (go_ret; exact ⟨_, rfl, World.ownsRow_made w.drew cur G (by simp) hGm hcs, (belAlloc (belDrew (Below.refl _ _)) _ : Below w.heap.size w (w.drew.alloc _))⟩)

theorem joinP_le (P : List Part) (k : Nat) : (joinP (P.take k)).length ≤ (joinP P).length := by
  have : joinP P = joinP (P.take k) ++ joinP (P.drop k) := by unfold joinP; rw [← List.flatMap_append, List.take_append_drop]
  rw [this, List.length_append]; omega

set_option maxRecDepth 100000 in
set_option maxHeartbeats 4000000 in
theorem slices_Concat (a : Option Addr) (len cap : Nat) (P : List Part) (w : World) (hP : Parts w a len cap P) (hsz : (joinP P).length ≤ 2000000) :
    Calls Try.prog 46 #[.slice a len cap] w fun e w' => ∃ v, e = .returned v ∧ OwnI w' w.heap.size 5 .u8 v (joinP P) ∧ Below w.heap.size w w' := by
  have hbd : len ≤ cap ∧ cap ≤ 9223372036854775807 := by obtain ⟨_, ⟨_, h1, h2, _⟩, _⟩ := hP; unfold maxLen at h2; exact ⟨h1, h2⟩
  obtain ⟨hbd1, hbd2⟩ := hbd
  obtain rfl : P.length = len := hP.1
  have HP := Lib.hid hP
  have HJ := Lib.hid (joinP_le P)
  clear hP
  go_enter Try.func46, Try.ntmps46
  go_wp2
  go_loopw [3, 11] (fun x i wr => ∃ (k n : Nat), k ≤ P.length ∧ i = .int .i64 k ∧ x = .int .i64 n ∧ n = (joinP (P.take k)).length ∧ w = wr) (fun _ i _ => P.length - (intOf i).toNat)
  case atStart => exact ⟨0, 0, Nat.zero_le _, rfl, rfl, rfl, rfl⟩
  case round =>
    obtain ⟨k, n, hk, rfl, rfl, hn, rfl⟩ := hrel
    have hnl := HJ.out k
    rw [← hn] at hnl
    have hbel : Below w.heap.size w w := Below.refl _ _
    by_cases hlt : k < P.length
    · obtain ⟨⟨pa, pl, pc, pb⟩, hx⟩ : ∃ x, P[k]? = some x := ⟨P[k], List.getElem?_eq_getElem hlt⟩
      have hpb := (HP.out.2.2 _ (List.mem_of_getElem? hx)).bounds
      simp only at hpb
      have hnext := congrArg List.length (joinP_next hx)
      simp only [List.length_append] at hnext
      rw [← hn] at hnext
      have hnl2 := HJ.out (k + 1)
      rw [hnext] at hnl2
      obtain ⟨b, off, rfl, _, hc⟩ := HP.out.2.1.elem (fun _ => rfl) (by omega) hx
      have x0 := keep (hc 0 _ rfl)
      simp only [Nat.mul_one, Nat.add_zero] at x0
      have hp1 : pb.length = pl := hpb.1
      have HN := Lib.hid hnext
      rw [hp1] at hnl2
      clear hx hnext hc hn
      go_wp2
      go_roundw
      case rel => exact ⟨k + 1, n + pl, by omega, by push_cast; rfl, by push_cast; rfl, by rw [HN.out, hp1], by first | rfl | trivial⟩
      case measure => simp [intOf] <;> omega
    · obtain rfl : k = P.length := by omega
      have cg := slices_Grow n w (by omega)
      have CG := Lib.hid cg
      clear cg hn
      go_wp2_with (first | (go_at_call 58; (with_reducible refine CG.out.mono ?_); rintro e w1 ⟨v0, rfl, hown, hb1⟩))
      have HO := Lib.hid hown
      clear CG hown
      go_loopw [6, 27] (fun v i wr => ∃ k : Nat, k ≤ P.length ∧ i = .int .i64 k ∧ OwnI wr w.heap.size 5 .u8 v (joinP (P.take k)) ∧ Below w.heap.size w wr) (fun _ i _ => P.length - (intOf i).toNat)
      case atStart => exact ⟨0, Nat.zero_le _, rfl, HO.out, hb1⟩
      case round =>
        obtain ⟨k, hk, rfl, hown, hbr⟩ := hrel
        have hbel : Below wr.heap.size wr wr := Below.refl _ _
        have hszw : w.heap.size ≤ wr.heap.size := hbr.size
        by_cases hlt : k < P.length
        · obtain ⟨⟨pa, pl, pc, pb⟩, hx⟩ : ∃ x, P[k]? = some x := ⟨P[k], List.getElem?_eq_getElem hlt⟩
          have hp := (HP.out.2.2 _ (List.mem_of_getElem? hx)).later hbr
          simp only at hp
          have hpb := hp.bounds
          have hnext := joinP_next hx
          simp only at hnext
          have hnl2 := HJ.out (k + 1)
          rw [hnext, List.length_append, hpb.1] at hnl2
          obtain ⟨b, off, rfl, _, hc⟩ := (HP.out.2.1.later hbr).elem (fun _ => rfl) (by omega) hx
          have x0 := keep (hc 0 _ rfl)
          simp only [Nat.mul_one, Nat.add_zero] at x0
          have HN := Lib.hid hnext
          have HO2 := Lib.hid hown
          have HI := Lib.hid hp
          clear hx hnext hc hown hp
          go_wp2_with (at_builtin; refine wpList_app_ints rfl _ _ 29 rfl w.heap.size 5 .u8 1 Try.underlying29 info_u8 _ _ rfl HO2.out _ pl pc pb rfl HI.out ?c1 ?c2 ?c3 ?_)
          case c1 => simp only [maxLen]; omega
          case c2 => omega
          case c3 => omega
          intro v' w2 ho' hb' hg'
          have HV := Lib.hid ho'
          have hb3 : Below w.heap.size w w2 := hbr.trans hb'
          clear ho' hb' hg'
          go_wp2
          go_roundw
          case rel => exact ⟨k + 1, by omega, by push_cast; rfl, by rw [HN.out]; exact HV.out, hb3⟩
          case measure => simp [intOf] <;> omega
        · obtain rfl : k = P.length := by omega
          rw [List.take_length] at hown
          have HO2 := Lib.hid hown
          clear hown
          go_wp2
          go_ret
          exact ⟨_, rfl, HO2.out, hbr⟩

theorem parts_two (w : World) (a : Option Addr) (len cap : Nat) (l : List Int) (b : Option Addr) (len2 cap2 : Nat) (l2 : List Int) (hl : Ints .u8 w a len cap l) (h2 : Ints .u8 w b len2 cap2 l2) :
    Parts (w.alloc (.cells #[.slice a len cap, .slice b len2 cap2] 29)) (some ⟨w.heap.size, 0, none⟩) 2 2 [(a, len, cap, l), (b, len2, cap2, l2)] := by
  refine ⟨rfl, row_new w [.slice a len cap, .slice b len2 cap2] 29 2 1 rfl (by unfold maxLen; omega), fun x hx => ?_⟩
  simp at hx
  rcases hx with rfl | rfl
  · exact hl.later ((Below.refl _ _).alloc (Nat.le_refl _) _)
  · exact h2.later ((Below.refl _ _).alloc (Nat.le_refl _) _)

set_option maxRecDepth 100000 in
set_option maxHeartbeats 2000000 in
theorem sum_Put (a : Option Addr) (len cap : Nat) (l : List Int) (w : World) (hl : Ints .u8 w a len cap l) (hlen : len ≤ 1000000) :
    Calls Try.prog 45 #[.slice a len cap] w fun e w' => ∃ v, e = .returned v ∧ OwnI w' w.heap.size 5 .u8 v (l ++ tailN (sumOf l) 4) ∧ Below w.heap.size w w' := by
  have hb := hl.bounds
  have cs := sum_last a len cap l w hl
  have CS := Lib.hid cs
  have HL := Lib.hid hl
  clear cs hl
  have hw : Below w.heap.size w w := Below.refl _ _
  go_enter Try.func45, Try.ntmps45
  go_wp2_with (first | (go_at_call 53; (with_reducible refine CS.out.mono ?_); rintro e w1 ⟨v, rfl, hown, hb1⟩; obtain ⟨a2, cap2, rfl, hi2⟩ := ints_of_own hown (fun n hn => by have := tailN_bytes _ _ n hn; exact WalkArith.wf_u8 ⟨by omega, by omega⟩); rw [tailN_len]; have hP := parts_two w1 a len cap l a2 _ cap2 _ (HL.out.later hb1) hi2; have CC := Lib.hid (slices_Concat _ 2 2 _ _ hP (by simp [joinP, tailN_len]; omega)); clear hP hown) | (go_at_call 46; refine CC.out.mono ?_; rintro e w2 ⟨v2, rfl, hown2, hb2⟩))
  have e1 : joinP [(a, len, cap, l), (a2, (tailN (sumOf l) 4).length, cap2, tailN (sumOf l) 4)] = l ++ tailN (sumOf l) 4 := by simp [joinP]
  rw [e1] at hown2
  have hsz : w.heap.size ≤ w1.heap.size := hb1.size
  go_ret
  refine ⟨_, rfl, ?_, belStep (belAlloc hb1 _) hb2⟩
  unfold OwnI at *
  exact OwnR.mono hown2 (by simp; omega)
end Go.Proofs.Ytcbblgeleboggaa
