/- BoxRuns holds for every slice of ints, every slice of bools and every number of retries. No conditions. -/
import Derived.Test.YthhpkmpaldcloaaAwake14
namespace Go.Proofs.Ythhpkmpaldcloaa.boxRuns
open Go.ChangeShapes Go.WideShapes Go.ChangeAt Go.RowKit
open Go.ChangeMaps (open_string shut_string)
set_option linter.unusedVariables false

set_option maxRecDepth 100000 in
set_option maxHeartbeats 4000000 in
theorem walk (a : Option Addr) (len cap : Nat) (l : List Int) (b : Option Addr) (lenb capb : Nat) (lb : List Bool) (r : Int) (w : World) (hl : Ints .i64 w a len cap l) (hlb : Bools w b lenb capb lb) (hr : InI r) :
    Calls Try.prog 4 #[.slice a len cap, .slice b lenb capb, .int .i64 r] w fun e w' => e = .returned (.bool true) ∧ Below w.heap.size w w' := by
  have hw : Below w.heap.size w w := Below.refl _ _
  have hbel := hw
  have hbd := hl.bounds
  have hbd2 := hlb.bounds
  have HL := Lib.hid hl
  have HB := Lib.hid hlb
  clear hl hlb
  have key : 300 < len ∨ (¬ 300 < len ∧ 300 < lenb) ∨ (¬ 300 < len ∧ ¬ 300 < lenb) := by omega
  rcases key with k1 | ⟨k1, k2⟩ | ⟨k1, k2⟩
  · go_enter Try.func4, Try.ntmps4
    go_wp2_with (first | (go_at_call 16; (with_reducible refine (awake14 _).mono ?_); rintro e w1 ⟨rfl, hb1⟩; replace hbel := belStep hbel hb1; clear hb1))
    go_ret
    exact ⟨rfl, hbel⟩
  · go_enter Try.func4, Try.ntmps4
    go_wp2_with (first | (go_at_call 16; (with_reducible refine (awake14 _).mono ?_); rintro e w1 ⟨rfl, hb1⟩; replace hbel := belStep hbel hb1; clear hb1))
    go_ret
    exact ⟨rfl, hbel⟩
  · go_enter Try.func4, Try.ntmps4
    go_upto_region 3 with (first | (go_at_call 16; (with_reducible refine (awake14 _).mono ?_); rintro e w1 ⟨rfl, hb1⟩; replace hbel := belStep hbel hb1; clear hb1))
    replace hw := belStep hw hbel
    clear hbel
    generalize w1 = W1 at *
    have hbel : Below W1.heap.size W1 W1 := Below.refl _ _
    replace HL := Lib.hid (HL.out.later hw)
    replace HB := Lib.hid (HB.out.later hw)
    go_wp2
    go_loopw [8, 9] (fun c i wr => ∃ (k : Nat) (s t n : Int), k ≤ len ∧ i = .int .i64 k ∧ c = .int .i64 n ∧ runB lb r l k = (s, t, n) ∧ Below W1.heap.size W1 wr ∧ Blk wr W1.heap.size [.int .i64 s, .int .i64 t] 23) (fun _ i _ => len - (intOf i).toNat)
    case atStart => exact ⟨0, 1, 0, 0, Nat.zero_le _, rfl, rfl, rfl, belAlloc (Below.refl _ _) _, Blk.new W1 [.int .i64 1, .int .i64 0] _⟩
    case round =>
      obtain ⟨k, s, t, n, hk, rfl, rfl, hst, hbr, hblk⟩ := hrel
      have hq := runB_bd lb r l k
      rw [hst] at hq
      obtain ⟨hs, ht, hn⟩ := hq
      simp only at hs ht hn
      have c0 : ∀ v, Below wr.heap.size wr v → v.cell? ⟨W1.heap.size, 0, none⟩ = some (.int .i64 s) := keep (hblk.cell rfl)
      have c1 : ∀ v, Below wr.heap.size wr v → v.cell? ⟨W1.heap.size, 1, none⟩ = some (.int .i64 t) := keep (hblk.cell rfl)
      have hF := hblk.keepF
      by_cases hlt : k < len
      · obtain ⟨bb, off, rfl, _, hc⟩ := (HL.out.later hbr).opened (by omega)
        have x0 := keep (hc k hlt)
        have ik : InI (el l k) := HL.out.inI hlt
        obtain ⟨x, ex⟩ : ∃ x, el l k = x := ⟨_, rfl⟩
        obtain ⟨be, hbe⟩ : ∃ be, bl lb k = be := ⟨_, rfl⟩
        have hnext : runB lb r l (k + 1) = (doS s t x be r, doN s t x be r, n + (if toS s x = 0 then 0 else 1)) := by simp only [runB, hst, ex, hbe]
        rw [ex] at x0 ik
        have cs : ∀ v, Calls Try.prog 18 #[.agg #[.int .i64 s, .int .i64 t], .int .i64 x, .bool be, .int .i64 r] v fun e w' =>
          e = .returned (.tuple #[.agg #[.int .i64 (doS s t x be r), .int .i64 (doN s t x be r)], .bool (toS s x != 0)]) ∧ Below v.heap.size v w' := fun v => bref_Do s t x be r v (by unfold InI; omega)
        obtain ⟨s', es⟩ : ∃ y, doS s t x be r = y := ⟨_, rfl⟩
        obtain ⟨t', et⟩ : ∃ y, doN s t x be r = y := ⟨_, rfl⟩
        have key : (toS s x = 0 ∧ (toS s x != 0) = false) ∨ (toS s x ≠ 0 ∧ (toS s x != 0) = true) := by by_cases h : toS s x = 0 <;> simp [h]
        simp only [es, et] at cs hnext
        have HBR := Lib.hid hbr
        have HK := Lib.hid hblk
        have hbel : Below wr.heap.size wr wr := Below.refl _ _
        by_cases hkb : k < lenb
        · obtain ⟨bb2, off2, rfl, _, hc2⟩ := (HB.out.later hbr).opened (by omega)
          have y0 := keep (hc2 k hkb)
          rw [hbe] at y0
          have hd : decide (lenb ≤ k) = false := by simp; omega
          rcases key with ⟨hz, hE⟩ | ⟨hz, hE⟩
          all_goals
            simp only [hE] at cs
            simp only [hz, if_true, if_false] at hnext
            have CS := Lib.hid cs
            have HN := Lib.hid hnext
            clear cs hnext hst hbr hblk hc hc2
            go_wp2
            (first | go_region_held3 (fun w' => w'.cell? ⟨W1.heap.size, 0, none⟩ = some (.int .i64 s) ∧ w'.cell? ⟨W1.heap.size, 1, none⟩ = some (.int .i64 t) ∧ w'.cell? ⟨bb, off + k, none⟩ = some (.int .i64 x) ∧ w'.cell? ⟨bb2, off2 + k, none⟩ = some (.bool be)) (first | exact ⟨c0 _ (by repeat (first | assumption | exact Below.refl _ _ | refine belAlloc ?_ _ | refine belDrew ?_ | refine belSet ?_ _ _ (by simp) | refine belStep ?_ (by assumption))), c1 _ (by repeat (first | assumption | exact Below.refl _ _ | refine belAlloc ?_ _ | refine belDrew ?_ | refine belSet ?_ _ _ (by simp) | refine belStep ?_ (by assumption))), x0 _ (by repeat (first | assumption | exact Below.refl _ _ | refine belAlloc ?_ _ | refine belDrew ?_ | refine belSet ?_ _ _ (by simp) | refine belStep ?_ (by assumption))), y0 _ (by repeat (first | assumption | exact Below.refl _ _ | refine belAlloc ?_ _ | refine belDrew ?_ | refine belSet ?_ _ _ (by simp) | refine belStep ?_ (by assumption)))⟩) (first | (go_at_call 18; refine (CS.out _).mono ?_; rintro e w1 ⟨rfl, hb1⟩; have hcc := Below.cells hb1; have hff := Below.frozens hb1)) | fail)
          all_goals
            clear HL HB x0 c0 c1 CS hcc hff
            try clear y0
            first
            | (have hb3 : Below wr.heap.size wr (w1.alloc (.cells #[.int .i64 s', .int .i64 t'] 23)) := belAlloc (belStep (belDrew hbel) hb1) _
               have n0 : (w1.alloc (.cells #[.int .i64 s', .int .i64 t'] 23)).cell? ⟨w1.heap.size, 0, none⟩ = some (.int .i64 s') := by simp
               have n1 : (w1.alloc (.cells #[.int .i64 s', .int .i64 t'] 23)).cell? ⟨w1.heap.size, 1, none⟩ = some (.int .i64 t') := by simp
               clear hb1
               generalize w1.alloc (.cells #[.int .i64 s', .int .i64 t'] 23) = W2 at *
               generalize w1.heap.size = M at *)
            | (have hb4 : Blk w1 wr.heap.size [.int .i64 0, .int .i64 0] 23 := (hb1.block wr.heap.size (by simp)).trans (Blk.at rfl : Blk (wr.alloc (.cells [.int .i64 0, .int .i64 0].toArray 23)) wr.heap.size [.int .i64 0, .int .i64 0] 23)
               have hb3 := belSet (belSet (belStep (belDrew (belAlloc hbel _)) hb1) ⟨wr.heap.size, 0, none⟩ (.int .i64 s') (by simp)) ⟨wr.heap.size, 1, none⟩ (.int .i64 t') (by simp)
               have hb5 := (hb4.set 0 (.int .i64 s')).set 1 (.int .i64 t')
               have n0 := hb5.cell (j := 0) rfl
               have n1 := hb5.cell (j := 1) rfl
               clear hb4 hb5 hb1
               generalize (w1.setCell ⟨wr.heap.size, 0, none⟩ (.int .i64 s')).setCell ⟨wr.heap.size, 1, none⟩ (.int .i64 t') = W2 at *
               generalize wr.heap.size = M at n0 n1 ⊢)
            have hblk := (HK.out.later hb3).keepB
            replace hbr := belStep HBR.out hb3
            replace hF := keepOnP hF hb3
            replace n0 := keep n0
            replace n1 := keep n1
            clear hbel HK HBR hb3
            have hbel : Below W2.heap.size W2 W2 := Below.refl _ _
            have hblt : W1.heap.size < W2.heap.size := (hblk _ hbel).lt
            go_wp2
            go_roundw
            case rel => exact ⟨k + 1, s', t', _, by omega, by push_cast; rfl, rfl, by simpa using HN.out, belSet (belSet hbr _ _ (Nat.le_refl _)) _ _ (Nat.le_refl _), ((hblk _ hbel).set 0 _).set 1 _⟩
            case measure => simp [intOf] <;> omega
        · obtain rfl : be = true := by rw [← hbe]; unfold bl; rw [List.getD_eq_getElem?_getD, List.getElem?_eq_none (by omega)]; rfl
          have hd : decide (lenb ≤ k) = true := by simp; omega
          obtain ⟨E, eE⟩ : ∃ y, (toS s x != 0) = y := ⟨_, rfl⟩
          simp only [eE] at cs key
          have CS := Lib.hid cs
          clear cs hst hbr hblk hc
          go_wp2
          refine wp_region_held_drew (S := fun w' => w'.cell? ⟨W1.heap.size, 0, none⟩ = some (.int .i64 s) ∧ w'.cell? ⟨W1.heap.size, 1, none⟩ = some (.int .i64 t) ∧ w'.cell? ⟨bb, off + k, none⟩ = some (.int .i64 x)) (by kernel_rfl) (by first | exact ⟨c0 _ (by repeat (first | assumption | exact Below.refl _ _ | refine belAlloc ?_ _ | refine belDrew ?_ | refine belSet ?_ _ _ (by simp) | refine belStep ?_ (by assumption))), c1 _ (by repeat (first | assumption | exact Below.refl _ _ | refine belAlloc ?_ _ | refine belDrew ?_ | refine belSet ?_ _ _ (by simp) | refine belStep ?_ (by assumption))), x0 _ (by repeat (first | assumption | exact Below.refl _ _ | refine belAlloc ?_ _ | refine belDrew ?_ | refine belSet ?_ _ _ (by simp) | refine belStep ?_ (by assumption)))⟩) (fun hHeld => ?_)
          refine wpAnyH_take (i := 0) (oi := ?oi_1) (v := ?v_1) ?hi_1 (by kernel_rfl) ?hf_1 ?hr_1 ?hQ_1 (Or.inl ⟨?hw_1, ?hy_1⟩) (by assumption) ?rest_1
          case hi_1 => ((simp only [List.getElem?_toArray, List.getElem?_cons_succ, List.getElem?_cons_zero]); rfl)
          case hf_1 => kernel_rfl
          case hr_1 => kernel_rfl
          case hQ_1 => exact fun _ _ _ h => h
          case hw_1 => rfl
          case hy_1 => ((intro w hSw; (try dsimp only at hSw); go_simp); all_goals (with_reducible rfl))
          try simp only [Act.put, List.setIfInBounds_toArray, List.set_cons_zero, List.set_cons_succ]
          refine wpAnyH_take (i := 1) (oi := ?oi_2) (v := ?v_2) ?hi_2 (by kernel_rfl) ?hf_2 ?hr_2 ?hQ_2 (Or.inl ⟨?hw_2, ?hy_2⟩) (by assumption) ?rest_2
          case hi_2 => ((simp only [List.getElem?_toArray, List.getElem?_cons_succ, List.getElem?_cons_zero]); rfl)
          case hf_2 => kernel_rfl
          case hr_2 => kernel_rfl
          case hQ_2 => exact fun _ _ _ h => h
          case hw_2 => rfl
          case hy_2 => ((intro w hSw; (try dsimp only at hSw); go_simp); all_goals (with_reducible rfl))
          try simp only [Act.put, List.setIfInBounds_toArray, List.set_cons_zero, List.set_cons_succ]
          refine wpAnyH_take (i := 2) (oi := ?oi_3) (v := ?v_3) ?hi_3 (by kernel_rfl) ?hf_3 ?hr_3 ?hQ_3 (Or.inl ⟨?hw_3, ?hy_3⟩) (by assumption) ?rest_3
          case hi_3 => ((simp only [List.getElem?_toArray, List.getElem?_cons_succ, List.getElem?_cons_zero]); rfl)
          case hf_3 => kernel_rfl
          case hr_3 => kernel_rfl
          case hQ_3 => exact fun _ _ _ h => h
          case hw_3 => rfl
          case hy_3 => ((intro w hSw; (try dsimp only at hSw); go_simp); all_goals (with_reducible rfl))
          try simp only [Act.put, List.setIfInBounds_toArray, List.set_cons_zero, List.set_cons_succ]
          refine wpAnyH_take (i := 3) (oi := ?oi_4) (v := ?v_4) ?hi_4 (by kernel_rfl) ?hf_4 ?hr_4 ?hQ_4 (Or.inl ⟨?hw_4, ?hy_4⟩) (by assumption) ?rest_4
          case hi_4 => ((simp only [List.getElem?_toArray, List.getElem?_cons_succ, List.getElem?_cons_zero]); rfl)
          case hf_4 => kernel_rfl
          case hr_4 => kernel_rfl
          case hQ_4 => exact fun _ _ _ h => h
          case hw_4 => rfl
          case hy_4 => ((intro w hSw; (try dsimp only at hSw); go_simp); all_goals (with_reducible rfl))
          try simp only [Act.put, List.setIfInBounds_toArray, List.set_cons_zero, List.set_cons_succ]
          refine wpAnyH_take (i := 4) (oi := ?oi_5) (v := ?v_5) ?hi_5 (by kernel_rfl) ?hf_5 ?hr_5 ?hQ_5 (Or.inl ⟨?hw_5, ?hy_5⟩) (by assumption) ?rest_5
          case hi_5 => ((simp only [List.getElem?_toArray, List.getElem?_cons_succ, List.getElem?_cons_zero]); rfl)
          case hf_5 => kernel_rfl
          case hr_5 => kernel_rfl
          case hQ_5 => exact fun _ _ _ h => h
          case hw_5 => rfl
          case hy_5 => ((intro w hSw; (try dsimp only at hSw); go_simp); all_goals (with_reducible rfl))
          try simp only [Act.put, List.setIfInBounds_toArray, List.set_cons_zero, List.set_cons_succ]
          refine wpAnyH_take (i := 5) (oi := ?oi_6) (v := ?v_6) ?hi_6 (by kernel_rfl) ?hf_6 ?hr_6 ?hQ_6 (Or.inl ⟨?hw_6, ?hy_6⟩) (by assumption) ?rest_6
          case hi_6 => ((simp only [List.getElem?_toArray, List.getElem?_cons_succ, List.getElem?_cons_zero]); rfl)
          case hf_6 => kernel_rfl
          case hr_6 => kernel_rfl
          case hQ_6 => exact fun _ _ _ h => h
          case hw_6 => rfl
          case hy_6 => ((intro w hSw; (try dsimp only at hSw); go_simp); all_goals (with_reducible rfl))
          try simp only [Act.put, List.setIfInBounds_toArray, List.set_cons_zero, List.set_cons_succ]
          refine wpAnyH_take (i := 6) (oi := ?oi_7) (v := ?v_7) ?hi_7 (by kernel_rfl) ?hf_7 ?hr_7 ?hQ_7 (Or.inl ⟨?hw_7, ?hy_7⟩) (by assumption) ?rest_7
          case hi_7 => ((simp only [List.getElem?_toArray, List.getElem?_cons_succ, List.getElem?_cons_zero]); rfl)
          case hf_7 => kernel_rfl
          case hr_7 => kernel_rfl
          case hQ_7 => exact fun _ _ _ h => h
          case hw_7 => rfl
          case hy_7 => ((intro w hSw; (try dsimp only at hSw); go_simp); all_goals (with_reducible rfl))
          try simp only [Act.put, List.setIfInBounds_toArray, List.set_cons_zero, List.set_cons_succ]
          refine wpAnyH_take (i := 7) (oi := ?oi_8) (v := ?v_8) ?hi_8 (by kernel_rfl) ?hf_8 ?hr_8 ?hQ_8 (Or.inl ⟨?hw_8, ?hy_8⟩) (by assumption) ?rest_8
          case hi_8 => ((simp only [List.getElem?_toArray, List.getElem?_cons_succ, List.getElem?_cons_zero]); rfl)
          case hf_8 => kernel_rfl
          case hr_8 => kernel_rfl
          case hQ_8 => exact fun _ _ _ h => h
          case hw_8 => rfl
          case hy_8 => ((intro w hSw; (try dsimp only at hSw); go_simp); all_goals (with_reducible rfl))
          try simp only [Act.put, List.setIfInBounds_toArray, List.set_cons_zero, List.set_cons_succ]
          refine wpAnyH_take (i := 8) (oi := ?oi_9) (v := ?v_9) ?hi_9 (by kernel_rfl) ?hf_9 ?hr_9 ?hQ_9 (Or.inl ⟨?hw_9, ?hy_9⟩) (by assumption) ?rest_9
          case hi_9 => ((simp only [List.getElem?_toArray, List.getElem?_cons_succ, List.getElem?_cons_zero]); rfl)
          case hf_9 => kernel_rfl
          case hr_9 => kernel_rfl
          case hQ_9 => exact fun _ _ _ h => h
          case hw_9 => rfl
          case hy_9 => ((intro w hSw; (try dsimp only at hSw); go_simp); all_goals (with_reducible rfl))
          try simp only [Act.put, List.setIfInBounds_toArray, List.set_cons_zero, List.set_cons_succ]
          refine wpAnyH_take (i := 9) (oi := ?oi_10) (v := ?v_10) ?hi_10 (by kernel_rfl) ?hf_10 ?hr_10 ?hQ_10 (Or.inl ⟨?hw_10, ?hy_10⟩) (by assumption) ?rest_10
          case hi_10 => ((simp only [List.getElem?_toArray, List.getElem?_cons_succ, List.getElem?_cons_zero]); rfl)
          case hf_10 => kernel_rfl
          case hr_10 => kernel_rfl
          case hQ_10 => exact fun _ _ _ h => h
          case hw_10 => rfl
          case hy_10 => ((intro w hSw; (try dsimp only at hSw); go_simp); all_goals (with_reducible rfl))
          try simp only [Act.put, List.setIfInBounds_toArray, List.set_cons_zero, List.set_cons_succ]
          refine wpAnyH_take (i := 10) (oi := ?oi_11) (v := undef) ?hi_11 (by kernel_rfl) ?hf_11 ?hr_11 ?hQ_11 (Or.inr ⟨?hw_11, rfl⟩) (by assumption) ?rest_11
          case hi_11 => ((simp only [List.getElem?_toArray, List.getElem?_cons_succ, List.getElem?_cons_zero]); rfl)
          case hf_11 => kernel_rfl
          case hr_11 => kernel_rfl
          case hQ_11 => exact fun _ _ _ h => h
          case hw_11 => rfl
          try simp only [Act.put, List.setIfInBounds_toArray, List.set_cons_zero, List.set_cons_succ]
          refine wpAnyH_take (i := 11) (oi := ?oi_12) (v := undef) ?hi_12 (by kernel_rfl) ?hf_12 ?hr_12 ?hQ_12 (Or.inr ⟨?hw_12, rfl⟩) (by assumption) ?rest_12
          case hi_12 => ((simp only [List.getElem?_toArray, List.getElem?_cons_succ, List.getElem?_cons_zero]); rfl)
          case hf_12 => kernel_rfl
          case hr_12 => kernel_rfl
          case hQ_12 => exact fun _ _ _ h => h
          case hw_12 => rfl
          try simp only [Act.put, List.setIfInBounds_toArray, List.set_cons_zero, List.set_cons_succ]
          refine wpAnyH_take (i := 12) (oi := ?oi_13) (v := undef) ?hi_13 (by kernel_rfl) ?hf_13 ?hr_13 ?hQ_13 (Or.inr ⟨?hw_13, rfl⟩) (by assumption) ?rest_13
          case hi_13 => ((simp only [List.getElem?_toArray, List.getElem?_cons_succ, List.getElem?_cons_zero]); rfl)
          case hf_13 => kernel_rfl
          case hr_13 => kernel_rfl
          case hQ_13 => exact fun _ _ _ h => h
          case hw_13 => rfl
          try simp only [Act.put, List.setIfInBounds_toArray, List.set_cons_zero, List.set_cons_succ]
          refine wpAnyH_take (i := 13) (oi := ?oi_14) (v := undef) ?hi_14 (by kernel_rfl) ?hf_14 ?hr_14 ?hQ_14 (Or.inr ⟨?hw_14, rfl⟩) (by assumption) ?rest_14
          case hi_14 => ((simp only [List.getElem?_toArray, List.getElem?_cons_succ, List.getElem?_cons_zero]); rfl)
          case hf_14 => kernel_rfl
          case hr_14 => kernel_rfl
          case hQ_14 => exact fun _ _ _ h => h
          case hw_14 => rfl
          try simp only [Act.put, List.setIfInBounds_toArray, List.set_cons_zero, List.set_cons_succ]
          refine wpAnyH_take (i := 14) (oi := ?oi_15) (v := ?v_15) ?hi_15 (by kernel_rfl) ?hf_15 ?hr_15 ?hQ_15 (Or.inl ⟨?hw_15, ?hy_15⟩) (by assumption) ?rest_15
          case hi_15 => ((simp only [List.getElem?_toArray, List.getElem?_cons_succ, List.getElem?_cons_zero]); rfl)
          case hf_15 => kernel_rfl
          case hr_15 => kernel_rfl
          case hQ_15 => exact fun _ _ _ h => h
          case hw_15 => rfl
          case hy_15 => ((intro w hSw; (try dsimp only at hSw); go_simp); all_goals (with_reducible rfl))
          try simp only [Act.put, List.setIfInBounds_toArray, List.set_cons_zero, List.set_cons_succ]
          refine wpAnyH_take (i := 15) (oi := ?oi_16) (v := ?v_16) ?hi_16 (by kernel_rfl) ?hf_16 ?hr_16 ?hQ_16 (Or.inl ⟨?hw_16, ?hy_16⟩) (by assumption) ?rest_16
          case hi_16 => ((simp only [List.getElem?_toArray, List.getElem?_cons_succ, List.getElem?_cons_zero]); rfl)
          case hf_16 => kernel_rfl
          case hr_16 => kernel_rfl
          case hQ_16 => exact fun _ _ _ h => h
          case hw_16 => rfl
          case hy_16 => ((intro w hSw; (try dsimp only at hSw); go_simp); all_goals (with_reducible rfl))
          try simp only [Act.put, List.setIfInBounds_toArray, List.set_cons_zero, List.set_cons_succ]
          refine wpAnyH_ready (rs := [16, 20]) (by kernel_rfl) (by simp) ?_
          refine AllReadyH.cons (o := ?o1_17) ?hi_17 (fun K hK => ?ra_17) (AllReadyH.cons (o := ?o2_17) ?hi2_17 (fun K hK => ?rb_17) AllReadyH.nil)
          case hi_17 => ((simp only [List.getElem?_toArray, List.getElem?_cons_succ, List.getElem?_cons_zero]); rfl)
          case hi2_17 => ((simp only [List.getElem?_toArray, List.getElem?_cons_succ, List.getElem?_cons_zero]); rfl)
          go_simp
          (go_at_call 18; refine (CS.out _).mono ?_; rintro e w1 ⟨rfl, hb1⟩; have hcc := Below.cells hb1; have hff := Below.frozens hb1)
          try go_simp
          refine hK.out _ _ (by first | exact ⟨c0 _ (by repeat (first | assumption | exact Below.refl _ _ | refine belAlloc ?_ _ | refine belDrew ?_ | refine belSet ?_ _ _ (by simp) | refine belStep ?_ (by assumption))), c1 _ (by repeat (first | assumption | exact Below.refl _ _ | refine belAlloc ?_ _ | refine belDrew ?_ | refine belSet ?_ _ _ (by simp) | refine belStep ?_ (by assumption))), x0 _ (by repeat (first | assumption | exact Below.refl _ _ | refine belAlloc ?_ _ | refine belDrew ?_ | refine belSet ?_ _ _ (by simp) | refine belStep ?_ (by assumption)))⟩) (fun hHeld => ?_)
          clear hK K
          try simp only [Act.put, List.setIfInBounds_toArray, List.set_cons_zero, List.set_cons_succ]
          refine wpAnyH_take (i := 17) (oi := ?oi_18) (v := ?v_18) ?hi_18 (by kernel_rfl) ?hf_18 ?hr_18 ?hQ_18 (Or.inl ⟨?hw_18, ?hy_18⟩) (by assumption) ?rest_18
          case hi_18 => ((simp only [List.getElem?_toArray, List.getElem?_cons_succ, List.getElem?_cons_zero]); rfl)
          case hf_18 => kernel_rfl
          case hr_18 => kernel_rfl
          case hQ_18 => exact fun _ _ _ h => h
          case hw_18 => rfl
          case hy_18 => ((intro w hSw; (try dsimp only at hSw); go_simp); all_goals (with_reducible rfl))
          try simp only [Act.put, List.setIfInBounds_toArray, List.set_cons_zero, List.set_cons_succ]
          refine wpAnyH_take (i := 18) (oi := ?oi_19) (v := ?v_19) ?hi_19 (by kernel_rfl) ?hf_19 ?hr_19 ?hQ_19 (Or.inl ⟨?hw_19, ?hy_19⟩) (by assumption) ?rest_19
          case hi_19 => ((simp only [List.getElem?_toArray, List.getElem?_cons_succ, List.getElem?_cons_zero]); rfl)
          case hf_19 => kernel_rfl
          case hr_19 => kernel_rfl
          case hQ_19 => exact fun _ _ _ h => h
          case hw_19 => rfl
          case hy_19 => ((intro w hSw; (try dsimp only at hSw); go_simp); all_goals (with_reducible rfl))
          try simp only [Act.put, List.setIfInBounds_toArray, List.set_cons_zero, List.set_cons_succ]
          refine wpAnyH_take (i := 19) (oi := ?oi_20) (v := ?v_20) ?hi_20 (by kernel_rfl) ?hf_20 ?hr_20 ?hQ_20 (Or.inl ⟨?hw_20, ?hy_20⟩) (by assumption) ?rest_20
          case hi_20 => ((simp only [List.getElem?_toArray, List.getElem?_cons_succ, List.getElem?_cons_zero]); rfl)
          case hf_20 => kernel_rfl
          case hr_20 => kernel_rfl
          case hQ_20 => exact fun _ _ _ h => h
          case hw_20 => rfl
          case hy_20 => ((intro w hSw; (try dsimp only at hSw); go_simp); all_goals (with_reducible rfl))
          try simp only [Act.put, List.setIfInBounds_toArray, List.set_cons_zero, List.set_cons_succ]
          refine wpAnyH_ready (rs := [20]) (by kernel_rfl) (by simp) ?_
          refine AllReadyH.cons (o := ?o1_21) ?hi_21 (fun K hK => ?rest_21) AllReadyH.nil
          case hi_21 => ((simp only [List.getElem?_toArray, List.getElem?_cons_succ, List.getElem?_cons_zero]); rfl)
          go_simp
          refine hK.out _ _ (by first | exact ⟨c0 _ (by repeat (first | assumption | exact Below.refl _ _ | refine belAlloc ?_ _ | refine belDrew ?_ | refine belSet ?_ _ _ (by simp) | refine belStep ?_ (by assumption))), c1 _ (by repeat (first | assumption | exact Below.refl _ _ | refine belAlloc ?_ _ | refine belDrew ?_ | refine belSet ?_ _ _ (by simp) | refine belStep ?_ (by assumption))), x0 _ (by repeat (first | assumption | exact Below.refl _ _ | refine belAlloc ?_ _ | refine belDrew ?_ | refine belSet ?_ _ _ (by simp) | refine belStep ?_ (by assumption)))⟩) (fun hHeld => ?_)
          clear hK K
          try simp only [Act.put, List.setIfInBounds_toArray, List.set_cons_zero, List.set_cons_succ]
          refine wpAnyH_ready (rs := [21]) (by kernel_rfl) (by simp) ?_
          refine AllReadyH.cons (o := ?o1_22) ?hi_22 (fun K hK => ?rest_22) AllReadyH.nil
          case hi_22 => ((simp only [List.getElem?_toArray, List.getElem?_cons_succ, List.getElem?_cons_zero]); rfl)
          go_simp
          refine hK.out _ _ (by first | exact ⟨c0 _ (by repeat (first | assumption | exact Below.refl _ _ | refine belAlloc ?_ _ | refine belDrew ?_ | refine belSet ?_ _ _ (by simp) | refine belStep ?_ (by assumption))), c1 _ (by repeat (first | assumption | exact Below.refl _ _ | refine belAlloc ?_ _ | refine belDrew ?_ | refine belSet ?_ _ _ (by simp) | refine belStep ?_ (by assumption))), x0 _ (by repeat (first | assumption | exact Below.refl _ _ | refine belAlloc ?_ _ | refine belDrew ?_ | refine belSet ?_ _ _ (by simp) | refine belStep ?_ (by assumption)))⟩) (fun hHeld => ?_)
          clear hK K
          try simp only [Act.put, List.setIfInBounds_toArray, List.set_cons_zero, List.set_cons_succ]
          refine wpAnyH_ready (rs := [22]) (by kernel_rfl) (by simp) ?_
          refine AllReadyH.cons (o := ?o1_23) ?hi_23 (fun K hK => ?rest_23) AllReadyH.nil
          case hi_23 => ((simp only [List.getElem?_toArray, List.getElem?_cons_succ, List.getElem?_cons_zero]); rfl)
          go_simp
          refine hK.out _ _ (by first | exact ⟨c0 _ (by repeat (first | assumption | exact Below.refl _ _ | refine belAlloc ?_ _ | refine belDrew ?_ | refine belSet ?_ _ _ (by simp) | refine belStep ?_ (by assumption))), c1 _ (by repeat (first | assumption | exact Below.refl _ _ | refine belAlloc ?_ _ | refine belDrew ?_ | refine belSet ?_ _ _ (by simp) | refine belStep ?_ (by assumption))), x0 _ (by repeat (first | assumption | exact Below.refl _ _ | refine belAlloc ?_ _ | refine belDrew ?_ | refine belSet ?_ _ _ (by simp) | refine belStep ?_ (by assumption)))⟩) (fun hHeld => ?_)
          clear hK K
          try simp only [Act.put, List.setIfInBounds_toArray, List.set_cons_zero, List.set_cons_succ]
          refine wpAnyH_done (by kernel_rfl) ?_ _
          rotate_left 1
          go_simp
          refine hK.out _ _ (by first | exact ⟨c0 _ (by repeat (first | assumption | exact Below.refl _ _ | refine belAlloc ?_ _ | refine belDrew ?_ | refine belSet ?_ _ _ (by simp) | refine belStep ?_ (by assumption))), c1 _ (by repeat (first | assumption | exact Below.refl _ _ | refine belAlloc ?_ _ | refine belDrew ?_ | refine belSet ?_ _ _ (by simp) | refine belStep ?_ (by assumption))), x0 _ (by repeat (first | assumption | exact Below.refl _ _ | refine belAlloc ?_ _ | refine belDrew ?_ | refine belSet ?_ _ _ (by simp) | refine belStep ?_ (by assumption)))⟩) (fun hHeld => ?_)
          clear hK K
          try simp only [Act.put, List.setIfInBounds_toArray, List.set_cons_zero, List.set_cons_succ]
          refine wpAnyH_ready (rs := [16]) (by kernel_rfl) (by simp) ?_
          refine AllReadyH.cons (o := ?o1_24) ?hi_24 (fun K hK => ?rest_24) AllReadyH.nil
          case hi_24 => ((simp only [List.getElem?_toArray, List.getElem?_cons_succ, List.getElem?_cons_zero]); rfl)
          go_simp
          (go_at_call 18; refine (CS.out _).mono ?_; rintro e w1 ⟨rfl, hb1⟩; have hcc := Below.cells hb1; have hff := Below.frozens hb1)
          try go_simp
          refine hK.out _ _ (by first | exact ⟨c0 _ (by repeat (first | assumption | exact Below.refl _ _ | refine belAlloc ?_ _ | refine belDrew ?_ | refine belSet ?_ _ _ (by simp) | refine belStep ?_ (by assumption))), c1 _ (by repeat (first | assumption | exact Below.refl _ _ | refine belAlloc ?_ _ | refine belDrew ?_ | refine belSet ?_ _ _ (by simp) | refine belStep ?_ (by assumption))), x0 _ (by repeat (first | assumption | exact Below.refl _ _ | refine belAlloc ?_ _ | refine belDrew ?_ | refine belSet ?_ _ _ (by simp) | refine belStep ?_ (by assumption)))⟩) (fun hHeld => ?_)
          clear hK K
          try simp only [Act.put, List.setIfInBounds_toArray, List.set_cons_zero, List.set_cons_succ]
          refine wpAnyH_take (i := 17) (oi := ?oi_25) (v := ?v_25) ?hi_25 (by kernel_rfl) ?hf_25 ?hr_25 ?hQ_25 (Or.inl ⟨?hw_25, ?hy_25⟩) (by assumption) ?rest_25
          case hi_25 => ((simp only [List.getElem?_toArray, List.getElem?_cons_succ, List.getElem?_cons_zero]); rfl)
          case hf_25 => kernel_rfl
          case hr_25 => kernel_rfl
          case hQ_25 => exact fun _ _ _ h => h
          case hw_25 => rfl
          case hy_25 => ((intro w hSw; (try dsimp only at hSw); go_simp); all_goals (with_reducible rfl))
          try simp only [Act.put, List.setIfInBounds_toArray, List.set_cons_zero, List.set_cons_succ]
          refine wpAnyH_take (i := 18) (oi := ?oi_26) (v := ?v_26) ?hi_26 (by kernel_rfl) ?hf_26 ?hr_26 ?hQ_26 (Or.inl ⟨?hw_26, ?hy_26⟩) (by assumption) ?rest_26
          case hi_26 => ((simp only [List.getElem?_toArray, List.getElem?_cons_succ, List.getElem?_cons_zero]); rfl)
          case hf_26 => kernel_rfl
          case hr_26 => kernel_rfl
          case hQ_26 => exact fun _ _ _ h => h
          case hw_26 => rfl
          case hy_26 => ((intro w hSw; (try dsimp only at hSw); go_simp); all_goals (with_reducible rfl))
          try simp only [Act.put, List.setIfInBounds_toArray, List.set_cons_zero, List.set_cons_succ]
          refine wpAnyH_take (i := 19) (oi := ?oi_27) (v := ?v_27) ?hi_27 (by kernel_rfl) ?hf_27 ?hr_27 ?hQ_27 (Or.inl ⟨?hw_27, ?hy_27⟩) (by assumption) ?rest_27
          case hi_27 => ((simp only [List.getElem?_toArray, List.getElem?_cons_succ, List.getElem?_cons_zero]); rfl)
          case hf_27 => kernel_rfl
          case hr_27 => kernel_rfl
          case hQ_27 => exact fun _ _ _ h => h
          case hw_27 => rfl
          case hy_27 => ((intro w hSw; (try dsimp only at hSw); go_simp); all_goals (with_reducible rfl))
          try simp only [Act.put, List.setIfInBounds_toArray, List.set_cons_zero, List.set_cons_succ]
          refine wpAnyH_ready (rs := [21]) (by kernel_rfl) (by simp) ?_
          refine AllReadyH.cons (o := ?o1_28) ?hi_28 (fun K hK => ?rest_28) AllReadyH.nil
          case hi_28 => ((simp only [List.getElem?_toArray, List.getElem?_cons_succ, List.getElem?_cons_zero]); rfl)
          go_simp
          refine hK.out _ _ (by first | exact ⟨c0 _ (by repeat (first | assumption | exact Below.refl _ _ | refine belAlloc ?_ _ | refine belDrew ?_ | refine belSet ?_ _ _ (by simp) | refine belStep ?_ (by assumption))), c1 _ (by repeat (first | assumption | exact Below.refl _ _ | refine belAlloc ?_ _ | refine belDrew ?_ | refine belSet ?_ _ _ (by simp) | refine belStep ?_ (by assumption))), x0 _ (by repeat (first | assumption | exact Below.refl _ _ | refine belAlloc ?_ _ | refine belDrew ?_ | refine belSet ?_ _ _ (by simp) | refine belStep ?_ (by assumption)))⟩) (fun hHeld => ?_)
          clear hK K
          try simp only [Act.put, List.setIfInBounds_toArray, List.set_cons_zero, List.set_cons_succ]
          refine wpAnyH_ready (rs := [22]) (by kernel_rfl) (by simp) ?_
          refine AllReadyH.cons (o := ?o1_29) ?hi_29 (fun K hK => ?rest_29) AllReadyH.nil
          case hi_29 => ((simp only [List.getElem?_toArray, List.getElem?_cons_succ, List.getElem?_cons_zero]); rfl)
          go_simp
          refine hK.out _ _ (by first | exact ⟨c0 _ (by repeat (first | assumption | exact Below.refl _ _ | refine belAlloc ?_ _ | refine belDrew ?_ | refine belSet ?_ _ _ (by simp) | refine belStep ?_ (by assumption))), c1 _ (by repeat (first | assumption | exact Below.refl _ _ | refine belAlloc ?_ _ | refine belDrew ?_ | refine belSet ?_ _ _ (by simp) | refine belStep ?_ (by assumption))), x0 _ (by repeat (first | assumption | exact Below.refl _ _ | refine belAlloc ?_ _ | refine belDrew ?_ | refine belSet ?_ _ _ (by simp) | refine belStep ?_ (by assumption)))⟩) (fun hHeld => ?_)
          clear hK K
          try simp only [Act.put, List.setIfInBounds_toArray, List.set_cons_zero, List.set_cons_succ]
          refine wpAnyH_done (by kernel_rfl) ?_ _
          all_goals
            rcases key with ⟨hz, hE⟩ | ⟨hz, hE⟩
          all_goals
            simp only [hz, if_true, if_false] at hnext
            have HN := Lib.hid hnext
            clear hnext
            subst hE
          all_goals
            clear HL HB x0 c0 c1 CS hcc hff
            try clear y0
            first
            | (have hb3 : Below wr.heap.size wr (w1.alloc (.cells #[.int .i64 s', .int .i64 t'] 23)) := belAlloc (belStep (belDrew hbel) hb1) _
               have n0 : (w1.alloc (.cells #[.int .i64 s', .int .i64 t'] 23)).cell? ⟨w1.heap.size, 0, none⟩ = some (.int .i64 s') := by simp
               have n1 : (w1.alloc (.cells #[.int .i64 s', .int .i64 t'] 23)).cell? ⟨w1.heap.size, 1, none⟩ = some (.int .i64 t') := by simp
               clear hb1
               generalize w1.alloc (.cells #[.int .i64 s', .int .i64 t'] 23) = W2 at *
               generalize w1.heap.size = M at *)
            | (have hb4 : Blk w1 wr.heap.size [.int .i64 0, .int .i64 0] 23 := (hb1.block wr.heap.size (by simp)).trans (Blk.at rfl : Blk (wr.alloc (.cells [.int .i64 0, .int .i64 0].toArray 23)) wr.heap.size [.int .i64 0, .int .i64 0] 23)
               have hb3 := belSet (belSet (belStep (belDrew (belAlloc hbel _)) hb1) ⟨wr.heap.size, 0, none⟩ (.int .i64 s') (by simp)) ⟨wr.heap.size, 1, none⟩ (.int .i64 t') (by simp)
               have hb5 := (hb4.set 0 (.int .i64 s')).set 1 (.int .i64 t')
               have n0 := hb5.cell (j := 0) rfl
               have n1 := hb5.cell (j := 1) rfl
               clear hb4 hb5 hb1
               generalize (w1.setCell ⟨wr.heap.size, 0, none⟩ (.int .i64 s')).setCell ⟨wr.heap.size, 1, none⟩ (.int .i64 t') = W2 at *
               generalize wr.heap.size = M at n0 n1 ⊢)
            have hblk := (HK.out.later hb3).keepB
            replace hbr := belStep HBR.out hb3
            replace hF := keepOnP hF hb3
            replace n0 := keep n0
            replace n1 := keep n1
            clear hbel HK HBR hb3
            have hbel : Below W2.heap.size W2 W2 := Below.refl _ _
            have hblt : W1.heap.size < W2.heap.size := (hblk _ hbel).lt
            go_wp2
            go_roundw
            case rel => exact ⟨k + 1, s', t', _, by omega, by push_cast; rfl, rfl, by simpa using HN.out, belSet (belSet hbr _ _ (Nat.le_refl _)) _ _ (Nat.le_refl _), ((hblk _ hbel).set 0 _).set 1 _⟩
            case measure => simp [intOf] <;> omega
      · obtain rfl : k = len := by omega
        have hbel : Below wr.heap.size wr wr := Below.refl _ _
        have HL1 := Lib.hid (HL.out.later hbr)
        have HB1 := Lib.hid (HB.out.later hbr)
        replace hw := belStep hw hbr
        have hM : W1.heap.size < wr.heap.size := hblk.lt
        clear HL HB
        obtain ⟨M, eM⟩ : ∃ M, W1.heap.size = M := ⟨_, rfl⟩
        rw [eM] at c0 c1 hM
        have cs : ∀ v, Ints .i64 v a k cap l → Bools v b lenb capb lb → Calls Try.prog 22 #[.slice a k cap, .slice b lenb capb, .int .i64 r] v fun e w' =>
            e = .returned (.tuple #[.agg #[.int .i64 s, .int .i64 t], .int .i64 n]) ∧ Below v.heap.size v w' := fun v h1 h2 => by
          have h := box_Run a k cap l b lenb capb lb r v h1 h2
          rw [hst] at h; exact h
        have CS := Lib.hid cs
        clear cs hF hst hblk hbr
        simp only [eM]
        go_upto_region 13 with (first | (go_at_call 22; (with_reducible refine (CS.out _ HL1.out HB1.out).mono ?_); rintro e w1 ⟨rfl, hb1⟩; replace hbel := belStep hbel hb1; clear hb1))
        have d0 : (w1.alloc (.cells #[.int .i64 s, .int .i64 t] 23)).cell? ⟨w1.heap.size, 0, none⟩ = some (.int .i64 s) := by first | (simp; done) | (rw [World.cell?_alloc_at _ _ _ _ (by simp)]; rfl) | (rw [World.cell?_alloc_past _ _ _ (by simp <;> omega), World.cell?_alloc_at _ _ _ _ (by simp)]; rfl) | (rw [World.cell?_alloc_past _ _ _ (by simp <;> omega), World.cell?_alloc_past _ _ _ (by simp <;> omega), World.cell?_alloc_at _ _ _ _ (by simp)]; rfl)
        have d1 : (w1.alloc (.cells #[.int .i64 s, .int .i64 t] 23)).cell? ⟨w1.heap.size, 1, none⟩ = some (.int .i64 t) := by first | (simp; done) | (rw [World.cell?_alloc_at _ _ _ _ (by simp)]; rfl) | (rw [World.cell?_alloc_past _ _ _ (by simp <;> omega), World.cell?_alloc_at _ _ _ _ (by simp)]; rfl) | (rw [World.cell?_alloc_past _ _ _ (by simp <;> omega), World.cell?_alloc_past _ _ _ (by simp <;> omega), World.cell?_alloc_at _ _ _ _ (by simp)]; rfl)
        have hb2 := (by repeat (first | exact hbel | refine belAlloc ?_ _ | refine belDrew ?_ | refine belSet ?_ _ _ (by simp)) : Below wr.heap.size wr (w1.alloc (.cells #[.int .i64 s, .int .i64 t] 23)))
        replace c0 := keepOnP c0 hb2
        replace c1 := keepOnP c1 hb2
        replace hw := belStep hw hb2
        clear hb2 hbel
        generalize w1.alloc (.cells #[.int .i64 s, .int .i64 t] 23) = W2 at *
        replace d0 := keep d0
        replace d1 := keep d1
        generalize w1.heap.size = n2 at *
        have hbel : Below W2.heap.size W2 W2 := Below.refl _ _
        clear w1
        go_wp2
        go_ret
        exact ⟨ret_bool (by simp), belStep hw hbel⟩

set_option maxRecDepth 100000 in
theorem lifted (os : Os) (started : os.Started) (H : Type) (enc : TypeId × Value → H) :
    ReturnsInHanded {} Try.checked os 4 .any (Rows.boxRunsSpec.pre6 enc Try.prog Try.f4 Rows.boxRunsRow.domain false) (Rows.boxRunsSpec.post enc Try.prog Try.f4 false true false false) := by
  refine returnsInHanded_of_change (C := Try.checked) own started (by kernel_rfl) Try.func4
    (ChangeSpec.witness6 (enc := enc) (C := Try.checked) false ⟨#[], #[.slice none 0 0, .slice none 0 0, .int .i64 0], []⟩ 8 (by kernel_rfl) (by kernel_rfl) (by kernel_rfl) (by kernel_rfl)) ?_
  intro W base args ds gs before hval0 hW hcnd _
  have hval : ∀ (j : Nat) t v, Try.f4.params[j]? = some t → args[j]? = some v → Value.okWide Try.prog W .any base t v := hval0
  have hW' := hW
  obtain ⟨p, q, hA0, hV, rfl, hfz, hnd⟩ := hW
  have hA : DataW.TrodAll enc Try.prog W 0 (fun _ => true) true Try.f4.params.toList args.toList ds p := hA0
  rw [Try.params4] at hA hval
  obtain ⟨v0, vs0, d0, ds0, p0, q0, hargs, rfl, rfl, h0, r0⟩ := trodAll_cons hA
  obtain ⟨v1, vs1, d1, ds1, p1, q1, rfl, rfl, rfl, h1, r1⟩ := trodAll_cons r0
  obtain ⟨v2, vs2, d2, ds2, p2, q2, rfl, rfl, rfl, h2, r2⟩ := trodAll_cons r1
  obtain ⟨rfl, rfl, rfl⟩ := trodAll_nil r2
  obtain rfl : args = #[v0, v1, v2] := by cases args; simp_all
  obtain ⟨rfl, rfl⟩ := trodVars_none hV
  have k0 := h0
  have lt0 : ∀ x ∈ p0, x.block < W.heap.size := by obtain ⟨m, hm⟩ := k0; exact DataW.trod_lt m _ _ _ hm
  have o0 : Value.okWide Try.prog W .any base 34 v0 := hval 0 34 v0 rfl rfl
  obtain ⟨a0, len0, cap0, rfl⟩ := okWide_slice Try.underlying34 o0
  obtain ⟨z0, w0⟩ : ∃ zs, Ints .i64 W a0 len0 cap0 zs := ints_of_trod Try.underlying34 Try.underlying3 (by kernel_rfl) h0
  have k1 := h1
  have lt1 : ∀ x ∈ p1, x.block < W.heap.size := by obtain ⟨m, hm⟩ := k1; exact DataW.trod_lt m _ _ _ hm
  have o1 : Value.okWide Try.prog W .any base 35 v1 := hval 1 35 v1 rfl rfl
  obtain ⟨a1, len1, cap1, rfl⟩ := okWide_slice Try.underlying35 o1
  obtain ⟨z1, w1⟩ : ∃ zs, Bools W a1 len1 cap1 zs := bools_of_trod Try.underlying35 Try.underlying4 (by kernel_rfl) h1
  have k2 := h2
  have lt2 : ∀ x ∈ p2, x.block < W.heap.size := by obtain ⟨m, hm⟩ := k2; exact DataW.trod_lt m _ _ _ hm
  have o2 : Value.okWide Try.prog W .any base 3 v2 := hval 2 3 v2 rfl rfl
  obtain ⟨a2, rfl, rfl, rfl, w2⟩ := open_int Try.underlying3 o2 h2
  clear hA0 hval0
  refine (walk a0 len0 cap0 z0 a1 len1 cap1 z1 a2 W w0 w1 (inI_of_wf w2)).mono fun e W' ⟨he, bel⟩ => ?_
  subst he
  exact ⟨_, rfl, _, _, _, [], _, [], hW', trodAll_mk1 (shut_bool Try.underlying4 _), (trodAll_cons_mk (Below.trod laidOut (by kernel_rfl) (of_decide_eq_true (by kernel_rfl)) k0 bel lt0) (trodAll_cons_mk (Below.trod laidOut (by kernel_rfl) (of_decide_eq_true (by kernel_rfl)) k1 bel lt1) (trodAll_cons_mk (Below.trod laidOut (by kernel_rfl) (of_decide_eq_true (by kernel_rfl)) k2 bel lt2) trodAll_mk0))), rfl, bel.frame _, fun h => by cases h⟩

theorem over : Rows.boxRunsRow.holds Try.pinned (OpenSpec.ofChange Rows.boxRunsSpec) :=
  OpenClaim.holds_of_wide 4 Try.f4 rfl rfl rfl rfl rfl rfl rfl ⟨rfl, rfl, rfl, rfl, rfl⟩ rfl rfl rfl rfl rfl (by kernel_rfl) Try.func4 (by kernel_rfl)
    (of_decide_eq_true (by kernel_rfl)) (by unfold Func.isWrapper; first | (rw [if_pos (by decide +kernel)]; kernel_rfl) | (rw [if_neg (by decide +kernel)]; exact ⟨rfl, rfl⟩))
    (fun os started H enc _ => lifted os started H enc)

/-- The statement. -/
theorem proved : Rows.BoxRunsSaid := over
#print axioms proved

end Go.Proofs.Ythhpkmpaldcloaa.boxRuns
