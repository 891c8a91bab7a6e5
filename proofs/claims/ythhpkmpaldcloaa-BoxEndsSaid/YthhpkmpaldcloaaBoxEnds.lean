/- BoxEnds holds for every number of tries, every slice of ints, every slice of bools and every number of retries. No conditions. -/
import Derived.Test.YthhpkmpaldcloaaAwake14
namespace Go.Proofs.Ythhpkmpaldcloaa.boxEnds
open Go.ChangeShapes Go.WideShapes Go.ChangeAt Go.RowKit
open Go.ChangeMaps (open_string shut_string)
set_option linter.unusedVariables false
set_option linter.unusedSimpArgs false

theorem ends (s t x : Int) (be : Bool) (r : Int) (hs : s = 5 ∨ s = 6) (ht : InI t) :
    InI (doN s t x be r) ∧ ((doE s x = 7 ∧ doS s t x be r = s ∧ doN s t x be r = t) ∨ (doE s x = 0 ∧ x = 4 ∧ (doS s t x be r = 5 ∨ doS s t x be r = 6))) := by
  have h1 := satAdd_bd t 1
  refine ⟨?_, ?_⟩
  · unfold doN; unfold InI at *; split <;> (try split) <;> omega
  · rcases hs with rfl | rfl
    · left; simp [doE, doS, doN, toS]
    · by_cases h : x = 4
      · subst h
        right
        cases be
        · simp only [doE, doS, failS, toS]; split <;> simp
        · simp [doE, doS, toS]
      · left
        have e : toS 6 x = 0 := by unfold toS; repeat (first | rw [if_neg (by omega)])
        simp [doE, doS, doN, e]

set_option maxRecDepth 100000 in
set_option maxHeartbeats 8000000 in
theorem walk (tries : Int) (a : Option Addr) (len cap : Nat) (l : List Int) (b : Option Addr) (lenb capb : Nat) (lb : List Bool) (r : Int) (w : World) (hi : InI tries) (hl : Ints .i64 w a len cap l) (hlb : Bools w b lenb capb lb) (hr : InI r) :
    Calls Try.prog 6 #[.int .i64 tries, .slice a len cap, .slice b lenb capb, .int .i64 r] w fun e w' => e = .returned (.bool true) ∧ Below w.heap.size w w' := by
  have hw : Below w.heap.size w w := Below.refl _ _
  have hbel := hw
  have hbd := hl.bounds
  have hbd2 := hlb.bounds
  have HL := Lib.hid hl
  have HB := Lib.hid hlb
  clear hl hlb
  have key : 200 < len ∨ (¬ 200 < len ∧ 200 < lenb) ∨ (¬ 200 < len ∧ ¬ 200 < lenb) := by omega
  rcases key with k1 | ⟨k1, k2⟩ | ⟨k1, k2⟩
  · go_enter Try.func6, Try.ntmps6
    go_wp2_with (first | (go_at_call 16; (with_reducible refine (awake14 _).mono ?_); rintro e w1 ⟨rfl, hb1⟩; replace hbel := belStep hbel hb1; clear hb1))
    go_ret
    exact ⟨rfl, hbel⟩
  · go_enter Try.func6, Try.ntmps6
    go_wp2_with (first | (go_at_call 16; (with_reducible refine (awake14 _).mono ?_); rintro e w1 ⟨rfl, hb1⟩; replace hbel := belStep hbel hb1; clear hb1))
    go_ret
    exact ⟨rfl, hbel⟩
  · go_enter Try.func6, Try.ntmps6
    go_upto_region 3 with (first | (go_at_call 16; (with_reducible refine (awake14 _).mono ?_); rintro e w1 ⟨rfl, hb1⟩; replace hbel := belStep hbel hb1; clear hb1))
    replace hw := belStep hw hbel
    clear hbel
    generalize w1 = W1 at *
    have hbel : Below W1.heap.size W1 W1 := Below.refl _ _
    replace HL := Lib.hid (HL.out.later hw)
    replace HB := Lib.hid (HB.out.later hw)
    go_wp2
    go_loopw [11] (fun i wr => ∃ (k : Nat) (s t : Int), k ≤ len ∧ i = .int .i64 k ∧ (s = 5 ∨ s = 6) ∧ InI t ∧ Below W1.heap.size W1 wr ∧ Blk wr W1.heap.size [.int .i64 5, .int .i64 tries] 23 ∧ Blk wr (W1.heap.size + 1) [.int .i64 s, .int .i64 t] 23) (fun i _ => len - (intOf i).toNat)
    case atStart => exact ⟨0, 6, tries, Nat.zero_le _, rfl, .inr rfl, hi, belAlloc (belAlloc (Below.refl _ _) _) _, (Blk.new W1 [.int .i64 5, .int .i64 tries] _).later (belAlloc (Below.refl _ _) _), Blk.at (by simp)⟩
    case round =>
      obtain ⟨k, s, t, hk, rfl, hs, ht, hbr, hblk0, hblk⟩ := hrel
      have g0 : ∀ v, Below wr.heap.size wr v → v.cell? ⟨W1.heap.size, 0, none⟩ = some (.int .i64 5) := keep (hblk0.cell rfl)
      have g1 : ∀ v, Below wr.heap.size wr v → v.cell? ⟨W1.heap.size, 1, none⟩ = some (.int .i64 tries) := keep (hblk0.cell rfl)
      have c0 : ∀ v, Below wr.heap.size wr v → v.cell? ⟨W1.heap.size + 1, 0, none⟩ = some (.int .i64 s) := keep (hblk.cell rfl)
      have c1 : ∀ v, Below wr.heap.size wr v → v.cell? ⟨W1.heap.size + 1, 1, none⟩ = some (.int .i64 t) := keep (hblk.cell rfl)
      have hF := hblk.keepF
      have hG := hblk0.keepB
      have hB := hblk.keepB
      have hM : W1.heap.size + 1 < wr.heap.size := hblk.lt
      have hbel : Below wr.heap.size wr wr := Below.refl _ _
      have HL2 := Lib.hid (HL.out.later hbr)
      have HB2 := Lib.hid (HB.out.later hbr)
      clear HL HB hblk0 hblk
      by_cases hlt : k < len
      · obtain ⟨bb, off, rfl, _, hc⟩ := HL2.out.opened (by omega)
        have x0 := keep (hc k hlt)
        have ik : InI (el l k) := HL2.out.inI hlt
        obtain ⟨x, ex⟩ : ∃ x, el l k = x := ⟨_, rfl⟩
        rw [ex] at x0 ik
        have is : InI s := by unfold InI; omega
        replace hw : Below W1.heap.size W1 wr := hbr
        clear hbr
        obtain ⟨be, hbe⟩ : ∃ be, bl lb k = be := ⟨_, rfl⟩
        have key := ends s t x be r hs ht
        obtain ⟨s', es⟩ : ∃ y, doS s t x be r = y := ⟨_, rfl⟩
        obtain ⟨t', et⟩ : ∃ y, doN s t x be r = y := ⟨_, rfl⟩
        obtain ⟨E, eE⟩ : ∃ y, doE s x = y := ⟨_, rfl⟩
        have D2 := Lib.hid (do_at s t x be r s' t' E es et eE is ht ik)
        have D1 := Lib.hid (do_at 5 tries x be r 5 tries 7 (by simp [doS, toS]) (by simp [doN, toS]) (by simp [doE, toS]) (by unfold InI; omega) hi ik)
        rw [es, et, eE] at key
        clear es et eE
        obtain ⟨it', key⟩ := key
        have pre : (k < lenb ∧ ∃ bb2 off2, b = some ⟨bb2, off2, none⟩ ∧ ∀ v, Below wr.heap.size wr v → v.cell? ⟨bb2, off2 + k, none⟩ = some (.bool be)) ∨ (¬ k < lenb ∧ be = true) := by
          by_cases hkb : k < lenb
          · obtain ⟨bb2, off2, e, _, hc2⟩ := HB2.out.opened (by omega)
            have y0 := hc2 k hkb
            rw [hbe] at y0
            exact .inl ⟨hkb, bb2, off2, e, keep y0⟩
          · exact .inr ⟨hkb, by rw [← hbe]; unfold bl; rw [List.getD_eq_getElem?_getD, List.getElem?_eq_none (by omega)]; rfl⟩
        clear HL2 HB2 hc hbe ex
        have d2 : ∀ n : Nat, n = n := fun _ => rfl
        --GENERATED
        rcases pre with ⟨hkb, bb2, off2, rfl, y0⟩ | ⟨hkb, rfl⟩
        · have hd : ¬ lenb ≤ k := by omega
          go_upto_region 9 with fail
          clear y0
          refine wp_region_held_drew (S := fun w' => w'.cell? ⟨W1.heap.size, 0, none⟩ = some (.int .i64 5) ∧ w'.cell? ⟨W1.heap.size, 1, none⟩ = some (.int .i64 tries) ∧ w'.cell? ⟨bb, off + k, none⟩ = some (.int .i64 x)) (by kernel_rfl) (by first | exact ⟨g0 _ (by repeat (first | assumption | exact Below.refl _ _ | refine belAlloc ?_ _ | refine belDrew ?_ | refine belSet ?_ _ _ (by simp) | refine belStep ?_ (by assumption))), g1 _ (by repeat (first | assumption | exact Below.refl _ _ | refine belAlloc ?_ _ | refine belDrew ?_ | refine belSet ?_ _ _ (by simp) | refine belStep ?_ (by assumption))), x0 _ (by repeat (first | assumption | exact Below.refl _ _ | refine belAlloc ?_ _ | refine belDrew ?_ | refine belSet ?_ _ _ (by simp) | refine belStep ?_ (by assumption)))⟩) (fun hHeld => ?_)
          refine wpAnyH_take (i := 0) (oi := ?oi_1) (v := ?v_1) ?hi_1 (by kernel_rfl) ?hf_1 ?hr_1 ?hQ_1 (Or.inl ⟨?hw_1, ?hy_1⟩) (by assumption) ?rest_1
          case hi_1 => ((simp only [List.getElem?_toArray, List.getElem?_cons_succ, List.getElem?_cons_zero]); rfl)
          case hf_1 => kernel_rfl
          case hr_1 => kernel_rfl
          case hQ_1 => exact fun _ _ _ h => h
          case hw_1 => rfl
          case hy_1 => ((intro w hSw; (try dsimp only at hSw); go_simp); all_goals (with_reducible rfl))
          try simp only [Act.put, List.setIfInBounds_toArray, List.set_cons_zero, List.set_cons_succ]
          refine wpAnyH_take (i := 1) (oi := ?oi_2) (v := ?v_2) ?hi_2 (by kernel_rfl) ?hf_2 ?hr_2 ?hQ_2 (Or.inl ⟨?hw_2, ?hy_2⟩) (by assumption) ?rest_2
          case hi_2 => ((simp only [List.getElem?_toArray, List.getElem?_cons_succ, List.getElem?_cons_zero]); rfl)
          case hf_2 => kernel_rfl
          case hr_2 => kernel_rfl
          case hQ_2 => exact fun _ _ _ h => h
          case hw_2 => rfl
          case hy_2 => ((intro w hSw; (try dsimp only at hSw); go_simp); all_goals (with_reducible rfl))
          try simp only [Act.put, List.setIfInBounds_toArray, List.set_cons_zero, List.set_cons_succ]
          refine wpAnyH_take (i := 2) (oi := ?oi_3) (v := ?v_3) ?hi_3 (by kernel_rfl) ?hf_3 ?hr_3 ?hQ_3 (Or.inl ⟨?hw_3, ?hy_3⟩) (by assumption) ?rest_3
          case hi_3 => ((simp only [List.getElem?_toArray, List.getElem?_cons_succ, List.getElem?_cons_zero]); rfl)
          case hf_3 => kernel_rfl
          case hr_3 => kernel_rfl
          case hQ_3 => exact fun _ _ _ h => h
          case hw_3 => rfl
          case hy_3 => ((intro w hSw; (try dsimp only at hSw); go_simp); all_goals (with_reducible rfl))
          try simp only [Act.put, List.setIfInBounds_toArray, List.set_cons_zero, List.set_cons_succ]
          refine wpAnyH_take (i := 3) (oi := ?oi_4) (v := ?v_4) ?hi_4 (by kernel_rfl) ?hf_4 ?hr_4 ?hQ_4 (Or.inl ⟨?hw_4, ?hy_4⟩) (by assumption) ?rest_4
          case hi_4 => ((simp only [List.getElem?_toArray, List.getElem?_cons_succ, List.getElem?_cons_zero]); rfl)
          case hf_4 => kernel_rfl
          case hr_4 => kernel_rfl
          case hQ_4 => exact fun _ _ _ h => h
          case hw_4 => rfl
          case hy_4 => ((intro w hSw; (try dsimp only at hSw); go_simp); all_goals (with_reducible rfl))
          try simp only [Act.put, List.setIfInBounds_toArray, List.set_cons_zero, List.set_cons_succ]
          refine wpAnyH_take (i := 4) (oi := ?oi_5) (v := ?v_5) ?hi_5 (by kernel_rfl) ?hf_5 ?hr_5 ?hQ_5 (Or.inl ⟨?hw_5, ?hy_5⟩) (by assumption) ?rest_5
          case hi_5 => ((simp only [List.getElem?_toArray, List.getElem?_cons_succ, List.getElem?_cons_zero]); rfl)
          case hf_5 => kernel_rfl
          case hr_5 => kernel_rfl
          case hQ_5 => exact fun _ _ _ h => h
          case hw_5 => rfl
          case hy_5 => ((intro w hSw; (try dsimp only at hSw); go_simp); all_goals (with_reducible rfl))
          try simp only [Act.put, List.setIfInBounds_toArray, List.set_cons_zero, List.set_cons_succ]
          refine wpAnyH_take (i := 5) (oi := ?oi_6) (v := ?v_6) ?hi_6 (by kernel_rfl) ?hf_6 ?hr_6 ?hQ_6 (Or.inl ⟨?hw_6, ?hy_6⟩) (by assumption) ?rest_6
          case hi_6 => ((simp only [List.getElem?_toArray, List.getElem?_cons_succ, List.getElem?_cons_zero]); rfl)
          case hf_6 => kernel_rfl
          case hr_6 => kernel_rfl
          case hQ_6 => exact fun _ _ _ h => h
          case hw_6 => rfl
          case hy_6 => ((intro w hSw; (try dsimp only at hSw); go_simp); all_goals (with_reducible rfl))
          try simp only [Act.put, List.setIfInBounds_toArray, List.set_cons_zero, List.set_cons_succ]
          refine wpAnyH_take (i := 6) (oi := ?oi_7) (v := ?v_7) ?hi_7 (by kernel_rfl) ?hf_7 ?hr_7 ?hQ_7 (Or.inl ⟨?hw_7, ?hy_7⟩) (by assumption) ?rest_7
          case hi_7 => ((simp only [List.getElem?_toArray, List.getElem?_cons_succ, List.getElem?_cons_zero]); rfl)
          case hf_7 => kernel_rfl
          case hr_7 => kernel_rfl
          case hQ_7 => exact fun _ _ _ h => h
          case hw_7 => rfl
          case hy_7 => ((intro w hSw; (try dsimp only at hSw); go_simp); all_goals (with_reducible rfl))
          try simp only [Act.put, List.setIfInBounds_toArray, List.set_cons_zero, List.set_cons_succ]
          refine wpAnyH_ready (rs := [7, 11]) (by kernel_rfl) (by simp) ?_
          refine AllReadyH.cons (o := ?o1_8) ?hi_8 (fun K hK => ?ra_8) (AllReadyH.cons (o := ?o2_8) ?hi2_8 (fun K hK => ?rb_8) AllReadyH.nil)
          case hi_8 => ((simp only [List.getElem?_toArray, List.getElem?_cons_succ, List.getElem?_cons_zero]); rfl)
          case hi2_8 => ((simp only [List.getElem?_toArray, List.getElem?_cons_succ, List.getElem?_cons_zero]); rfl)
          go_simp
          (go_at_call 17; refine (D1.out _).mono ?_; rintro e w1 ⟨rfl, hb1⟩; have hcc := Below.cells hb1; have hff := Below.frozens hb1)
          try go_simp
          refine hK.out _ _ (by first | exact ⟨g0 _ (by repeat (first | assumption | exact Below.refl _ _ | refine belAlloc ?_ _ | refine belDrew ?_ | refine belSet ?_ _ _ (by simp) | refine belStep ?_ (by assumption))), g1 _ (by repeat (first | assumption | exact Below.refl _ _ | refine belAlloc ?_ _ | refine belDrew ?_ | refine belSet ?_ _ _ (by simp) | refine belStep ?_ (by assumption))), x0 _ (by repeat (first | assumption | exact Below.refl _ _ | refine belAlloc ?_ _ | refine belDrew ?_ | refine belSet ?_ _ _ (by simp) | refine belStep ?_ (by assumption)))⟩) (fun hHeld => ?_)
          clear hK K
          try simp only [Act.put, List.setIfInBounds_toArray, List.set_cons_zero, List.set_cons_succ]
          refine wpAnyH_take (i := 8) (oi := ?oi_9) (v := ?v_9) ?hi_9 (by kernel_rfl) ?hf_9 ?hr_9 ?hQ_9 (Or.inl ⟨?hw_9, ?hy_9⟩) (by assumption) ?rest_9
          case hi_9 => ((simp only [List.getElem?_toArray, List.getElem?_cons_succ, List.getElem?_cons_zero]); rfl)
          case hf_9 => kernel_rfl
          case hr_9 => kernel_rfl
          case hQ_9 => exact fun _ _ _ h => h
          case hw_9 => rfl
          case hy_9 => ((intro w hSw; (try dsimp only at hSw); go_simp); all_goals (with_reducible rfl))
          try simp only [Act.put, List.setIfInBounds_toArray, List.set_cons_zero, List.set_cons_succ]
          refine wpAnyH_take (i := 9) (oi := ?oi_10) (v := ?v_10) ?hi_10 (by kernel_rfl) ?hf_10 ?hr_10 ?hQ_10 (Or.inl ⟨?hw_10, ?hy_10⟩) (by assumption) ?rest_10
          case hi_10 => ((simp only [List.getElem?_toArray, List.getElem?_cons_succ, List.getElem?_cons_zero]); rfl)
          case hf_10 => kernel_rfl
          case hr_10 => kernel_rfl
          case hQ_10 => exact fun _ _ _ h => h
          case hw_10 => rfl
          case hy_10 => ((intro w hSw; (try dsimp only at hSw); go_simp); all_goals (with_reducible rfl))
          try simp only [Act.put, List.setIfInBounds_toArray, List.set_cons_zero, List.set_cons_succ]
          refine wpAnyH_take (i := 10) (oi := ?oi_11) (v := ?v_11) ?hi_11 (by kernel_rfl) ?hf_11 ?hr_11 ?hQ_11 (Or.inl ⟨?hw_11, ?hy_11⟩) (by assumption) ?rest_11
          case hi_11 => ((simp only [List.getElem?_toArray, List.getElem?_cons_succ, List.getElem?_cons_zero]); rfl)
          case hf_11 => kernel_rfl
          case hr_11 => kernel_rfl
          case hQ_11 => exact fun _ _ _ h => h
          case hw_11 => rfl
          case hy_11 => ((intro w hSw; (try dsimp only at hSw); go_simp); all_goals (with_reducible rfl))
          try simp only [Act.put, List.setIfInBounds_toArray, List.set_cons_zero, List.set_cons_succ]
          refine wpAnyH_ready (rs := [11]) (by kernel_rfl) (by simp) ?_
          refine AllReadyH.cons (o := ?o1_12) ?hi_12 (fun K hK => ?rest_12) AllReadyH.nil
          case hi_12 => ((simp only [List.getElem?_toArray, List.getElem?_cons_succ, List.getElem?_cons_zero]); rfl)
          go_simp
          refine hK.out _ _ (by first | exact ⟨g0 _ (by repeat (first | assumption | exact Below.refl _ _ | refine belAlloc ?_ _ | refine belDrew ?_ | refine belSet ?_ _ _ (by simp) | refine belStep ?_ (by assumption))), g1 _ (by repeat (first | assumption | exact Below.refl _ _ | refine belAlloc ?_ _ | refine belDrew ?_ | refine belSet ?_ _ _ (by simp) | refine belStep ?_ (by assumption))), x0 _ (by repeat (first | assumption | exact Below.refl _ _ | refine belAlloc ?_ _ | refine belDrew ?_ | refine belSet ?_ _ _ (by simp) | refine belStep ?_ (by assumption)))⟩) (fun hHeld => ?_)
          clear hK K
          try simp only [Act.put, List.setIfInBounds_toArray, List.set_cons_zero, List.set_cons_succ]
          refine wpAnyH_ready (rs := [12]) (by kernel_rfl) (by simp) ?_
          refine AllReadyH.cons (o := ?o1_13) ?hi_13 (fun K hK => ?rest_13) AllReadyH.nil
          case hi_13 => ((simp only [List.getElem?_toArray, List.getElem?_cons_succ, List.getElem?_cons_zero]); rfl)
          go_simp
          refine hK.out _ _ (by first | exact ⟨g0 _ (by repeat (first | assumption | exact Below.refl _ _ | refine belAlloc ?_ _ | refine belDrew ?_ | refine belSet ?_ _ _ (by simp) | refine belStep ?_ (by assumption))), g1 _ (by repeat (first | assumption | exact Below.refl _ _ | refine belAlloc ?_ _ | refine belDrew ?_ | refine belSet ?_ _ _ (by simp) | refine belStep ?_ (by assumption))), x0 _ (by repeat (first | assumption | exact Below.refl _ _ | refine belAlloc ?_ _ | refine belDrew ?_ | refine belSet ?_ _ _ (by simp) | refine belStep ?_ (by assumption)))⟩) (fun hHeld => ?_)
          clear hK K
          try simp only [Act.put, List.setIfInBounds_toArray, List.set_cons_zero, List.set_cons_succ]
          refine wpAnyH_ready (rs := [13]) (by kernel_rfl) (by simp) ?_
          refine AllReadyH.cons (o := ?o1_14) ?hi_14 (fun K hK => ?rest_14) AllReadyH.nil
          case hi_14 => ((simp only [List.getElem?_toArray, List.getElem?_cons_succ, List.getElem?_cons_zero]); rfl)
          go_simp
          refine hK.out _ _ (by first | exact ⟨g0 _ (by repeat (first | assumption | exact Below.refl _ _ | refine belAlloc ?_ _ | refine belDrew ?_ | refine belSet ?_ _ _ (by simp) | refine belStep ?_ (by assumption))), g1 _ (by repeat (first | assumption | exact Below.refl _ _ | refine belAlloc ?_ _ | refine belDrew ?_ | refine belSet ?_ _ _ (by simp) | refine belStep ?_ (by assumption))), x0 _ (by repeat (first | assumption | exact Below.refl _ _ | refine belAlloc ?_ _ | refine belDrew ?_ | refine belSet ?_ _ _ (by simp) | refine belStep ?_ (by assumption)))⟩) (fun hHeld => ?_)
          clear hK K
          try simp only [Act.put, List.setIfInBounds_toArray, List.set_cons_zero, List.set_cons_succ]
          refine wpAnyH_done (by kernel_rfl) ?_ _
          rotate_left 1
          go_simp
          refine hK.out _ _ (by first | exact ⟨g0 _ (by repeat (first | assumption | exact Below.refl _ _ | refine belAlloc ?_ _ | refine belDrew ?_ | refine belSet ?_ _ _ (by simp) | refine belStep ?_ (by assumption))), g1 _ (by repeat (first | assumption | exact Below.refl _ _ | refine belAlloc ?_ _ | refine belDrew ?_ | refine belSet ?_ _ _ (by simp) | refine belStep ?_ (by assumption))), x0 _ (by repeat (first | assumption | exact Below.refl _ _ | refine belAlloc ?_ _ | refine belDrew ?_ | refine belSet ?_ _ _ (by simp) | refine belStep ?_ (by assumption)))⟩) (fun hHeld => ?_)
          clear hK K
          try simp only [Act.put, List.setIfInBounds_toArray, List.set_cons_zero, List.set_cons_succ]
          refine wpAnyH_ready (rs := [7]) (by kernel_rfl) (by simp) ?_
          refine AllReadyH.cons (o := ?o1_15) ?hi_15 (fun K hK => ?rest_15) AllReadyH.nil
          case hi_15 => ((simp only [List.getElem?_toArray, List.getElem?_cons_succ, List.getElem?_cons_zero]); rfl)
          go_simp
          (go_at_call 17; refine (D1.out _).mono ?_; rintro e w1 ⟨rfl, hb1⟩; have hcc := Below.cells hb1; have hff := Below.frozens hb1)
          try go_simp
          refine hK.out _ _ (by first | exact ⟨g0 _ (by repeat (first | assumption | exact Below.refl _ _ | refine belAlloc ?_ _ | refine belDrew ?_ | refine belSet ?_ _ _ (by simp) | refine belStep ?_ (by assumption))), g1 _ (by repeat (first | assumption | exact Below.refl _ _ | refine belAlloc ?_ _ | refine belDrew ?_ | refine belSet ?_ _ _ (by simp) | refine belStep ?_ (by assumption))), x0 _ (by repeat (first | assumption | exact Below.refl _ _ | refine belAlloc ?_ _ | refine belDrew ?_ | refine belSet ?_ _ _ (by simp) | refine belStep ?_ (by assumption)))⟩) (fun hHeld => ?_)
          clear hK K
          try simp only [Act.put, List.setIfInBounds_toArray, List.set_cons_zero, List.set_cons_succ]
          refine wpAnyH_take (i := 8) (oi := ?oi_16) (v := ?v_16) ?hi_16 (by kernel_rfl) ?hf_16 ?hr_16 ?hQ_16 (Or.inl ⟨?hw_16, ?hy_16⟩) (by assumption) ?rest_16
          case hi_16 => ((simp only [List.getElem?_toArray, List.getElem?_cons_succ, List.getElem?_cons_zero]); rfl)
          case hf_16 => kernel_rfl
          case hr_16 => kernel_rfl
          case hQ_16 => exact fun _ _ _ h => h
          case hw_16 => rfl
          case hy_16 => ((intro w hSw; (try dsimp only at hSw); go_simp); all_goals (with_reducible rfl))
          try simp only [Act.put, List.setIfInBounds_toArray, List.set_cons_zero, List.set_cons_succ]
          refine wpAnyH_take (i := 9) (oi := ?oi_17) (v := ?v_17) ?hi_17 (by kernel_rfl) ?hf_17 ?hr_17 ?hQ_17 (Or.inl ⟨?hw_17, ?hy_17⟩) (by assumption) ?rest_17
          case hi_17 => ((simp only [List.getElem?_toArray, List.getElem?_cons_succ, List.getElem?_cons_zero]); rfl)
          case hf_17 => kernel_rfl
          case hr_17 => kernel_rfl
          case hQ_17 => exact fun _ _ _ h => h
          case hw_17 => rfl
          case hy_17 => ((intro w hSw; (try dsimp only at hSw); go_simp); all_goals (with_reducible rfl))
          try simp only [Act.put, List.setIfInBounds_toArray, List.set_cons_zero, List.set_cons_succ]
          refine wpAnyH_take (i := 10) (oi := ?oi_18) (v := ?v_18) ?hi_18 (by kernel_rfl) ?hf_18 ?hr_18 ?hQ_18 (Or.inl ⟨?hw_18, ?hy_18⟩) (by assumption) ?rest_18
          case hi_18 => ((simp only [List.getElem?_toArray, List.getElem?_cons_succ, List.getElem?_cons_zero]); rfl)
          case hf_18 => kernel_rfl
          case hr_18 => kernel_rfl
          case hQ_18 => exact fun _ _ _ h => h
          case hw_18 => rfl
          case hy_18 => ((intro w hSw; (try dsimp only at hSw); go_simp); all_goals (with_reducible rfl))
          try simp only [Act.put, List.setIfInBounds_toArray, List.set_cons_zero, List.set_cons_succ]
          refine wpAnyH_ready (rs := [12]) (by kernel_rfl) (by simp) ?_
          refine AllReadyH.cons (o := ?o1_19) ?hi_19 (fun K hK => ?rest_19) AllReadyH.nil
          case hi_19 => ((simp only [List.getElem?_toArray, List.getElem?_cons_succ, List.getElem?_cons_zero]); rfl)
          go_simp
          refine hK.out _ _ (by first | exact ⟨g0 _ (by repeat (first | assumption | exact Below.refl _ _ | refine belAlloc ?_ _ | refine belDrew ?_ | refine belSet ?_ _ _ (by simp) | refine belStep ?_ (by assumption))), g1 _ (by repeat (first | assumption | exact Below.refl _ _ | refine belAlloc ?_ _ | refine belDrew ?_ | refine belSet ?_ _ _ (by simp) | refine belStep ?_ (by assumption))), x0 _ (by repeat (first | assumption | exact Below.refl _ _ | refine belAlloc ?_ _ | refine belDrew ?_ | refine belSet ?_ _ _ (by simp) | refine belStep ?_ (by assumption)))⟩) (fun hHeld => ?_)
          clear hK K
          try simp only [Act.put, List.setIfInBounds_toArray, List.set_cons_zero, List.set_cons_succ]
          refine wpAnyH_ready (rs := [13]) (by kernel_rfl) (by simp) ?_
          refine AllReadyH.cons (o := ?o1_20) ?hi_20 (fun K hK => ?rest_20) AllReadyH.nil
          case hi_20 => ((simp only [List.getElem?_toArray, List.getElem?_cons_succ, List.getElem?_cons_zero]); rfl)
          go_simp
          refine hK.out _ _ (by first | exact ⟨g0 _ (by repeat (first | assumption | exact Below.refl _ _ | refine belAlloc ?_ _ | refine belDrew ?_ | refine belSet ?_ _ _ (by simp) | refine belStep ?_ (by assumption))), g1 _ (by repeat (first | assumption | exact Below.refl _ _ | refine belAlloc ?_ _ | refine belDrew ?_ | refine belSet ?_ _ _ (by simp) | refine belStep ?_ (by assumption))), x0 _ (by repeat (first | assumption | exact Below.refl _ _ | refine belAlloc ?_ _ | refine belDrew ?_ | refine belSet ?_ _ _ (by simp) | refine belStep ?_ (by assumption)))⟩) (fun hHeld => ?_)
          clear hK K
          try simp only [Act.put, List.setIfInBounds_toArray, List.set_cons_zero, List.set_cons_succ]
          refine wpAnyH_done (by kernel_rfl) ?_ _
          · skip
            clear hcc hff
            first
            | (have hb3 : Below wr.heap.size wr (w1.alloc (.cells #[.int .i64 5, .int .i64 tries] 23)) := belAlloc (belStep (belDrew hbel) hb1) _
               have n0 : (w1.alloc (.cells #[.int .i64 5, .int .i64 tries] 23)).cell? ⟨w1.heap.size, 0, none⟩ = some (.int .i64 5) := by simp
               have n1 : (w1.alloc (.cells #[.int .i64 5, .int .i64 tries] 23)).cell? ⟨w1.heap.size, 1, none⟩ = some (.int .i64 tries) := by simp
               clear hb1
               generalize w1.alloc (.cells #[.int .i64 5, .int .i64 tries] 23) = W2 at *
               generalize w1.heap.size = M at *)
            | (have hb4 : Blk w1 wr.heap.size [.int .i64 0, .int .i64 0] 23 := (hb1.block wr.heap.size (by simp)).trans (Blk.at rfl : Blk (wr.alloc (.cells [.int .i64 0, .int .i64 0].toArray 23)) wr.heap.size [.int .i64 0, .int .i64 0] 23)
               have hb3 := belSet (belSet (belStep (belDrew (belAlloc hbel _)) hb1) ⟨wr.heap.size, 0, none⟩ (.int .i64 5) (by simp)) ⟨wr.heap.size, 1, none⟩ (.int .i64 tries) (by simp)
               have hb5 := ((hb4).set 0 (.int .i64 5)).set 1 (.int .i64 tries)
               have n0 := hb5.cell (j := 0) rfl
               have n1 := hb5.cell (j := 1) rfl
               clear hb4 hb5 hb1
               generalize (w1.setCell ⟨wr.heap.size, 0, none⟩ (.int .i64 5)).setCell ⟨wr.heap.size, 1, none⟩ (.int .i64 tries) = W2 at *
               generalize wr.heap.size = M at n0 n1 ⊢)
            replace g0 := keepOnP g0 hb3
            replace g1 := keepOnP g1 hb3
            replace c0 := keepOnP c0 hb3
            replace c1 := keepOnP c1 hb3
            replace x0 := keepOnP x0 hb3
            replace hF := keepOnP hF hb3
            replace hG := keepOnP hG hb3
            replace hB := keepOnP hB hb3
            replace n0 := keep n0
            replace n1 := keep n1
            replace hw := belStep hw hb3
            clear hbel hb3
            have hbel : Below W2.heap.size W2 W2 := Below.refl _ _
            go_upto_region 12 with fail
            refine wp_region_held_drew (S := fun w' => w'.cell? ⟨W1.heap.size + 1, 0, none⟩ = some (.int .i64 s) ∧ w'.cell? ⟨W1.heap.size + 1, 1, none⟩ = some (.int .i64 t) ∧ w'.cell? ⟨bb, off + k, none⟩ = some (.int .i64 x)) (by kernel_rfl) (by first | exact ⟨c0 _ (by repeat (first | assumption | exact Below.refl _ _ | refine belAlloc ?_ _ | refine belDrew ?_ | refine belSet ?_ _ _ (by simp) | refine belStep ?_ (by assumption))), c1 _ (by repeat (first | assumption | exact Below.refl _ _ | refine belAlloc ?_ _ | refine belDrew ?_ | refine belSet ?_ _ _ (by simp) | refine belStep ?_ (by assumption))), x0 _ (by repeat (first | assumption | exact Below.refl _ _ | refine belAlloc ?_ _ | refine belDrew ?_ | refine belSet ?_ _ _ (by simp) | refine belStep ?_ (by assumption)))⟩) (fun hHeld => ?_)
            refine wpAnyH_take (i := 0) (oi := ?oi_21) (v := ?v_21) ?hi_21 (by kernel_rfl) ?hf_21 ?hr_21 ?hQ_21 (Or.inl ⟨?hw_21, ?hy_21⟩) (by assumption) ?rest_21
            case hi_21 => ((simp only [List.getElem?_toArray, List.getElem?_cons_succ, List.getElem?_cons_zero]); rfl)
            case hf_21 => kernel_rfl
            case hr_21 => kernel_rfl
            case hQ_21 => exact fun _ _ _ h => h
            case hw_21 => rfl
            case hy_21 => ((intro w hSw; (try dsimp only at hSw); go_simp); all_goals (with_reducible rfl))
            try simp only [Act.put, List.setIfInBounds_toArray, List.set_cons_zero, List.set_cons_succ]
            refine wpAnyH_take (i := 1) (oi := ?oi_22) (v := ?v_22) ?hi_22 (by kernel_rfl) ?hf_22 ?hr_22 ?hQ_22 (Or.inl ⟨?hw_22, ?hy_22⟩) (by assumption) ?rest_22
            case hi_22 => ((simp only [List.getElem?_toArray, List.getElem?_cons_succ, List.getElem?_cons_zero]); rfl)
            case hf_22 => kernel_rfl
            case hr_22 => kernel_rfl
            case hQ_22 => exact fun _ _ _ h => h
            case hw_22 => rfl
            case hy_22 => ((intro w hSw; (try dsimp only at hSw); go_simp); all_goals (with_reducible rfl))
            try simp only [Act.put, List.setIfInBounds_toArray, List.set_cons_zero, List.set_cons_succ]
            refine wpAnyH_take (i := 2) (oi := ?oi_23) (v := ?v_23) ?hi_23 (by kernel_rfl) ?hf_23 ?hr_23 ?hQ_23 (Or.inl ⟨?hw_23, ?hy_23⟩) (by assumption) ?rest_23
            case hi_23 => ((simp only [List.getElem?_toArray, List.getElem?_cons_succ, List.getElem?_cons_zero]); rfl)
            case hf_23 => kernel_rfl
            case hr_23 => kernel_rfl
            case hQ_23 => exact fun _ _ _ h => h
            case hw_23 => rfl
            case hy_23 => ((intro w hSw; (try dsimp only at hSw); go_simp); all_goals (with_reducible rfl))
            try simp only [Act.put, List.setIfInBounds_toArray, List.set_cons_zero, List.set_cons_succ]
            refine wpAnyH_take (i := 3) (oi := ?oi_24) (v := ?v_24) ?hi_24 (by kernel_rfl) ?hf_24 ?hr_24 ?hQ_24 (Or.inl ⟨?hw_24, ?hy_24⟩) (by assumption) ?rest_24
            case hi_24 => ((simp only [List.getElem?_toArray, List.getElem?_cons_succ, List.getElem?_cons_zero]); rfl)
            case hf_24 => kernel_rfl
            case hr_24 => kernel_rfl
            case hQ_24 => exact fun _ _ _ h => h
            case hw_24 => rfl
            case hy_24 => ((intro w hSw; (try dsimp only at hSw); go_simp); all_goals (with_reducible rfl))
            try simp only [Act.put, List.setIfInBounds_toArray, List.set_cons_zero, List.set_cons_succ]
            refine wpAnyH_take (i := 4) (oi := ?oi_25) (v := ?v_25) ?hi_25 (by kernel_rfl) ?hf_25 ?hr_25 ?hQ_25 (Or.inl ⟨?hw_25, ?hy_25⟩) (by assumption) ?rest_25
            case hi_25 => ((simp only [List.getElem?_toArray, List.getElem?_cons_succ, List.getElem?_cons_zero]); rfl)
            case hf_25 => kernel_rfl
            case hr_25 => kernel_rfl
            case hQ_25 => exact fun _ _ _ h => h
            case hw_25 => rfl
            case hy_25 => ((intro w hSw; (try dsimp only at hSw); go_simp); all_goals (with_reducible rfl))
            try simp only [Act.put, List.setIfInBounds_toArray, List.set_cons_zero, List.set_cons_succ]
            refine wpAnyH_take (i := 5) (oi := ?oi_26) (v := ?v_26) ?hi_26 (by kernel_rfl) ?hf_26 ?hr_26 ?hQ_26 (Or.inl ⟨?hw_26, ?hy_26⟩) (by assumption) ?rest_26
            case hi_26 => ((simp only [List.getElem?_toArray, List.getElem?_cons_succ, List.getElem?_cons_zero]); rfl)
            case hf_26 => kernel_rfl
            case hr_26 => kernel_rfl
            case hQ_26 => exact fun _ _ _ h => h
            case hw_26 => rfl
            case hy_26 => ((intro w hSw; (try dsimp only at hSw); go_simp); all_goals (with_reducible rfl))
            try simp only [Act.put, List.setIfInBounds_toArray, List.set_cons_zero, List.set_cons_succ]
            refine wpAnyH_take (i := 6) (oi := ?oi_27) (v := ?v_27) ?hi_27 (by kernel_rfl) ?hf_27 ?hr_27 ?hQ_27 (Or.inl ⟨?hw_27, ?hy_27⟩) (by assumption) ?rest_27
            case hi_27 => ((simp only [List.getElem?_toArray, List.getElem?_cons_succ, List.getElem?_cons_zero]); rfl)
            case hf_27 => kernel_rfl
            case hr_27 => kernel_rfl
            case hQ_27 => exact fun _ _ _ h => h
            case hw_27 => rfl
            case hy_27 => ((intro w hSw; (try dsimp only at hSw); go_simp); all_goals (with_reducible rfl))
            try simp only [Act.put, List.setIfInBounds_toArray, List.set_cons_zero, List.set_cons_succ]
            refine wpAnyH_ready (rs := [7, 11]) (by kernel_rfl) (by simp) ?_
            refine AllReadyH.cons (o := ?o1_28) ?hi_28 (fun K hK => ?ra_28) (AllReadyH.cons (o := ?o2_28) ?hi2_28 (fun K hK => ?rb_28) AllReadyH.nil)
            case hi_28 => ((simp only [List.getElem?_toArray, List.getElem?_cons_succ, List.getElem?_cons_zero]); rfl)
            case hi2_28 => ((simp only [List.getElem?_toArray, List.getElem?_cons_succ, List.getElem?_cons_zero]); rfl)
            go_simp
            (go_at_call 17; refine (D2.out _).mono ?_; rintro e w1 ⟨rfl, hb1⟩; have hcc := Below.cells hb1; have hff := Below.frozens hb1)
            try go_simp
            refine hK.out _ _ (by first | exact ⟨c0 _ (by repeat (first | assumption | exact Below.refl _ _ | refine belAlloc ?_ _ | refine belDrew ?_ | refine belSet ?_ _ _ (by simp) | refine belStep ?_ (by assumption))), c1 _ (by repeat (first | assumption | exact Below.refl _ _ | refine belAlloc ?_ _ | refine belDrew ?_ | refine belSet ?_ _ _ (by simp) | refine belStep ?_ (by assumption))), x0 _ (by repeat (first | assumption | exact Below.refl _ _ | refine belAlloc ?_ _ | refine belDrew ?_ | refine belSet ?_ _ _ (by simp) | refine belStep ?_ (by assumption)))⟩) (fun hHeld => ?_)
            clear hK K
            try simp only [Act.put, List.setIfInBounds_toArray, List.set_cons_zero, List.set_cons_succ]
            refine wpAnyH_take (i := 8) (oi := ?oi_29) (v := ?v_29) ?hi_29 (by kernel_rfl) ?hf_29 ?hr_29 ?hQ_29 (Or.inl ⟨?hw_29, ?hy_29⟩) (by assumption) ?rest_29
            case hi_29 => ((simp only [List.getElem?_toArray, List.getElem?_cons_succ, List.getElem?_cons_zero]); rfl)
            case hf_29 => kernel_rfl
            case hr_29 => kernel_rfl
            case hQ_29 => exact fun _ _ _ h => h
            case hw_29 => rfl
            case hy_29 => ((intro w hSw; (try dsimp only at hSw); go_simp); all_goals (with_reducible rfl))
            try simp only [Act.put, List.setIfInBounds_toArray, List.set_cons_zero, List.set_cons_succ]
            refine wpAnyH_take (i := 9) (oi := ?oi_30) (v := ?v_30) ?hi_30 (by kernel_rfl) ?hf_30 ?hr_30 ?hQ_30 (Or.inl ⟨?hw_30, ?hy_30⟩) (by assumption) ?rest_30
            case hi_30 => ((simp only [List.getElem?_toArray, List.getElem?_cons_succ, List.getElem?_cons_zero]); rfl)
            case hf_30 => kernel_rfl
            case hr_30 => kernel_rfl
            case hQ_30 => exact fun _ _ _ h => h
            case hw_30 => rfl
            case hy_30 => ((intro w hSw; (try dsimp only at hSw); go_simp); all_goals (with_reducible rfl))
            try simp only [Act.put, List.setIfInBounds_toArray, List.set_cons_zero, List.set_cons_succ]
            refine wpAnyH_take (i := 10) (oi := ?oi_31) (v := ?v_31) ?hi_31 (by kernel_rfl) ?hf_31 ?hr_31 ?hQ_31 (Or.inl ⟨?hw_31, ?hy_31⟩) (by assumption) ?rest_31
            case hi_31 => ((simp only [List.getElem?_toArray, List.getElem?_cons_succ, List.getElem?_cons_zero]); rfl)
            case hf_31 => kernel_rfl
            case hr_31 => kernel_rfl
            case hQ_31 => exact fun _ _ _ h => h
            case hw_31 => rfl
            case hy_31 => ((intro w hSw; (try dsimp only at hSw); go_simp); all_goals (with_reducible rfl))
            try simp only [Act.put, List.setIfInBounds_toArray, List.set_cons_zero, List.set_cons_succ]
            refine wpAnyH_ready (rs := [11]) (by kernel_rfl) (by simp) ?_
            refine AllReadyH.cons (o := ?o1_32) ?hi_32 (fun K hK => ?rest_32) AllReadyH.nil
            case hi_32 => ((simp only [List.getElem?_toArray, List.getElem?_cons_succ, List.getElem?_cons_zero]); rfl)
            go_simp
            refine hK.out _ _ (by first | exact ⟨c0 _ (by repeat (first | assumption | exact Below.refl _ _ | refine belAlloc ?_ _ | refine belDrew ?_ | refine belSet ?_ _ _ (by simp) | refine belStep ?_ (by assumption))), c1 _ (by repeat (first | assumption | exact Below.refl _ _ | refine belAlloc ?_ _ | refine belDrew ?_ | refine belSet ?_ _ _ (by simp) | refine belStep ?_ (by assumption))), x0 _ (by repeat (first | assumption | exact Below.refl _ _ | refine belAlloc ?_ _ | refine belDrew ?_ | refine belSet ?_ _ _ (by simp) | refine belStep ?_ (by assumption)))⟩) (fun hHeld => ?_)
            clear hK K
            try simp only [Act.put, List.setIfInBounds_toArray, List.set_cons_zero, List.set_cons_succ]
            refine wpAnyH_ready (rs := [12]) (by kernel_rfl) (by simp) ?_
            refine AllReadyH.cons (o := ?o1_33) ?hi_33 (fun K hK => ?rest_33) AllReadyH.nil
            case hi_33 => ((simp only [List.getElem?_toArray, List.getElem?_cons_succ, List.getElem?_cons_zero]); rfl)
            go_simp
            refine hK.out _ _ (by first | exact ⟨c0 _ (by repeat (first | assumption | exact Below.refl _ _ | refine belAlloc ?_ _ | refine belDrew ?_ | refine belSet ?_ _ _ (by simp) | refine belStep ?_ (by assumption))), c1 _ (by repeat (first | assumption | exact Below.refl _ _ | refine belAlloc ?_ _ | refine belDrew ?_ | refine belSet ?_ _ _ (by simp) | refine belStep ?_ (by assumption))), x0 _ (by repeat (first | assumption | exact Below.refl _ _ | refine belAlloc ?_ _ | refine belDrew ?_ | refine belSet ?_ _ _ (by simp) | refine belStep ?_ (by assumption)))⟩) (fun hHeld => ?_)
            clear hK K
            try simp only [Act.put, List.setIfInBounds_toArray, List.set_cons_zero, List.set_cons_succ]
            refine wpAnyH_ready (rs := [13]) (by kernel_rfl) (by simp) ?_
            refine AllReadyH.cons (o := ?o1_34) ?hi_34 (fun K hK => ?rest_34) AllReadyH.nil
            case hi_34 => ((simp only [List.getElem?_toArray, List.getElem?_cons_succ, List.getElem?_cons_zero]); rfl)
            go_simp
            refine hK.out _ _ (by first | exact ⟨c0 _ (by repeat (first | assumption | exact Below.refl _ _ | refine belAlloc ?_ _ | refine belDrew ?_ | refine belSet ?_ _ _ (by simp) | refine belStep ?_ (by assumption))), c1 _ (by repeat (first | assumption | exact Below.refl _ _ | refine belAlloc ?_ _ | refine belDrew ?_ | refine belSet ?_ _ _ (by simp) | refine belStep ?_ (by assumption))), x0 _ (by repeat (first | assumption | exact Below.refl _ _ | refine belAlloc ?_ _ | refine belDrew ?_ | refine belSet ?_ _ _ (by simp) | refine belStep ?_ (by assumption)))⟩) (fun hHeld => ?_)
            clear hK K
            try simp only [Act.put, List.setIfInBounds_toArray, List.set_cons_zero, List.set_cons_succ]
            refine wpAnyH_done (by kernel_rfl) ?_ _
            rotate_left 1
            go_simp
            refine hK.out _ _ (by first | exact ⟨c0 _ (by repeat (first | assumption | exact Below.refl _ _ | refine belAlloc ?_ _ | refine belDrew ?_ | refine belSet ?_ _ _ (by simp) | refine belStep ?_ (by assumption))), c1 _ (by repeat (first | assumption | exact Below.refl _ _ | refine belAlloc ?_ _ | refine belDrew ?_ | refine belSet ?_ _ _ (by simp) | refine belStep ?_ (by assumption))), x0 _ (by repeat (first | assumption | exact Below.refl _ _ | refine belAlloc ?_ _ | refine belDrew ?_ | refine belSet ?_ _ _ (by simp) | refine belStep ?_ (by assumption)))⟩) (fun hHeld => ?_)
            clear hK K
            try simp only [Act.put, List.setIfInBounds_toArray, List.set_cons_zero, List.set_cons_succ]
            refine wpAnyH_ready (rs := [7]) (by kernel_rfl) (by simp) ?_
            refine AllReadyH.cons (o := ?o1_35) ?hi_35 (fun K hK => ?rest_35) AllReadyH.nil
            case hi_35 => ((simp only [List.getElem?_toArray, List.getElem?_cons_succ, List.getElem?_cons_zero]); rfl)
            go_simp
            (go_at_call 17; refine (D2.out _).mono ?_; rintro e w1 ⟨rfl, hb1⟩; have hcc := Below.cells hb1; have hff := Below.frozens hb1)
            try go_simp
            refine hK.out _ _ (by first | exact ⟨c0 _ (by repeat (first | assumption | exact Below.refl _ _ | refine belAlloc ?_ _ | refine belDrew ?_ | refine belSet ?_ _ _ (by simp) | refine belStep ?_ (by assumption))), c1 _ (by repeat (first | assumption | exact Below.refl _ _ | refine belAlloc ?_ _ | refine belDrew ?_ | refine belSet ?_ _ _ (by simp) | refine belStep ?_ (by assumption))), x0 _ (by repeat (first | assumption | exact Below.refl _ _ | refine belAlloc ?_ _ | refine belDrew ?_ | refine belSet ?_ _ _ (by simp) | refine belStep ?_ (by assumption)))⟩) (fun hHeld => ?_)
            clear hK K
            try simp only [Act.put, List.setIfInBounds_toArray, List.set_cons_zero, List.set_cons_succ]
            refine wpAnyH_take (i := 8) (oi := ?oi_36) (v := ?v_36) ?hi_36 (by kernel_rfl) ?hf_36 ?hr_36 ?hQ_36 (Or.inl ⟨?hw_36, ?hy_36⟩) (by assumption) ?rest_36
            case hi_36 => ((simp only [List.getElem?_toArray, List.getElem?_cons_succ, List.getElem?_cons_zero]); rfl)
            case hf_36 => kernel_rfl
            case hr_36 => kernel_rfl
            case hQ_36 => exact fun _ _ _ h => h
            case hw_36 => rfl
            case hy_36 => ((intro w hSw; (try dsimp only at hSw); go_simp); all_goals (with_reducible rfl))
            try simp only [Act.put, List.setIfInBounds_toArray, List.set_cons_zero, List.set_cons_succ]
            refine wpAnyH_take (i := 9) (oi := ?oi_37) (v := ?v_37) ?hi_37 (by kernel_rfl) ?hf_37 ?hr_37 ?hQ_37 (Or.inl ⟨?hw_37, ?hy_37⟩) (by assumption) ?rest_37
            case hi_37 => ((simp only [List.getElem?_toArray, List.getElem?_cons_succ, List.getElem?_cons_zero]); rfl)
            case hf_37 => kernel_rfl
            case hr_37 => kernel_rfl
            case hQ_37 => exact fun _ _ _ h => h
            case hw_37 => rfl
            case hy_37 => ((intro w hSw; (try dsimp only at hSw); go_simp); all_goals (with_reducible rfl))
            try simp only [Act.put, List.setIfInBounds_toArray, List.set_cons_zero, List.set_cons_succ]
            refine wpAnyH_take (i := 10) (oi := ?oi_38) (v := ?v_38) ?hi_38 (by kernel_rfl) ?hf_38 ?hr_38 ?hQ_38 (Or.inl ⟨?hw_38, ?hy_38⟩) (by assumption) ?rest_38
            case hi_38 => ((simp only [List.getElem?_toArray, List.getElem?_cons_succ, List.getElem?_cons_zero]); rfl)
            case hf_38 => kernel_rfl
            case hr_38 => kernel_rfl
            case hQ_38 => exact fun _ _ _ h => h
            case hw_38 => rfl
            case hy_38 => ((intro w hSw; (try dsimp only at hSw); go_simp); all_goals (with_reducible rfl))
            try simp only [Act.put, List.setIfInBounds_toArray, List.set_cons_zero, List.set_cons_succ]
            refine wpAnyH_ready (rs := [12]) (by kernel_rfl) (by simp) ?_
            refine AllReadyH.cons (o := ?o1_39) ?hi_39 (fun K hK => ?rest_39) AllReadyH.nil
            case hi_39 => ((simp only [List.getElem?_toArray, List.getElem?_cons_succ, List.getElem?_cons_zero]); rfl)
            go_simp
            refine hK.out _ _ (by first | exact ⟨c0 _ (by repeat (first | assumption | exact Below.refl _ _ | refine belAlloc ?_ _ | refine belDrew ?_ | refine belSet ?_ _ _ (by simp) | refine belStep ?_ (by assumption))), c1 _ (by repeat (first | assumption | exact Below.refl _ _ | refine belAlloc ?_ _ | refine belDrew ?_ | refine belSet ?_ _ _ (by simp) | refine belStep ?_ (by assumption))), x0 _ (by repeat (first | assumption | exact Below.refl _ _ | refine belAlloc ?_ _ | refine belDrew ?_ | refine belSet ?_ _ _ (by simp) | refine belStep ?_ (by assumption)))⟩) (fun hHeld => ?_)
            clear hK K
            try simp only [Act.put, List.setIfInBounds_toArray, List.set_cons_zero, List.set_cons_succ]
            refine wpAnyH_ready (rs := [13]) (by kernel_rfl) (by simp) ?_
            refine AllReadyH.cons (o := ?o1_40) ?hi_40 (fun K hK => ?rest_40) AllReadyH.nil
            case hi_40 => ((simp only [List.getElem?_toArray, List.getElem?_cons_succ, List.getElem?_cons_zero]); rfl)
            go_simp
            refine hK.out _ _ (by first | exact ⟨c0 _ (by repeat (first | assumption | exact Below.refl _ _ | refine belAlloc ?_ _ | refine belDrew ?_ | refine belSet ?_ _ _ (by simp) | refine belStep ?_ (by assumption))), c1 _ (by repeat (first | assumption | exact Below.refl _ _ | refine belAlloc ?_ _ | refine belDrew ?_ | refine belSet ?_ _ _ (by simp) | refine belStep ?_ (by assumption))), x0 _ (by repeat (first | assumption | exact Below.refl _ _ | refine belAlloc ?_ _ | refine belDrew ?_ | refine belSet ?_ _ _ (by simp) | refine belStep ?_ (by assumption)))⟩) (fun hHeld => ?_)
            clear hK K
            try simp only [Act.put, List.setIfInBounds_toArray, List.set_cons_zero, List.set_cons_succ]
            refine wpAnyH_done (by kernel_rfl) ?_ _
            clear D1 D2
            all_goals
              clear hcc hff
              first
              | (have hb3 : Below W2.heap.size W2 (w1.alloc (.cells #[.int .i64 s', .int .i64 t'] 23)) := belAlloc (belStep (belDrew hbel) hb1) _
                 have p0 : (w1.alloc (.cells #[.int .i64 s', .int .i64 t'] 23)).cell? ⟨w1.heap.size, 0, none⟩ = some (.int .i64 s') := by simp
                 have p1 : (w1.alloc (.cells #[.int .i64 s', .int .i64 t'] 23)).cell? ⟨w1.heap.size, 1, none⟩ = some (.int .i64 t') := by simp
                 clear hb1
                 generalize w1.alloc (.cells #[.int .i64 s', .int .i64 t'] 23) = W3 at *
                 generalize w1.heap.size = M3 at *)
              | (have hb4 : Blk w1 W2.heap.size [.int .i64 0, .int .i64 0] 23 := (hb1.block W2.heap.size (by simp)).trans (Blk.at rfl : Blk (W2.alloc (.cells [.int .i64 0, .int .i64 0].toArray 23)) W2.heap.size [.int .i64 0, .int .i64 0] 23)
                 have hb3 := belSet (belSet (belStep (belDrew (belAlloc hbel _)) hb1) ⟨W2.heap.size, 0, none⟩ (.int .i64 s') (by simp)) ⟨W2.heap.size, 1, none⟩ (.int .i64 t') (by simp)
                 have hb5 := ((hb4).set 0 (.int .i64 s')).set 1 (.int .i64 t')
                 have p0 := hb5.cell (j := 0) rfl
                 have p1 := hb5.cell (j := 1) rfl
                 clear hb4 hb5 hb1
                 generalize (w1.setCell ⟨W2.heap.size, 0, none⟩ (.int .i64 s')).setCell ⟨W2.heap.size, 1, none⟩ (.int .i64 t') = W3 at *
                 generalize W2.heap.size = M3 at p0 p1 ⊢)
              replace c0 := keepOnP c0 hb3
              replace c1 := keepOnP c1 hb3
              replace x0 := keepOnP x0 hb3
              replace hF := keepOnP hF hb3
              replace hG := keepOnP hG hb3
              replace hB := keepOnP hB hb3
              replace p0 := keep p0
              replace p1 := keep p1
              replace hw := belStep hw hb3
              clear hbel hb3
              have hbel : Below W3.heap.size W3 W3 := Below.refl _ _
              have hM3 : W1.heap.size + 1 < W3.heap.size := (hB _ hbel).lt
              rcases key with ⟨rfl, rfl, rfl⟩ | ⟨rfl, rfl, hs'⟩
              · rcases hs with rfl | rfl
                · go_wp2
                  go_roundw
                  case rel => exact ⟨k + 1, _, _, by omega, by push_cast; rfl, by omega, it', belSet (belSet hw _ _ (by simp)) _ _ (by simp), ((hG _ hbel).far (by simp) _).far (by simp) _, ((hB _ hbel).set 0 _).set 1 _⟩
                  case measure => simp [intOf] <;> omega
                · go_wp2
                  go_roundw
                  case rel => exact ⟨k + 1, _, _, by omega, by push_cast; rfl, by omega, it', belSet (belSet hw _ _ (by simp)) _ _ (by simp), ((hG _ hbel).far (by simp) _).far (by simp) _, ((hB _ hbel).set 0 _).set 1 _⟩
                  case measure => simp [intOf] <;> omega
              · rcases hs' with rfl | rfl
                · go_wp2
                  go_roundw
                  case rel => exact ⟨k + 1, _, _, by omega, by push_cast; rfl, by omega, it', belSet (belSet hw _ _ (by simp)) _ _ (by simp), ((hG _ hbel).far (by simp) _).far (by simp) _, ((hB _ hbel).set 0 _).set 1 _⟩
                  case measure => simp [intOf] <;> omega
                · go_wp2
                  go_roundw
                  case rel => exact ⟨k + 1, _, _, by omega, by push_cast; rfl, by omega, it', belSet (belSet hw _ _ (by simp)) _ _ (by simp), ((hG _ hbel).far (by simp) _).far (by simp) _, ((hB _ hbel).set 0 _).set 1 _⟩
                  case measure => simp [intOf] <;> omega
          · skip
            clear hcc hff
            first
            | (have hb3 : Below wr.heap.size wr (w1.alloc (.cells #[.int .i64 5, .int .i64 tries] 23)) := belAlloc (belStep (belDrew hbel) hb1) _
               have n0 : (w1.alloc (.cells #[.int .i64 5, .int .i64 tries] 23)).cell? ⟨w1.heap.size, 0, none⟩ = some (.int .i64 5) := by simp
               have n1 : (w1.alloc (.cells #[.int .i64 5, .int .i64 tries] 23)).cell? ⟨w1.heap.size, 1, none⟩ = some (.int .i64 tries) := by simp
               clear hb1
               generalize w1.alloc (.cells #[.int .i64 5, .int .i64 tries] 23) = W2 at *
               generalize w1.heap.size = M at *)
            | (have hb4 : Blk w1 wr.heap.size [.int .i64 0, .int .i64 0] 23 := (hb1.block wr.heap.size (by simp)).trans (Blk.at rfl : Blk (wr.alloc (.cells [.int .i64 0, .int .i64 0].toArray 23)) wr.heap.size [.int .i64 0, .int .i64 0] 23)
               have hb3 := belSet (belSet (belStep (belDrew (belAlloc hbel _)) hb1) ⟨wr.heap.size, 0, none⟩ (.int .i64 5) (by simp)) ⟨wr.heap.size, 1, none⟩ (.int .i64 tries) (by simp)
               have hb5 := ((hb4).set 0 (.int .i64 5)).set 1 (.int .i64 tries)
               have n0 := hb5.cell (j := 0) rfl
               have n1 := hb5.cell (j := 1) rfl
               clear hb4 hb5 hb1
               generalize (w1.setCell ⟨wr.heap.size, 0, none⟩ (.int .i64 5)).setCell ⟨wr.heap.size, 1, none⟩ (.int .i64 tries) = W2 at *
               generalize wr.heap.size = M at n0 n1 ⊢)
            replace g0 := keepOnP g0 hb3
            replace g1 := keepOnP g1 hb3
            replace c0 := keepOnP c0 hb3
            replace c1 := keepOnP c1 hb3
            replace x0 := keepOnP x0 hb3
            replace hF := keepOnP hF hb3
            replace hG := keepOnP hG hb3
            replace hB := keepOnP hB hb3
            replace n0 := keep n0
            replace n1 := keep n1
            replace hw := belStep hw hb3
            clear hbel hb3
            have hbel : Below W2.heap.size W2 W2 := Below.refl _ _
            go_upto_region 12 with fail
            refine wp_region_held_drew (S := fun w' => w'.cell? ⟨W1.heap.size + 1, 0, none⟩ = some (.int .i64 s) ∧ w'.cell? ⟨W1.heap.size + 1, 1, none⟩ = some (.int .i64 t) ∧ w'.cell? ⟨bb, off + k, none⟩ = some (.int .i64 x)) (by kernel_rfl) (by first | exact ⟨c0 _ (by repeat (first | assumption | exact Below.refl _ _ | refine belAlloc ?_ _ | refine belDrew ?_ | refine belSet ?_ _ _ (by simp) | refine belStep ?_ (by assumption))), c1 _ (by repeat (first | assumption | exact Below.refl _ _ | refine belAlloc ?_ _ | refine belDrew ?_ | refine belSet ?_ _ _ (by simp) | refine belStep ?_ (by assumption))), x0 _ (by repeat (first | assumption | exact Below.refl _ _ | refine belAlloc ?_ _ | refine belDrew ?_ | refine belSet ?_ _ _ (by simp) | refine belStep ?_ (by assumption)))⟩) (fun hHeld => ?_)
            refine wpAnyH_take (i := 0) (oi := ?oi_41) (v := ?v_41) ?hi_41 (by kernel_rfl) ?hf_41 ?hr_41 ?hQ_41 (Or.inl ⟨?hw_41, ?hy_41⟩) (by assumption) ?rest_41
            case hi_41 => ((simp only [List.getElem?_toArray, List.getElem?_cons_succ, List.getElem?_cons_zero]); rfl)
            case hf_41 => kernel_rfl
            case hr_41 => kernel_rfl
            case hQ_41 => exact fun _ _ _ h => h
            case hw_41 => rfl
            case hy_41 => ((intro w hSw; (try dsimp only at hSw); go_simp); all_goals (with_reducible rfl))
            try simp only [Act.put, List.setIfInBounds_toArray, List.set_cons_zero, List.set_cons_succ]
            refine wpAnyH_take (i := 1) (oi := ?oi_42) (v := ?v_42) ?hi_42 (by kernel_rfl) ?hf_42 ?hr_42 ?hQ_42 (Or.inl ⟨?hw_42, ?hy_42⟩) (by assumption) ?rest_42
            case hi_42 => ((simp only [List.getElem?_toArray, List.getElem?_cons_succ, List.getElem?_cons_zero]); rfl)
            case hf_42 => kernel_rfl
            case hr_42 => kernel_rfl
            case hQ_42 => exact fun _ _ _ h => h
            case hw_42 => rfl
            case hy_42 => ((intro w hSw; (try dsimp only at hSw); go_simp); all_goals (with_reducible rfl))
            try simp only [Act.put, List.setIfInBounds_toArray, List.set_cons_zero, List.set_cons_succ]
            refine wpAnyH_take (i := 2) (oi := ?oi_43) (v := ?v_43) ?hi_43 (by kernel_rfl) ?hf_43 ?hr_43 ?hQ_43 (Or.inl ⟨?hw_43, ?hy_43⟩) (by assumption) ?rest_43
            case hi_43 => ((simp only [List.getElem?_toArray, List.getElem?_cons_succ, List.getElem?_cons_zero]); rfl)
            case hf_43 => kernel_rfl
            case hr_43 => kernel_rfl
            case hQ_43 => exact fun _ _ _ h => h
            case hw_43 => rfl
            case hy_43 => ((intro w hSw; (try dsimp only at hSw); go_simp); all_goals (with_reducible rfl))
            try simp only [Act.put, List.setIfInBounds_toArray, List.set_cons_zero, List.set_cons_succ]
            refine wpAnyH_take (i := 3) (oi := ?oi_44) (v := ?v_44) ?hi_44 (by kernel_rfl) ?hf_44 ?hr_44 ?hQ_44 (Or.inl ⟨?hw_44, ?hy_44⟩) (by assumption) ?rest_44
            case hi_44 => ((simp only [List.getElem?_toArray, List.getElem?_cons_succ, List.getElem?_cons_zero]); rfl)
            case hf_44 => kernel_rfl
            case hr_44 => kernel_rfl
            case hQ_44 => exact fun _ _ _ h => h
            case hw_44 => rfl
            case hy_44 => ((intro w hSw; (try dsimp only at hSw); go_simp); all_goals (with_reducible rfl))
            try simp only [Act.put, List.setIfInBounds_toArray, List.set_cons_zero, List.set_cons_succ]
            refine wpAnyH_take (i := 4) (oi := ?oi_45) (v := ?v_45) ?hi_45 (by kernel_rfl) ?hf_45 ?hr_45 ?hQ_45 (Or.inl ⟨?hw_45, ?hy_45⟩) (by assumption) ?rest_45
            case hi_45 => ((simp only [List.getElem?_toArray, List.getElem?_cons_succ, List.getElem?_cons_zero]); rfl)
            case hf_45 => kernel_rfl
            case hr_45 => kernel_rfl
            case hQ_45 => exact fun _ _ _ h => h
            case hw_45 => rfl
            case hy_45 => ((intro w hSw; (try dsimp only at hSw); go_simp); all_goals (with_reducible rfl))
            try simp only [Act.put, List.setIfInBounds_toArray, List.set_cons_zero, List.set_cons_succ]
            refine wpAnyH_take (i := 5) (oi := ?oi_46) (v := ?v_46) ?hi_46 (by kernel_rfl) ?hf_46 ?hr_46 ?hQ_46 (Or.inl ⟨?hw_46, ?hy_46⟩) (by assumption) ?rest_46
            case hi_46 => ((simp only [List.getElem?_toArray, List.getElem?_cons_succ, List.getElem?_cons_zero]); rfl)
            case hf_46 => kernel_rfl
            case hr_46 => kernel_rfl
            case hQ_46 => exact fun _ _ _ h => h
            case hw_46 => rfl
            case hy_46 => ((intro w hSw; (try dsimp only at hSw); go_simp); all_goals (with_reducible rfl))
            try simp only [Act.put, List.setIfInBounds_toArray, List.set_cons_zero, List.set_cons_succ]
            refine wpAnyH_take (i := 6) (oi := ?oi_47) (v := ?v_47) ?hi_47 (by kernel_rfl) ?hf_47 ?hr_47 ?hQ_47 (Or.inl ⟨?hw_47, ?hy_47⟩) (by assumption) ?rest_47
            case hi_47 => ((simp only [List.getElem?_toArray, List.getElem?_cons_succ, List.getElem?_cons_zero]); rfl)
            case hf_47 => kernel_rfl
            case hr_47 => kernel_rfl
            case hQ_47 => exact fun _ _ _ h => h
            case hw_47 => rfl
            case hy_47 => ((intro w hSw; (try dsimp only at hSw); go_simp); all_goals (with_reducible rfl))
            try simp only [Act.put, List.setIfInBounds_toArray, List.set_cons_zero, List.set_cons_succ]
            refine wpAnyH_ready (rs := [7, 11]) (by kernel_rfl) (by simp) ?_
            refine AllReadyH.cons (o := ?o1_48) ?hi_48 (fun K hK => ?ra_48) (AllReadyH.cons (o := ?o2_48) ?hi2_48 (fun K hK => ?rb_48) AllReadyH.nil)
            case hi_48 => ((simp only [List.getElem?_toArray, List.getElem?_cons_succ, List.getElem?_cons_zero]); rfl)
            case hi2_48 => ((simp only [List.getElem?_toArray, List.getElem?_cons_succ, List.getElem?_cons_zero]); rfl)
            go_simp
            (go_at_call 17; refine (D2.out _).mono ?_; rintro e w1 ⟨rfl, hb1⟩; have hcc := Below.cells hb1; have hff := Below.frozens hb1)
            try go_simp
            refine hK.out _ _ (by first | exact ⟨c0 _ (by repeat (first | assumption | exact Below.refl _ _ | refine belAlloc ?_ _ | refine belDrew ?_ | refine belSet ?_ _ _ (by simp) | refine belStep ?_ (by assumption))), c1 _ (by repeat (first | assumption | exact Below.refl _ _ | refine belAlloc ?_ _ | refine belDrew ?_ | refine belSet ?_ _ _ (by simp) | refine belStep ?_ (by assumption))), x0 _ (by repeat (first | assumption | exact Below.refl _ _ | refine belAlloc ?_ _ | refine belDrew ?_ | refine belSet ?_ _ _ (by simp) | refine belStep ?_ (by assumption)))⟩) (fun hHeld => ?_)
            clear hK K
            try simp only [Act.put, List.setIfInBounds_toArray, List.set_cons_zero, List.set_cons_succ]
            refine wpAnyH_take (i := 8) (oi := ?oi_49) (v := ?v_49) ?hi_49 (by kernel_rfl) ?hf_49 ?hr_49 ?hQ_49 (Or.inl ⟨?hw_49, ?hy_49⟩) (by assumption) ?rest_49
            case hi_49 => ((simp only [List.getElem?_toArray, List.getElem?_cons_succ, List.getElem?_cons_zero]); rfl)
            case hf_49 => kernel_rfl
            case hr_49 => kernel_rfl
            case hQ_49 => exact fun _ _ _ h => h
            case hw_49 => rfl
            case hy_49 => ((intro w hSw; (try dsimp only at hSw); go_simp); all_goals (with_reducible rfl))
            try simp only [Act.put, List.setIfInBounds_toArray, List.set_cons_zero, List.set_cons_succ]
            refine wpAnyH_take (i := 9) (oi := ?oi_50) (v := ?v_50) ?hi_50 (by kernel_rfl) ?hf_50 ?hr_50 ?hQ_50 (Or.inl ⟨?hw_50, ?hy_50⟩) (by assumption) ?rest_50
            case hi_50 => ((simp only [List.getElem?_toArray, List.getElem?_cons_succ, List.getElem?_cons_zero]); rfl)
            case hf_50 => kernel_rfl
            case hr_50 => kernel_rfl
            case hQ_50 => exact fun _ _ _ h => h
            case hw_50 => rfl
            case hy_50 => ((intro w hSw; (try dsimp only at hSw); go_simp); all_goals (with_reducible rfl))
            try simp only [Act.put, List.setIfInBounds_toArray, List.set_cons_zero, List.set_cons_succ]
            refine wpAnyH_take (i := 10) (oi := ?oi_51) (v := ?v_51) ?hi_51 (by kernel_rfl) ?hf_51 ?hr_51 ?hQ_51 (Or.inl ⟨?hw_51, ?hy_51⟩) (by assumption) ?rest_51
            case hi_51 => ((simp only [List.getElem?_toArray, List.getElem?_cons_succ, List.getElem?_cons_zero]); rfl)
            case hf_51 => kernel_rfl
            case hr_51 => kernel_rfl
            case hQ_51 => exact fun _ _ _ h => h
            case hw_51 => rfl
            case hy_51 => ((intro w hSw; (try dsimp only at hSw); go_simp); all_goals (with_reducible rfl))
            try simp only [Act.put, List.setIfInBounds_toArray, List.set_cons_zero, List.set_cons_succ]
            refine wpAnyH_ready (rs := [11]) (by kernel_rfl) (by simp) ?_
            refine AllReadyH.cons (o := ?o1_52) ?hi_52 (fun K hK => ?rest_52) AllReadyH.nil
            case hi_52 => ((simp only [List.getElem?_toArray, List.getElem?_cons_succ, List.getElem?_cons_zero]); rfl)
            go_simp
            refine hK.out _ _ (by first | exact ⟨c0 _ (by repeat (first | assumption | exact Below.refl _ _ | refine belAlloc ?_ _ | refine belDrew ?_ | refine belSet ?_ _ _ (by simp) | refine belStep ?_ (by assumption))), c1 _ (by repeat (first | assumption | exact Below.refl _ _ | refine belAlloc ?_ _ | refine belDrew ?_ | refine belSet ?_ _ _ (by simp) | refine belStep ?_ (by assumption))), x0 _ (by repeat (first | assumption | exact Below.refl _ _ | refine belAlloc ?_ _ | refine belDrew ?_ | refine belSet ?_ _ _ (by simp) | refine belStep ?_ (by assumption)))⟩) (fun hHeld => ?_)
            clear hK K
            try simp only [Act.put, List.setIfInBounds_toArray, List.set_cons_zero, List.set_cons_succ]
            refine wpAnyH_ready (rs := [12]) (by kernel_rfl) (by simp) ?_
            refine AllReadyH.cons (o := ?o1_53) ?hi_53 (fun K hK => ?rest_53) AllReadyH.nil
            case hi_53 => ((simp only [List.getElem?_toArray, List.getElem?_cons_succ, List.getElem?_cons_zero]); rfl)
            go_simp
            refine hK.out _ _ (by first | exact ⟨c0 _ (by repeat (first | assumption | exact Below.refl _ _ | refine belAlloc ?_ _ | refine belDrew ?_ | refine belSet ?_ _ _ (by simp) | refine belStep ?_ (by assumption))), c1 _ (by repeat (first | assumption | exact Below.refl _ _ | refine belAlloc ?_ _ | refine belDrew ?_ | refine belSet ?_ _ _ (by simp) | refine belStep ?_ (by assumption))), x0 _ (by repeat (first | assumption | exact Below.refl _ _ | refine belAlloc ?_ _ | refine belDrew ?_ | refine belSet ?_ _ _ (by simp) | refine belStep ?_ (by assumption)))⟩) (fun hHeld => ?_)
            clear hK K
            try simp only [Act.put, List.setIfInBounds_toArray, List.set_cons_zero, List.set_cons_succ]
            refine wpAnyH_ready (rs := [13]) (by kernel_rfl) (by simp) ?_
            refine AllReadyH.cons (o := ?o1_54) ?hi_54 (fun K hK => ?rest_54) AllReadyH.nil
            case hi_54 => ((simp only [List.getElem?_toArray, List.getElem?_cons_succ, List.getElem?_cons_zero]); rfl)
            go_simp
            refine hK.out _ _ (by first | exact ⟨c0 _ (by repeat (first | assumption | exact Below.refl _ _ | refine belAlloc ?_ _ | refine belDrew ?_ | refine belSet ?_ _ _ (by simp) | refine belStep ?_ (by assumption))), c1 _ (by repeat (first | assumption | exact Below.refl _ _ | refine belAlloc ?_ _ | refine belDrew ?_ | refine belSet ?_ _ _ (by simp) | refine belStep ?_ (by assumption))), x0 _ (by repeat (first | assumption | exact Below.refl _ _ | refine belAlloc ?_ _ | refine belDrew ?_ | refine belSet ?_ _ _ (by simp) | refine belStep ?_ (by assumption)))⟩) (fun hHeld => ?_)
            clear hK K
            try simp only [Act.put, List.setIfInBounds_toArray, List.set_cons_zero, List.set_cons_succ]
            refine wpAnyH_done (by kernel_rfl) ?_ _
            rotate_left 1
            go_simp
            refine hK.out _ _ (by first | exact ⟨c0 _ (by repeat (first | assumption | exact Below.refl _ _ | refine belAlloc ?_ _ | refine belDrew ?_ | refine belSet ?_ _ _ (by simp) | refine belStep ?_ (by assumption))), c1 _ (by repeat (first | assumption | exact Below.refl _ _ | refine belAlloc ?_ _ | refine belDrew ?_ | refine belSet ?_ _ _ (by simp) | refine belStep ?_ (by assumption))), x0 _ (by repeat (first | assumption | exact Below.refl _ _ | refine belAlloc ?_ _ | refine belDrew ?_ | refine belSet ?_ _ _ (by simp) | refine belStep ?_ (by assumption)))⟩) (fun hHeld => ?_)
            clear hK K
            try simp only [Act.put, List.setIfInBounds_toArray, List.set_cons_zero, List.set_cons_succ]
            refine wpAnyH_ready (rs := [7]) (by kernel_rfl) (by simp) ?_
            refine AllReadyH.cons (o := ?o1_55) ?hi_55 (fun K hK => ?rest_55) AllReadyH.nil
            case hi_55 => ((simp only [List.getElem?_toArray, List.getElem?_cons_succ, List.getElem?_cons_zero]); rfl)
            go_simp
            (go_at_call 17; refine (D2.out _).mono ?_; rintro e w1 ⟨rfl, hb1⟩; have hcc := Below.cells hb1; have hff := Below.frozens hb1)
            try go_simp
            refine hK.out _ _ (by first | exact ⟨c0 _ (by repeat (first | assumption | exact Below.refl _ _ | refine belAlloc ?_ _ | refine belDrew ?_ | refine belSet ?_ _ _ (by simp) | refine belStep ?_ (by assumption))), c1 _ (by repeat (first | assumption | exact Below.refl _ _ | refine belAlloc ?_ _ | refine belDrew ?_ | refine belSet ?_ _ _ (by simp) | refine belStep ?_ (by assumption))), x0 _ (by repeat (first | assumption | exact Below.refl _ _ | refine belAlloc ?_ _ | refine belDrew ?_ | refine belSet ?_ _ _ (by simp) | refine belStep ?_ (by assumption)))⟩) (fun hHeld => ?_)
            clear hK K
            try simp only [Act.put, List.setIfInBounds_toArray, List.set_cons_zero, List.set_cons_succ]
            refine wpAnyH_take (i := 8) (oi := ?oi_56) (v := ?v_56) ?hi_56 (by kernel_rfl) ?hf_56 ?hr_56 ?hQ_56 (Or.inl ⟨?hw_56, ?hy_56⟩) (by assumption) ?rest_56
            case hi_56 => ((simp only [List.getElem?_toArray, List.getElem?_cons_succ, List.getElem?_cons_zero]); rfl)
            case hf_56 => kernel_rfl
            case hr_56 => kernel_rfl
            case hQ_56 => exact fun _ _ _ h => h
            case hw_56 => rfl
            case hy_56 => ((intro w hSw; (try dsimp only at hSw); go_simp); all_goals (with_reducible rfl))
            try simp only [Act.put, List.setIfInBounds_toArray, List.set_cons_zero, List.set_cons_succ]
            refine wpAnyH_take (i := 9) (oi := ?oi_57) (v := ?v_57) ?hi_57 (by kernel_rfl) ?hf_57 ?hr_57 ?hQ_57 (Or.inl ⟨?hw_57, ?hy_57⟩) (by assumption) ?rest_57
            case hi_57 => ((simp only [List.getElem?_toArray, List.getElem?_cons_succ, List.getElem?_cons_zero]); rfl)
            case hf_57 => kernel_rfl
            case hr_57 => kernel_rfl
            case hQ_57 => exact fun _ _ _ h => h
            case hw_57 => rfl
            case hy_57 => ((intro w hSw; (try dsimp only at hSw); go_simp); all_goals (with_reducible rfl))
            try simp only [Act.put, List.setIfInBounds_toArray, List.set_cons_zero, List.set_cons_succ]
            refine wpAnyH_take (i := 10) (oi := ?oi_58) (v := ?v_58) ?hi_58 (by kernel_rfl) ?hf_58 ?hr_58 ?hQ_58 (Or.inl ⟨?hw_58, ?hy_58⟩) (by assumption) ?rest_58
            case hi_58 => ((simp only [List.getElem?_toArray, List.getElem?_cons_succ, List.getElem?_cons_zero]); rfl)
            case hf_58 => kernel_rfl
            case hr_58 => kernel_rfl
            case hQ_58 => exact fun _ _ _ h => h
            case hw_58 => rfl
            case hy_58 => ((intro w hSw; (try dsimp only at hSw); go_simp); all_goals (with_reducible rfl))
            try simp only [Act.put, List.setIfInBounds_toArray, List.set_cons_zero, List.set_cons_succ]
            refine wpAnyH_ready (rs := [12]) (by kernel_rfl) (by simp) ?_
            refine AllReadyH.cons (o := ?o1_59) ?hi_59 (fun K hK => ?rest_59) AllReadyH.nil
            case hi_59 => ((simp only [List.getElem?_toArray, List.getElem?_cons_succ, List.getElem?_cons_zero]); rfl)
            go_simp
            refine hK.out _ _ (by first | exact ⟨c0 _ (by repeat (first | assumption | exact Below.refl _ _ | refine belAlloc ?_ _ | refine belDrew ?_ | refine belSet ?_ _ _ (by simp) | refine belStep ?_ (by assumption))), c1 _ (by repeat (first | assumption | exact Below.refl _ _ | refine belAlloc ?_ _ | refine belDrew ?_ | refine belSet ?_ _ _ (by simp) | refine belStep ?_ (by assumption))), x0 _ (by repeat (first | assumption | exact Below.refl _ _ | refine belAlloc ?_ _ | refine belDrew ?_ | refine belSet ?_ _ _ (by simp) | refine belStep ?_ (by assumption)))⟩) (fun hHeld => ?_)
            clear hK K
            try simp only [Act.put, List.setIfInBounds_toArray, List.set_cons_zero, List.set_cons_succ]
            refine wpAnyH_ready (rs := [13]) (by kernel_rfl) (by simp) ?_
            refine AllReadyH.cons (o := ?o1_60) ?hi_60 (fun K hK => ?rest_60) AllReadyH.nil
            case hi_60 => ((simp only [List.getElem?_toArray, List.getElem?_cons_succ, List.getElem?_cons_zero]); rfl)
            go_simp
            refine hK.out _ _ (by first | exact ⟨c0 _ (by repeat (first | assumption | exact Below.refl _ _ | refine belAlloc ?_ _ | refine belDrew ?_ | refine belSet ?_ _ _ (by simp) | refine belStep ?_ (by assumption))), c1 _ (by repeat (first | assumption | exact Below.refl _ _ | refine belAlloc ?_ _ | refine belDrew ?_ | refine belSet ?_ _ _ (by simp) | refine belStep ?_ (by assumption))), x0 _ (by repeat (first | assumption | exact Below.refl _ _ | refine belAlloc ?_ _ | refine belDrew ?_ | refine belSet ?_ _ _ (by simp) | refine belStep ?_ (by assumption)))⟩) (fun hHeld => ?_)
            clear hK K
            try simp only [Act.put, List.setIfInBounds_toArray, List.set_cons_zero, List.set_cons_succ]
            refine wpAnyH_done (by kernel_rfl) ?_ _
            clear D1 D2
            all_goals
              clear hcc hff
              first
              | (have hb3 : Below W2.heap.size W2 (w1.alloc (.cells #[.int .i64 s', .int .i64 t'] 23)) := belAlloc (belStep (belDrew hbel) hb1) _
                 have p0 : (w1.alloc (.cells #[.int .i64 s', .int .i64 t'] 23)).cell? ⟨w1.heap.size, 0, none⟩ = some (.int .i64 s') := by simp
                 have p1 : (w1.alloc (.cells #[.int .i64 s', .int .i64 t'] 23)).cell? ⟨w1.heap.size, 1, none⟩ = some (.int .i64 t') := by simp
                 clear hb1
                 generalize w1.alloc (.cells #[.int .i64 s', .int .i64 t'] 23) = W3 at *
                 generalize w1.heap.size = M3 at *)
              | (have hb4 : Blk w1 W2.heap.size [.int .i64 0, .int .i64 0] 23 := (hb1.block W2.heap.size (by simp)).trans (Blk.at rfl : Blk (W2.alloc (.cells [.int .i64 0, .int .i64 0].toArray 23)) W2.heap.size [.int .i64 0, .int .i64 0] 23)
                 have hb3 := belSet (belSet (belStep (belDrew (belAlloc hbel _)) hb1) ⟨W2.heap.size, 0, none⟩ (.int .i64 s') (by simp)) ⟨W2.heap.size, 1, none⟩ (.int .i64 t') (by simp)
                 have hb5 := ((hb4).set 0 (.int .i64 s')).set 1 (.int .i64 t')
                 have p0 := hb5.cell (j := 0) rfl
                 have p1 := hb5.cell (j := 1) rfl
                 clear hb4 hb5 hb1
                 generalize (w1.setCell ⟨W2.heap.size, 0, none⟩ (.int .i64 s')).setCell ⟨W2.heap.size, 1, none⟩ (.int .i64 t') = W3 at *
                 generalize W2.heap.size = M3 at p0 p1 ⊢)
              replace c0 := keepOnP c0 hb3
              replace c1 := keepOnP c1 hb3
              replace x0 := keepOnP x0 hb3
              replace hF := keepOnP hF hb3
              replace hG := keepOnP hG hb3
              replace hB := keepOnP hB hb3
              replace p0 := keep p0
              replace p1 := keep p1
              replace hw := belStep hw hb3
              clear hbel hb3
              have hbel : Below W3.heap.size W3 W3 := Below.refl _ _
              have hM3 : W1.heap.size + 1 < W3.heap.size := (hB _ hbel).lt
              rcases key with ⟨rfl, rfl, rfl⟩ | ⟨rfl, rfl, hs'⟩
              · rcases hs with rfl | rfl
                · go_wp2
                  go_roundw
                  case rel => exact ⟨k + 1, _, _, by omega, by push_cast; rfl, by omega, it', belSet (belSet hw _ _ (by simp)) _ _ (by simp), ((hG _ hbel).far (by simp) _).far (by simp) _, ((hB _ hbel).set 0 _).set 1 _⟩
                  case measure => simp [intOf] <;> omega
                · go_wp2
                  go_roundw
                  case rel => exact ⟨k + 1, _, _, by omega, by push_cast; rfl, by omega, it', belSet (belSet hw _ _ (by simp)) _ _ (by simp), ((hG _ hbel).far (by simp) _).far (by simp) _, ((hB _ hbel).set 0 _).set 1 _⟩
                  case measure => simp [intOf] <;> omega
              · rcases hs' with rfl | rfl
                · go_wp2
                  go_roundw
                  case rel => exact ⟨k + 1, _, _, by omega, by push_cast; rfl, by omega, it', belSet (belSet hw _ _ (by simp)) _ _ (by simp), ((hG _ hbel).far (by simp) _).far (by simp) _, ((hB _ hbel).set 0 _).set 1 _⟩
                  case measure => simp [intOf] <;> omega
                · go_wp2
                  go_roundw
                  case rel => exact ⟨k + 1, _, _, by omega, by push_cast; rfl, by omega, it', belSet (belSet hw _ _ (by simp)) _ _ (by simp), ((hG _ hbel).far (by simp) _).far (by simp) _, ((hB _ hbel).set 0 _).set 1 _⟩
                  case measure => simp [intOf] <;> omega
        · have hd : lenb ≤ k := by omega
          go_upto_region 9 with fail
          refine wp_region_held_drew (S := fun w' => w'.cell? ⟨W1.heap.size, 0, none⟩ = some (.int .i64 5) ∧ w'.cell? ⟨W1.heap.size, 1, none⟩ = some (.int .i64 tries) ∧ w'.cell? ⟨bb, off + k, none⟩ = some (.int .i64 x)) (by kernel_rfl) (by first | exact ⟨g0 _ (by repeat (first | assumption | exact Below.refl _ _ | refine belAlloc ?_ _ | refine belDrew ?_ | refine belSet ?_ _ _ (by simp) | refine belStep ?_ (by assumption))), g1 _ (by repeat (first | assumption | exact Below.refl _ _ | refine belAlloc ?_ _ | refine belDrew ?_ | refine belSet ?_ _ _ (by simp) | refine belStep ?_ (by assumption))), x0 _ (by repeat (first | assumption | exact Below.refl _ _ | refine belAlloc ?_ _ | refine belDrew ?_ | refine belSet ?_ _ _ (by simp) | refine belStep ?_ (by assumption)))⟩) (fun hHeld => ?_)
          refine wpAnyH_take (i := 0) (oi := ?oi_61) (v := ?v_61) ?hi_61 (by kernel_rfl) ?hf_61 ?hr_61 ?hQ_61 (Or.inl ⟨?hw_61, ?hy_61⟩) (by assumption) ?rest_61
          case hi_61 => ((simp only [List.getElem?_toArray, List.getElem?_cons_succ, List.getElem?_cons_zero]); rfl)
          case hf_61 => kernel_rfl
          case hr_61 => kernel_rfl
          case hQ_61 => exact fun _ _ _ h => h
          case hw_61 => rfl
          case hy_61 => ((intro w hSw; (try dsimp only at hSw); go_simp); all_goals (with_reducible rfl))
          try simp only [Act.put, List.setIfInBounds_toArray, List.set_cons_zero, List.set_cons_succ]
          refine wpAnyH_take (i := 1) (oi := ?oi_62) (v := ?v_62) ?hi_62 (by kernel_rfl) ?hf_62 ?hr_62 ?hQ_62 (Or.inl ⟨?hw_62, ?hy_62⟩) (by assumption) ?rest_62
          case hi_62 => ((simp only [List.getElem?_toArray, List.getElem?_cons_succ, List.getElem?_cons_zero]); rfl)
          case hf_62 => kernel_rfl
          case hr_62 => kernel_rfl
          case hQ_62 => exact fun _ _ _ h => h
          case hw_62 => rfl
          case hy_62 => ((intro w hSw; (try dsimp only at hSw); go_simp); all_goals (with_reducible rfl))
          try simp only [Act.put, List.setIfInBounds_toArray, List.set_cons_zero, List.set_cons_succ]
          refine wpAnyH_take (i := 2) (oi := ?oi_63) (v := ?v_63) ?hi_63 (by kernel_rfl) ?hf_63 ?hr_63 ?hQ_63 (Or.inl ⟨?hw_63, ?hy_63⟩) (by assumption) ?rest_63
          case hi_63 => ((simp only [List.getElem?_toArray, List.getElem?_cons_succ, List.getElem?_cons_zero]); rfl)
          case hf_63 => kernel_rfl
          case hr_63 => kernel_rfl
          case hQ_63 => exact fun _ _ _ h => h
          case hw_63 => rfl
          case hy_63 => ((intro w hSw; (try dsimp only at hSw); go_simp); all_goals (with_reducible rfl))
          try simp only [Act.put, List.setIfInBounds_toArray, List.set_cons_zero, List.set_cons_succ]
          refine wpAnyH_take (i := 3) (oi := ?oi_64) (v := ?v_64) ?hi_64 (by kernel_rfl) ?hf_64 ?hr_64 ?hQ_64 (Or.inl ⟨?hw_64, ?hy_64⟩) (by assumption) ?rest_64
          case hi_64 => ((simp only [List.getElem?_toArray, List.getElem?_cons_succ, List.getElem?_cons_zero]); rfl)
          case hf_64 => kernel_rfl
          case hr_64 => kernel_rfl
          case hQ_64 => exact fun _ _ _ h => h
          case hw_64 => rfl
          case hy_64 => ((intro w hSw; (try dsimp only at hSw); go_simp); all_goals (with_reducible rfl))
          try simp only [Act.put, List.setIfInBounds_toArray, List.set_cons_zero, List.set_cons_succ]
          refine wpAnyH_take (i := 4) (oi := ?oi_65) (v := ?v_65) ?hi_65 (by kernel_rfl) ?hf_65 ?hr_65 ?hQ_65 (Or.inl ⟨?hw_65, ?hy_65⟩) (by assumption) ?rest_65
          case hi_65 => ((simp only [List.getElem?_toArray, List.getElem?_cons_succ, List.getElem?_cons_zero]); rfl)
          case hf_65 => kernel_rfl
          case hr_65 => kernel_rfl
          case hQ_65 => exact fun _ _ _ h => h
          case hw_65 => rfl
          case hy_65 => ((intro w hSw; (try dsimp only at hSw); go_simp); all_goals (with_reducible rfl))
          try simp only [Act.put, List.setIfInBounds_toArray, List.set_cons_zero, List.set_cons_succ]
          refine wpAnyH_take (i := 5) (oi := ?oi_66) (v := ?v_66) ?hi_66 (by kernel_rfl) ?hf_66 ?hr_66 ?hQ_66 (Or.inl ⟨?hw_66, ?hy_66⟩) (by assumption) ?rest_66
          case hi_66 => ((simp only [List.getElem?_toArray, List.getElem?_cons_succ, List.getElem?_cons_zero]); rfl)
          case hf_66 => kernel_rfl
          case hr_66 => kernel_rfl
          case hQ_66 => exact fun _ _ _ h => h
          case hw_66 => rfl
          case hy_66 => ((intro w hSw; (try dsimp only at hSw); go_simp); all_goals (with_reducible rfl))
          try simp only [Act.put, List.setIfInBounds_toArray, List.set_cons_zero, List.set_cons_succ]
          refine wpAnyH_take (i := 6) (oi := ?oi_67) (v := ?v_67) ?hi_67 (by kernel_rfl) ?hf_67 ?hr_67 ?hQ_67 (Or.inl ⟨?hw_67, ?hy_67⟩) (by assumption) ?rest_67
          case hi_67 => ((simp only [List.getElem?_toArray, List.getElem?_cons_succ, List.getElem?_cons_zero]); rfl)
          case hf_67 => kernel_rfl
          case hr_67 => kernel_rfl
          case hQ_67 => exact fun _ _ _ h => h
          case hw_67 => rfl
          case hy_67 => ((intro w hSw; (try dsimp only at hSw); go_simp); all_goals (with_reducible rfl))
          try simp only [Act.put, List.setIfInBounds_toArray, List.set_cons_zero, List.set_cons_succ]
          refine wpAnyH_ready (rs := [7, 11]) (by kernel_rfl) (by simp) ?_
          refine AllReadyH.cons (o := ?o1_68) ?hi_68 (fun K hK => ?ra_68) (AllReadyH.cons (o := ?o2_68) ?hi2_68 (fun K hK => ?rb_68) AllReadyH.nil)
          case hi_68 => ((simp only [List.getElem?_toArray, List.getElem?_cons_succ, List.getElem?_cons_zero]); rfl)
          case hi2_68 => ((simp only [List.getElem?_toArray, List.getElem?_cons_succ, List.getElem?_cons_zero]); rfl)
          go_simp
          (go_at_call 17; refine (D1.out _).mono ?_; rintro e w1 ⟨rfl, hb1⟩; have hcc := Below.cells hb1; have hff := Below.frozens hb1)
          try go_simp
          refine hK.out _ _ (by first | exact ⟨g0 _ (by repeat (first | assumption | exact Below.refl _ _ | refine belAlloc ?_ _ | refine belDrew ?_ | refine belSet ?_ _ _ (by simp) | refine belStep ?_ (by assumption))), g1 _ (by repeat (first | assumption | exact Below.refl _ _ | refine belAlloc ?_ _ | refine belDrew ?_ | refine belSet ?_ _ _ (by simp) | refine belStep ?_ (by assumption))), x0 _ (by repeat (first | assumption | exact Below.refl _ _ | refine belAlloc ?_ _ | refine belDrew ?_ | refine belSet ?_ _ _ (by simp) | refine belStep ?_ (by assumption)))⟩) (fun hHeld => ?_)
          clear hK K
          try simp only [Act.put, List.setIfInBounds_toArray, List.set_cons_zero, List.set_cons_succ]
          refine wpAnyH_take (i := 8) (oi := ?oi_69) (v := ?v_69) ?hi_69 (by kernel_rfl) ?hf_69 ?hr_69 ?hQ_69 (Or.inl ⟨?hw_69, ?hy_69⟩) (by assumption) ?rest_69
          case hi_69 => ((simp only [List.getElem?_toArray, List.getElem?_cons_succ, List.getElem?_cons_zero]); rfl)
          case hf_69 => kernel_rfl
          case hr_69 => kernel_rfl
          case hQ_69 => exact fun _ _ _ h => h
          case hw_69 => rfl
          case hy_69 => ((intro w hSw; (try dsimp only at hSw); go_simp); all_goals (with_reducible rfl))
          try simp only [Act.put, List.setIfInBounds_toArray, List.set_cons_zero, List.set_cons_succ]
          refine wpAnyH_take (i := 9) (oi := ?oi_70) (v := ?v_70) ?hi_70 (by kernel_rfl) ?hf_70 ?hr_70 ?hQ_70 (Or.inl ⟨?hw_70, ?hy_70⟩) (by assumption) ?rest_70
          case hi_70 => ((simp only [List.getElem?_toArray, List.getElem?_cons_succ, List.getElem?_cons_zero]); rfl)
          case hf_70 => kernel_rfl
          case hr_70 => kernel_rfl
          case hQ_70 => exact fun _ _ _ h => h
          case hw_70 => rfl
          case hy_70 => ((intro w hSw; (try dsimp only at hSw); go_simp); all_goals (with_reducible rfl))
          try simp only [Act.put, List.setIfInBounds_toArray, List.set_cons_zero, List.set_cons_succ]
          refine wpAnyH_take (i := 10) (oi := ?oi_71) (v := ?v_71) ?hi_71 (by kernel_rfl) ?hf_71 ?hr_71 ?hQ_71 (Or.inl ⟨?hw_71, ?hy_71⟩) (by assumption) ?rest_71
          case hi_71 => ((simp only [List.getElem?_toArray, List.getElem?_cons_succ, List.getElem?_cons_zero]); rfl)
          case hf_71 => kernel_rfl
          case hr_71 => kernel_rfl
          case hQ_71 => exact fun _ _ _ h => h
          case hw_71 => rfl
          case hy_71 => ((intro w hSw; (try dsimp only at hSw); go_simp); all_goals (with_reducible rfl))
          try simp only [Act.put, List.setIfInBounds_toArray, List.set_cons_zero, List.set_cons_succ]
          refine wpAnyH_ready (rs := [11]) (by kernel_rfl) (by simp) ?_
          refine AllReadyH.cons (o := ?o1_72) ?hi_72 (fun K hK => ?rest_72) AllReadyH.nil
          case hi_72 => ((simp only [List.getElem?_toArray, List.getElem?_cons_succ, List.getElem?_cons_zero]); rfl)
          go_simp
          refine hK.out _ _ (by first | exact ⟨g0 _ (by repeat (first | assumption | exact Below.refl _ _ | refine belAlloc ?_ _ | refine belDrew ?_ | refine belSet ?_ _ _ (by simp) | refine belStep ?_ (by assumption))), g1 _ (by repeat (first | assumption | exact Below.refl _ _ | refine belAlloc ?_ _ | refine belDrew ?_ | refine belSet ?_ _ _ (by simp) | refine belStep ?_ (by assumption))), x0 _ (by repeat (first | assumption | exact Below.refl _ _ | refine belAlloc ?_ _ | refine belDrew ?_ | refine belSet ?_ _ _ (by simp) | refine belStep ?_ (by assumption)))⟩) (fun hHeld => ?_)
          clear hK K
          try simp only [Act.put, List.setIfInBounds_toArray, List.set_cons_zero, List.set_cons_succ]
          refine wpAnyH_ready (rs := [12]) (by kernel_rfl) (by simp) ?_
          refine AllReadyH.cons (o := ?o1_73) ?hi_73 (fun K hK => ?rest_73) AllReadyH.nil
          case hi_73 => ((simp only [List.getElem?_toArray, List.getElem?_cons_succ, List.getElem?_cons_zero]); rfl)
          go_simp
          refine hK.out _ _ (by first | exact ⟨g0 _ (by repeat (first | assumption | exact Below.refl _ _ | refine belAlloc ?_ _ | refine belDrew ?_ | refine belSet ?_ _ _ (by simp) | refine belStep ?_ (by assumption))), g1 _ (by repeat (first | assumption | exact Below.refl _ _ | refine belAlloc ?_ _ | refine belDrew ?_ | refine belSet ?_ _ _ (by simp) | refine belStep ?_ (by assumption))), x0 _ (by repeat (first | assumption | exact Below.refl _ _ | refine belAlloc ?_ _ | refine belDrew ?_ | refine belSet ?_ _ _ (by simp) | refine belStep ?_ (by assumption)))⟩) (fun hHeld => ?_)
          clear hK K
          try simp only [Act.put, List.setIfInBounds_toArray, List.set_cons_zero, List.set_cons_succ]
          refine wpAnyH_ready (rs := [13]) (by kernel_rfl) (by simp) ?_
          refine AllReadyH.cons (o := ?o1_74) ?hi_74 (fun K hK => ?rest_74) AllReadyH.nil
          case hi_74 => ((simp only [List.getElem?_toArray, List.getElem?_cons_succ, List.getElem?_cons_zero]); rfl)
          go_simp
          refine hK.out _ _ (by first | exact ⟨g0 _ (by repeat (first | assumption | exact Below.refl _ _ | refine belAlloc ?_ _ | refine belDrew ?_ | refine belSet ?_ _ _ (by simp) | refine belStep ?_ (by assumption))), g1 _ (by repeat (first | assumption | exact Below.refl _ _ | refine belAlloc ?_ _ | refine belDrew ?_ | refine belSet ?_ _ _ (by simp) | refine belStep ?_ (by assumption))), x0 _ (by repeat (first | assumption | exact Below.refl _ _ | refine belAlloc ?_ _ | refine belDrew ?_ | refine belSet ?_ _ _ (by simp) | refine belStep ?_ (by assumption)))⟩) (fun hHeld => ?_)
          clear hK K
          try simp only [Act.put, List.setIfInBounds_toArray, List.set_cons_zero, List.set_cons_succ]
          refine wpAnyH_done (by kernel_rfl) ?_ _
          rotate_left 1
          go_simp
          refine hK.out _ _ (by first | exact ⟨g0 _ (by repeat (first | assumption | exact Below.refl _ _ | refine belAlloc ?_ _ | refine belDrew ?_ | refine belSet ?_ _ _ (by simp) | refine belStep ?_ (by assumption))), g1 _ (by repeat (first | assumption | exact Below.refl _ _ | refine belAlloc ?_ _ | refine belDrew ?_ | refine belSet ?_ _ _ (by simp) | refine belStep ?_ (by assumption))), x0 _ (by repeat (first | assumption | exact Below.refl _ _ | refine belAlloc ?_ _ | refine belDrew ?_ | refine belSet ?_ _ _ (by simp) | refine belStep ?_ (by assumption)))⟩) (fun hHeld => ?_)
          clear hK K
          try simp only [Act.put, List.setIfInBounds_toArray, List.set_cons_zero, List.set_cons_succ]
          refine wpAnyH_ready (rs := [7]) (by kernel_rfl) (by simp) ?_
          refine AllReadyH.cons (o := ?o1_75) ?hi_75 (fun K hK => ?rest_75) AllReadyH.nil
          case hi_75 => ((simp only [List.getElem?_toArray, List.getElem?_cons_succ, List.getElem?_cons_zero]); rfl)
          go_simp
          (go_at_call 17; refine (D1.out _).mono ?_; rintro e w1 ⟨rfl, hb1⟩; have hcc := Below.cells hb1; have hff := Below.frozens hb1)
          try go_simp
          refine hK.out _ _ (by first | exact ⟨g0 _ (by repeat (first | assumption | exact Below.refl _ _ | refine belAlloc ?_ _ | refine belDrew ?_ | refine belSet ?_ _ _ (by simp) | refine belStep ?_ (by assumption))), g1 _ (by repeat (first | assumption | exact Below.refl _ _ | refine belAlloc ?_ _ | refine belDrew ?_ | refine belSet ?_ _ _ (by simp) | refine belStep ?_ (by assumption))), x0 _ (by repeat (first | assumption | exact Below.refl _ _ | refine belAlloc ?_ _ | refine belDrew ?_ | refine belSet ?_ _ _ (by simp) | refine belStep ?_ (by assumption)))⟩) (fun hHeld => ?_)
          clear hK K
          try simp only [Act.put, List.setIfInBounds_toArray, List.set_cons_zero, List.set_cons_succ]
          refine wpAnyH_take (i := 8) (oi := ?oi_76) (v := ?v_76) ?hi_76 (by kernel_rfl) ?hf_76 ?hr_76 ?hQ_76 (Or.inl ⟨?hw_76, ?hy_76⟩) (by assumption) ?rest_76
          case hi_76 => ((simp only [List.getElem?_toArray, List.getElem?_cons_succ, List.getElem?_cons_zero]); rfl)
          case hf_76 => kernel_rfl
          case hr_76 => kernel_rfl
          case hQ_76 => exact fun _ _ _ h => h
          case hw_76 => rfl
          case hy_76 => ((intro w hSw; (try dsimp only at hSw); go_simp); all_goals (with_reducible rfl))
          try simp only [Act.put, List.setIfInBounds_toArray, List.set_cons_zero, List.set_cons_succ]
          refine wpAnyH_take (i := 9) (oi := ?oi_77) (v := ?v_77) ?hi_77 (by kernel_rfl) ?hf_77 ?hr_77 ?hQ_77 (Or.inl ⟨?hw_77, ?hy_77⟩) (by assumption) ?rest_77
          case hi_77 => ((simp only [List.getElem?_toArray, List.getElem?_cons_succ, List.getElem?_cons_zero]); rfl)
          case hf_77 => kernel_rfl
          case hr_77 => kernel_rfl
          case hQ_77 => exact fun _ _ _ h => h
          case hw_77 => rfl
          case hy_77 => ((intro w hSw; (try dsimp only at hSw); go_simp); all_goals (with_reducible rfl))
          try simp only [Act.put, List.setIfInBounds_toArray, List.set_cons_zero, List.set_cons_succ]
          refine wpAnyH_take (i := 10) (oi := ?oi_78) (v := ?v_78) ?hi_78 (by kernel_rfl) ?hf_78 ?hr_78 ?hQ_78 (Or.inl ⟨?hw_78, ?hy_78⟩) (by assumption) ?rest_78
          case hi_78 => ((simp only [List.getElem?_toArray, List.getElem?_cons_succ, List.getElem?_cons_zero]); rfl)
          case hf_78 => kernel_rfl
          case hr_78 => kernel_rfl
          case hQ_78 => exact fun _ _ _ h => h
          case hw_78 => rfl
          case hy_78 => ((intro w hSw; (try dsimp only at hSw); go_simp); all_goals (with_reducible rfl))
          try simp only [Act.put, List.setIfInBounds_toArray, List.set_cons_zero, List.set_cons_succ]
          refine wpAnyH_ready (rs := [12]) (by kernel_rfl) (by simp) ?_
          refine AllReadyH.cons (o := ?o1_79) ?hi_79 (fun K hK => ?rest_79) AllReadyH.nil
          case hi_79 => ((simp only [List.getElem?_toArray, List.getElem?_cons_succ, List.getElem?_cons_zero]); rfl)
          go_simp
          refine hK.out _ _ (by first | exact ⟨g0 _ (by repeat (first | assumption | exact Below.refl _ _ | refine belAlloc ?_ _ | refine belDrew ?_ | refine belSet ?_ _ _ (by simp) | refine belStep ?_ (by assumption))), g1 _ (by repeat (first | assumption | exact Below.refl _ _ | refine belAlloc ?_ _ | refine belDrew ?_ | refine belSet ?_ _ _ (by simp) | refine belStep ?_ (by assumption))), x0 _ (by repeat (first | assumption | exact Below.refl _ _ | refine belAlloc ?_ _ | refine belDrew ?_ | refine belSet ?_ _ _ (by simp) | refine belStep ?_ (by assumption)))⟩) (fun hHeld => ?_)
          clear hK K
          try simp only [Act.put, List.setIfInBounds_toArray, List.set_cons_zero, List.set_cons_succ]
          refine wpAnyH_ready (rs := [13]) (by kernel_rfl) (by simp) ?_
          refine AllReadyH.cons (o := ?o1_80) ?hi_80 (fun K hK => ?rest_80) AllReadyH.nil
          case hi_80 => ((simp only [List.getElem?_toArray, List.getElem?_cons_succ, List.getElem?_cons_zero]); rfl)
          go_simp
          refine hK.out _ _ (by first | exact ⟨g0 _ (by repeat (first | assumption | exact Below.refl _ _ | refine belAlloc ?_ _ | refine belDrew ?_ | refine belSet ?_ _ _ (by simp) | refine belStep ?_ (by assumption))), g1 _ (by repeat (first | assumption | exact Below.refl _ _ | refine belAlloc ?_ _ | refine belDrew ?_ | refine belSet ?_ _ _ (by simp) | refine belStep ?_ (by assumption))), x0 _ (by repeat (first | assumption | exact Below.refl _ _ | refine belAlloc ?_ _ | refine belDrew ?_ | refine belSet ?_ _ _ (by simp) | refine belStep ?_ (by assumption)))⟩) (fun hHeld => ?_)
          clear hK K
          try simp only [Act.put, List.setIfInBounds_toArray, List.set_cons_zero, List.set_cons_succ]
          refine wpAnyH_done (by kernel_rfl) ?_ _
          · skip
            clear hcc hff
            first
            | (have hb3 : Below wr.heap.size wr (w1.alloc (.cells #[.int .i64 5, .int .i64 tries] 23)) := belAlloc (belStep (belDrew hbel) hb1) _
               have n0 : (w1.alloc (.cells #[.int .i64 5, .int .i64 tries] 23)).cell? ⟨w1.heap.size, 0, none⟩ = some (.int .i64 5) := by simp
               have n1 : (w1.alloc (.cells #[.int .i64 5, .int .i64 tries] 23)).cell? ⟨w1.heap.size, 1, none⟩ = some (.int .i64 tries) := by simp
               clear hb1
               generalize w1.alloc (.cells #[.int .i64 5, .int .i64 tries] 23) = W2 at *
               generalize w1.heap.size = M at *)
            | (have hb4 : Blk w1 wr.heap.size [.int .i64 0, .int .i64 0] 23 := (hb1.block wr.heap.size (by simp)).trans (Blk.at rfl : Blk (wr.alloc (.cells [.int .i64 0, .int .i64 0].toArray 23)) wr.heap.size [.int .i64 0, .int .i64 0] 23)
               have hb3 := belSet (belSet (belStep (belDrew (belAlloc hbel _)) hb1) ⟨wr.heap.size, 0, none⟩ (.int .i64 5) (by simp)) ⟨wr.heap.size, 1, none⟩ (.int .i64 tries) (by simp)
               have hb5 := ((hb4).set 0 (.int .i64 5)).set 1 (.int .i64 tries)
               have n0 := hb5.cell (j := 0) rfl
               have n1 := hb5.cell (j := 1) rfl
               clear hb4 hb5 hb1
               generalize (w1.setCell ⟨wr.heap.size, 0, none⟩ (.int .i64 5)).setCell ⟨wr.heap.size, 1, none⟩ (.int .i64 tries) = W2 at *
               generalize wr.heap.size = M at n0 n1 ⊢)
            replace g0 := keepOnP g0 hb3
            replace g1 := keepOnP g1 hb3
            replace c0 := keepOnP c0 hb3
            replace c1 := keepOnP c1 hb3
            replace x0 := keepOnP x0 hb3
            replace hF := keepOnP hF hb3
            replace hG := keepOnP hG hb3
            replace hB := keepOnP hB hb3
            replace n0 := keep n0
            replace n1 := keep n1
            replace hw := belStep hw hb3
            clear hbel hb3
            have hbel : Below W2.heap.size W2 W2 := Below.refl _ _
            go_upto_region 12 with fail
            refine wp_region_held_drew (S := fun w' => w'.cell? ⟨W1.heap.size + 1, 0, none⟩ = some (.int .i64 s) ∧ w'.cell? ⟨W1.heap.size + 1, 1, none⟩ = some (.int .i64 t) ∧ w'.cell? ⟨bb, off + k, none⟩ = some (.int .i64 x)) (by kernel_rfl) (by first | exact ⟨c0 _ (by repeat (first | assumption | exact Below.refl _ _ | refine belAlloc ?_ _ | refine belDrew ?_ | refine belSet ?_ _ _ (by simp) | refine belStep ?_ (by assumption))), c1 _ (by repeat (first | assumption | exact Below.refl _ _ | refine belAlloc ?_ _ | refine belDrew ?_ | refine belSet ?_ _ _ (by simp) | refine belStep ?_ (by assumption))), x0 _ (by repeat (first | assumption | exact Below.refl _ _ | refine belAlloc ?_ _ | refine belDrew ?_ | refine belSet ?_ _ _ (by simp) | refine belStep ?_ (by assumption)))⟩) (fun hHeld => ?_)
            refine wpAnyH_take (i := 0) (oi := ?oi_81) (v := ?v_81) ?hi_81 (by kernel_rfl) ?hf_81 ?hr_81 ?hQ_81 (Or.inl ⟨?hw_81, ?hy_81⟩) (by assumption) ?rest_81
            case hi_81 => ((simp only [List.getElem?_toArray, List.getElem?_cons_succ, List.getElem?_cons_zero]); rfl)
            case hf_81 => kernel_rfl
            case hr_81 => kernel_rfl
            case hQ_81 => exact fun _ _ _ h => h
            case hw_81 => rfl
            case hy_81 => ((intro w hSw; (try dsimp only at hSw); go_simp); all_goals (with_reducible rfl))
            try simp only [Act.put, List.setIfInBounds_toArray, List.set_cons_zero, List.set_cons_succ]
            refine wpAnyH_take (i := 1) (oi := ?oi_82) (v := ?v_82) ?hi_82 (by kernel_rfl) ?hf_82 ?hr_82 ?hQ_82 (Or.inl ⟨?hw_82, ?hy_82⟩) (by assumption) ?rest_82
            case hi_82 => ((simp only [List.getElem?_toArray, List.getElem?_cons_succ, List.getElem?_cons_zero]); rfl)
            case hf_82 => kernel_rfl
            case hr_82 => kernel_rfl
            case hQ_82 => exact fun _ _ _ h => h
            case hw_82 => rfl
            case hy_82 => ((intro w hSw; (try dsimp only at hSw); go_simp); all_goals (with_reducible rfl))
            try simp only [Act.put, List.setIfInBounds_toArray, List.set_cons_zero, List.set_cons_succ]
            refine wpAnyH_take (i := 2) (oi := ?oi_83) (v := ?v_83) ?hi_83 (by kernel_rfl) ?hf_83 ?hr_83 ?hQ_83 (Or.inl ⟨?hw_83, ?hy_83⟩) (by assumption) ?rest_83
            case hi_83 => ((simp only [List.getElem?_toArray, List.getElem?_cons_succ, List.getElem?_cons_zero]); rfl)
            case hf_83 => kernel_rfl
            case hr_83 => kernel_rfl
            case hQ_83 => exact fun _ _ _ h => h
            case hw_83 => rfl
            case hy_83 => ((intro w hSw; (try dsimp only at hSw); go_simp); all_goals (with_reducible rfl))
            try simp only [Act.put, List.setIfInBounds_toArray, List.set_cons_zero, List.set_cons_succ]
            refine wpAnyH_take (i := 3) (oi := ?oi_84) (v := ?v_84) ?hi_84 (by kernel_rfl) ?hf_84 ?hr_84 ?hQ_84 (Or.inl ⟨?hw_84, ?hy_84⟩) (by assumption) ?rest_84
            case hi_84 => ((simp only [List.getElem?_toArray, List.getElem?_cons_succ, List.getElem?_cons_zero]); rfl)
            case hf_84 => kernel_rfl
            case hr_84 => kernel_rfl
            case hQ_84 => exact fun _ _ _ h => h
            case hw_84 => rfl
            case hy_84 => ((intro w hSw; (try dsimp only at hSw); go_simp); all_goals (with_reducible rfl))
            try simp only [Act.put, List.setIfInBounds_toArray, List.set_cons_zero, List.set_cons_succ]
            refine wpAnyH_take (i := 4) (oi := ?oi_85) (v := ?v_85) ?hi_85 (by kernel_rfl) ?hf_85 ?hr_85 ?hQ_85 (Or.inl ⟨?hw_85, ?hy_85⟩) (by assumption) ?rest_85
            case hi_85 => ((simp only [List.getElem?_toArray, List.getElem?_cons_succ, List.getElem?_cons_zero]); rfl)
            case hf_85 => kernel_rfl
            case hr_85 => kernel_rfl
            case hQ_85 => exact fun _ _ _ h => h
            case hw_85 => rfl
            case hy_85 => ((intro w hSw; (try dsimp only at hSw); go_simp); all_goals (with_reducible rfl))
            try simp only [Act.put, List.setIfInBounds_toArray, List.set_cons_zero, List.set_cons_succ]
            refine wpAnyH_take (i := 5) (oi := ?oi_86) (v := ?v_86) ?hi_86 (by kernel_rfl) ?hf_86 ?hr_86 ?hQ_86 (Or.inl ⟨?hw_86, ?hy_86⟩) (by assumption) ?rest_86
            case hi_86 => ((simp only [List.getElem?_toArray, List.getElem?_cons_succ, List.getElem?_cons_zero]); rfl)
            case hf_86 => kernel_rfl
            case hr_86 => kernel_rfl
            case hQ_86 => exact fun _ _ _ h => h
            case hw_86 => rfl
            case hy_86 => ((intro w hSw; (try dsimp only at hSw); go_simp); all_goals (with_reducible rfl))
            try simp only [Act.put, List.setIfInBounds_toArray, List.set_cons_zero, List.set_cons_succ]
            refine wpAnyH_take (i := 6) (oi := ?oi_87) (v := ?v_87) ?hi_87 (by kernel_rfl) ?hf_87 ?hr_87 ?hQ_87 (Or.inl ⟨?hw_87, ?hy_87⟩) (by assumption) ?rest_87
            case hi_87 => ((simp only [List.getElem?_toArray, List.getElem?_cons_succ, List.getElem?_cons_zero]); rfl)
            case hf_87 => kernel_rfl
            case hr_87 => kernel_rfl
            case hQ_87 => exact fun _ _ _ h => h
            case hw_87 => rfl
            case hy_87 => ((intro w hSw; (try dsimp only at hSw); go_simp); all_goals (with_reducible rfl))
            try simp only [Act.put, List.setIfInBounds_toArray, List.set_cons_zero, List.set_cons_succ]
            refine wpAnyH_ready (rs := [7, 11]) (by kernel_rfl) (by simp) ?_
            refine AllReadyH.cons (o := ?o1_88) ?hi_88 (fun K hK => ?ra_88) (AllReadyH.cons (o := ?o2_88) ?hi2_88 (fun K hK => ?rb_88) AllReadyH.nil)
            case hi_88 => ((simp only [List.getElem?_toArray, List.getElem?_cons_succ, List.getElem?_cons_zero]); rfl)
            case hi2_88 => ((simp only [List.getElem?_toArray, List.getElem?_cons_succ, List.getElem?_cons_zero]); rfl)
            go_simp
            (go_at_call 17; refine (D2.out _).mono ?_; rintro e w1 ⟨rfl, hb1⟩; have hcc := Below.cells hb1; have hff := Below.frozens hb1)
            try go_simp
            refine hK.out _ _ (by first | exact ⟨c0 _ (by repeat (first | assumption | exact Below.refl _ _ | refine belAlloc ?_ _ | refine belDrew ?_ | refine belSet ?_ _ _ (by simp) | refine belStep ?_ (by assumption))), c1 _ (by repeat (first | assumption | exact Below.refl _ _ | refine belAlloc ?_ _ | refine belDrew ?_ | refine belSet ?_ _ _ (by simp) | refine belStep ?_ (by assumption))), x0 _ (by repeat (first | assumption | exact Below.refl _ _ | refine belAlloc ?_ _ | refine belDrew ?_ | refine belSet ?_ _ _ (by simp) | refine belStep ?_ (by assumption)))⟩) (fun hHeld => ?_)
            clear hK K
            try simp only [Act.put, List.setIfInBounds_toArray, List.set_cons_zero, List.set_cons_succ]
            refine wpAnyH_take (i := 8) (oi := ?oi_89) (v := ?v_89) ?hi_89 (by kernel_rfl) ?hf_89 ?hr_89 ?hQ_89 (Or.inl ⟨?hw_89, ?hy_89⟩) (by assumption) ?rest_89
            case hi_89 => ((simp only [List.getElem?_toArray, List.getElem?_cons_succ, List.getElem?_cons_zero]); rfl)
            case hf_89 => kernel_rfl
            case hr_89 => kernel_rfl
            case hQ_89 => exact fun _ _ _ h => h
            case hw_89 => rfl
            case hy_89 => ((intro w hSw; (try dsimp only at hSw); go_simp); all_goals (with_reducible rfl))
            try simp only [Act.put, List.setIfInBounds_toArray, List.set_cons_zero, List.set_cons_succ]
            refine wpAnyH_take (i := 9) (oi := ?oi_90) (v := ?v_90) ?hi_90 (by kernel_rfl) ?hf_90 ?hr_90 ?hQ_90 (Or.inl ⟨?hw_90, ?hy_90⟩) (by assumption) ?rest_90
            case hi_90 => ((simp only [List.getElem?_toArray, List.getElem?_cons_succ, List.getElem?_cons_zero]); rfl)
            case hf_90 => kernel_rfl
            case hr_90 => kernel_rfl
            case hQ_90 => exact fun _ _ _ h => h
            case hw_90 => rfl
            case hy_90 => ((intro w hSw; (try dsimp only at hSw); go_simp); all_goals (with_reducible rfl))
            try simp only [Act.put, List.setIfInBounds_toArray, List.set_cons_zero, List.set_cons_succ]
            refine wpAnyH_take (i := 10) (oi := ?oi_91) (v := ?v_91) ?hi_91 (by kernel_rfl) ?hf_91 ?hr_91 ?hQ_91 (Or.inl ⟨?hw_91, ?hy_91⟩) (by assumption) ?rest_91
            case hi_91 => ((simp only [List.getElem?_toArray, List.getElem?_cons_succ, List.getElem?_cons_zero]); rfl)
            case hf_91 => kernel_rfl
            case hr_91 => kernel_rfl
            case hQ_91 => exact fun _ _ _ h => h
            case hw_91 => rfl
            case hy_91 => ((intro w hSw; (try dsimp only at hSw); go_simp); all_goals (with_reducible rfl))
            try simp only [Act.put, List.setIfInBounds_toArray, List.set_cons_zero, List.set_cons_succ]
            refine wpAnyH_ready (rs := [11]) (by kernel_rfl) (by simp) ?_
            refine AllReadyH.cons (o := ?o1_92) ?hi_92 (fun K hK => ?rest_92) AllReadyH.nil
            case hi_92 => ((simp only [List.getElem?_toArray, List.getElem?_cons_succ, List.getElem?_cons_zero]); rfl)
            go_simp
            refine hK.out _ _ (by first | exact ⟨c0 _ (by repeat (first | assumption | exact Below.refl _ _ | refine belAlloc ?_ _ | refine belDrew ?_ | refine belSet ?_ _ _ (by simp) | refine belStep ?_ (by assumption))), c1 _ (by repeat (first | assumption | exact Below.refl _ _ | refine belAlloc ?_ _ | refine belDrew ?_ | refine belSet ?_ _ _ (by simp) | refine belStep ?_ (by assumption))), x0 _ (by repeat (first | assumption | exact Below.refl _ _ | refine belAlloc ?_ _ | refine belDrew ?_ | refine belSet ?_ _ _ (by simp) | refine belStep ?_ (by assumption)))⟩) (fun hHeld => ?_)
            clear hK K
            try simp only [Act.put, List.setIfInBounds_toArray, List.set_cons_zero, List.set_cons_succ]
            refine wpAnyH_ready (rs := [12]) (by kernel_rfl) (by simp) ?_
            refine AllReadyH.cons (o := ?o1_93) ?hi_93 (fun K hK => ?rest_93) AllReadyH.nil
            case hi_93 => ((simp only [List.getElem?_toArray, List.getElem?_cons_succ, List.getElem?_cons_zero]); rfl)
            go_simp
            refine hK.out _ _ (by first | exact ⟨c0 _ (by repeat (first | assumption | exact Below.refl _ _ | refine belAlloc ?_ _ | refine belDrew ?_ | refine belSet ?_ _ _ (by simp) | refine belStep ?_ (by assumption))), c1 _ (by repeat (first | assumption | exact Below.refl _ _ | refine belAlloc ?_ _ | refine belDrew ?_ | refine belSet ?_ _ _ (by simp) | refine belStep ?_ (by assumption))), x0 _ (by repeat (first | assumption | exact Below.refl _ _ | refine belAlloc ?_ _ | refine belDrew ?_ | refine belSet ?_ _ _ (by simp) | refine belStep ?_ (by assumption)))⟩) (fun hHeld => ?_)
            clear hK K
            try simp only [Act.put, List.setIfInBounds_toArray, List.set_cons_zero, List.set_cons_succ]
            refine wpAnyH_ready (rs := [13]) (by kernel_rfl) (by simp) ?_
            refine AllReadyH.cons (o := ?o1_94) ?hi_94 (fun K hK => ?rest_94) AllReadyH.nil
            case hi_94 => ((simp only [List.getElem?_toArray, List.getElem?_cons_succ, List.getElem?_cons_zero]); rfl)
            go_simp
            refine hK.out _ _ (by first | exact ⟨c0 _ (by repeat (first | assumption | exact Below.refl _ _ | refine belAlloc ?_ _ | refine belDrew ?_ | refine belSet ?_ _ _ (by simp) | refine belStep ?_ (by assumption))), c1 _ (by repeat (first | assumption | exact Below.refl _ _ | refine belAlloc ?_ _ | refine belDrew ?_ | refine belSet ?_ _ _ (by simp) | refine belStep ?_ (by assumption))), x0 _ (by repeat (first | assumption | exact Below.refl _ _ | refine belAlloc ?_ _ | refine belDrew ?_ | refine belSet ?_ _ _ (by simp) | refine belStep ?_ (by assumption)))⟩) (fun hHeld => ?_)
            clear hK K
            try simp only [Act.put, List.setIfInBounds_toArray, List.set_cons_zero, List.set_cons_succ]
            refine wpAnyH_done (by kernel_rfl) ?_ _
            rotate_left 1
            go_simp
            refine hK.out _ _ (by first | exact ⟨c0 _ (by repeat (first | assumption | exact Below.refl _ _ | refine belAlloc ?_ _ | refine belDrew ?_ | refine belSet ?_ _ _ (by simp) | refine belStep ?_ (by assumption))), c1 _ (by repeat (first | assumption | exact Below.refl _ _ | refine belAlloc ?_ _ | refine belDrew ?_ | refine belSet ?_ _ _ (by simp) | refine belStep ?_ (by assumption))), x0 _ (by repeat (first | assumption | exact Below.refl _ _ | refine belAlloc ?_ _ | refine belDrew ?_ | refine belSet ?_ _ _ (by simp) | refine belStep ?_ (by assumption)))⟩) (fun hHeld => ?_)
            clear hK K
            try simp only [Act.put, List.setIfInBounds_toArray, List.set_cons_zero, List.set_cons_succ]
            refine wpAnyH_ready (rs := [7]) (by kernel_rfl) (by simp) ?_
            refine AllReadyH.cons (o := ?o1_95) ?hi_95 (fun K hK => ?rest_95) AllReadyH.nil
            case hi_95 => ((simp only [List.getElem?_toArray, List.getElem?_cons_succ, List.getElem?_cons_zero]); rfl)
            go_simp
            (go_at_call 17; refine (D2.out _).mono ?_; rintro e w1 ⟨rfl, hb1⟩; have hcc := Below.cells hb1; have hff := Below.frozens hb1)
            try go_simp
            refine hK.out _ _ (by first | exact ⟨c0 _ (by repeat (first | assumption | exact Below.refl _ _ | refine belAlloc ?_ _ | refine belDrew ?_ | refine belSet ?_ _ _ (by simp) | refine belStep ?_ (by assumption))), c1 _ (by repeat (first | assumption | exact Below.refl _ _ | refine belAlloc ?_ _ | refine belDrew ?_ | refine belSet ?_ _ _ (by simp) | refine belStep ?_ (by assumption))), x0 _ (by repeat (first | assumption | exact Below.refl _ _ | refine belAlloc ?_ _ | refine belDrew ?_ | refine belSet ?_ _ _ (by simp) | refine belStep ?_ (by assumption)))⟩) (fun hHeld => ?_)
            clear hK K
            try simp only [Act.put, List.setIfInBounds_toArray, List.set_cons_zero, List.set_cons_succ]
            refine wpAnyH_take (i := 8) (oi := ?oi_96) (v := ?v_96) ?hi_96 (by kernel_rfl) ?hf_96 ?hr_96 ?hQ_96 (Or.inl ⟨?hw_96, ?hy_96⟩) (by assumption) ?rest_96
            case hi_96 => ((simp only [List.getElem?_toArray, List.getElem?_cons_succ, List.getElem?_cons_zero]); rfl)
            case hf_96 => kernel_rfl
            case hr_96 => kernel_rfl
            case hQ_96 => exact fun _ _ _ h => h
            case hw_96 => rfl
            case hy_96 => ((intro w hSw; (try dsimp only at hSw); go_simp); all_goals (with_reducible rfl))
            try simp only [Act.put, List.setIfInBounds_toArray, List.set_cons_zero, List.set_cons_succ]
            refine wpAnyH_take (i := 9) (oi := ?oi_97) (v := ?v_97) ?hi_97 (by kernel_rfl) ?hf_97 ?hr_97 ?hQ_97 (Or.inl ⟨?hw_97, ?hy_97⟩) (by assumption) ?rest_97
            case hi_97 => ((simp only [List.getElem?_toArray, List.getElem?_cons_succ, List.getElem?_cons_zero]); rfl)
            case hf_97 => kernel_rfl
            case hr_97 => kernel_rfl
            case hQ_97 => exact fun _ _ _ h => h
            case hw_97 => rfl
            case hy_97 => ((intro w hSw; (try dsimp only at hSw); go_simp); all_goals (with_reducible rfl))
            try simp only [Act.put, List.setIfInBounds_toArray, List.set_cons_zero, List.set_cons_succ]
            refine wpAnyH_take (i := 10) (oi := ?oi_98) (v := ?v_98) ?hi_98 (by kernel_rfl) ?hf_98 ?hr_98 ?hQ_98 (Or.inl ⟨?hw_98, ?hy_98⟩) (by assumption) ?rest_98
            case hi_98 => ((simp only [List.getElem?_toArray, List.getElem?_cons_succ, List.getElem?_cons_zero]); rfl)
            case hf_98 => kernel_rfl
            case hr_98 => kernel_rfl
            case hQ_98 => exact fun _ _ _ h => h
            case hw_98 => rfl
            case hy_98 => ((intro w hSw; (try dsimp only at hSw); go_simp); all_goals (with_reducible rfl))
            try simp only [Act.put, List.setIfInBounds_toArray, List.set_cons_zero, List.set_cons_succ]
            refine wpAnyH_ready (rs := [12]) (by kernel_rfl) (by simp) ?_
            refine AllReadyH.cons (o := ?o1_99) ?hi_99 (fun K hK => ?rest_99) AllReadyH.nil
            case hi_99 => ((simp only [List.getElem?_toArray, List.getElem?_cons_succ, List.getElem?_cons_zero]); rfl)
            go_simp
            refine hK.out _ _ (by first | exact ⟨c0 _ (by repeat (first | assumption | exact Below.refl _ _ | refine belAlloc ?_ _ | refine belDrew ?_ | refine belSet ?_ _ _ (by simp) | refine belStep ?_ (by assumption))), c1 _ (by repeat (first | assumption | exact Below.refl _ _ | refine belAlloc ?_ _ | refine belDrew ?_ | refine belSet ?_ _ _ (by simp) | refine belStep ?_ (by assumption))), x0 _ (by repeat (first | assumption | exact Below.refl _ _ | refine belAlloc ?_ _ | refine belDrew ?_ | refine belSet ?_ _ _ (by simp) | refine belStep ?_ (by assumption)))⟩) (fun hHeld => ?_)
            clear hK K
            try simp only [Act.put, List.setIfInBounds_toArray, List.set_cons_zero, List.set_cons_succ]
            refine wpAnyH_ready (rs := [13]) (by kernel_rfl) (by simp) ?_
            refine AllReadyH.cons (o := ?o1_100) ?hi_100 (fun K hK => ?rest_100) AllReadyH.nil
            case hi_100 => ((simp only [List.getElem?_toArray, List.getElem?_cons_succ, List.getElem?_cons_zero]); rfl)
            go_simp
            refine hK.out _ _ (by first | exact ⟨c0 _ (by repeat (first | assumption | exact Below.refl _ _ | refine belAlloc ?_ _ | refine belDrew ?_ | refine belSet ?_ _ _ (by simp) | refine belStep ?_ (by assumption))), c1 _ (by repeat (first | assumption | exact Below.refl _ _ | refine belAlloc ?_ _ | refine belDrew ?_ | refine belSet ?_ _ _ (by simp) | refine belStep ?_ (by assumption))), x0 _ (by repeat (first | assumption | exact Below.refl _ _ | refine belAlloc ?_ _ | refine belDrew ?_ | refine belSet ?_ _ _ (by simp) | refine belStep ?_ (by assumption)))⟩) (fun hHeld => ?_)
            clear hK K
            try simp only [Act.put, List.setIfInBounds_toArray, List.set_cons_zero, List.set_cons_succ]
            refine wpAnyH_done (by kernel_rfl) ?_ _
            clear D1 D2
            all_goals
              clear hcc hff
              first
              | (have hb3 : Below W2.heap.size W2 (w1.alloc (.cells #[.int .i64 s', .int .i64 t'] 23)) := belAlloc (belStep (belDrew hbel) hb1) _
                 have p0 : (w1.alloc (.cells #[.int .i64 s', .int .i64 t'] 23)).cell? ⟨w1.heap.size, 0, none⟩ = some (.int .i64 s') := by simp
                 have p1 : (w1.alloc (.cells #[.int .i64 s', .int .i64 t'] 23)).cell? ⟨w1.heap.size, 1, none⟩ = some (.int .i64 t') := by simp
                 clear hb1
                 generalize w1.alloc (.cells #[.int .i64 s', .int .i64 t'] 23) = W3 at *
                 generalize w1.heap.size = M3 at *)
              | (have hb4 : Blk w1 W2.heap.size [.int .i64 0, .int .i64 0] 23 := (hb1.block W2.heap.size (by simp)).trans (Blk.at rfl : Blk (W2.alloc (.cells [.int .i64 0, .int .i64 0].toArray 23)) W2.heap.size [.int .i64 0, .int .i64 0] 23)
                 have hb3 := belSet (belSet (belStep (belDrew (belAlloc hbel _)) hb1) ⟨W2.heap.size, 0, none⟩ (.int .i64 s') (by simp)) ⟨W2.heap.size, 1, none⟩ (.int .i64 t') (by simp)
                 have hb5 := ((hb4).set 0 (.int .i64 s')).set 1 (.int .i64 t')
                 have p0 := hb5.cell (j := 0) rfl
                 have p1 := hb5.cell (j := 1) rfl
                 clear hb4 hb5 hb1
                 generalize (w1.setCell ⟨W2.heap.size, 0, none⟩ (.int .i64 s')).setCell ⟨W2.heap.size, 1, none⟩ (.int .i64 t') = W3 at *
                 generalize W2.heap.size = M3 at p0 p1 ⊢)
              replace c0 := keepOnP c0 hb3
              replace c1 := keepOnP c1 hb3
              replace x0 := keepOnP x0 hb3
              replace hF := keepOnP hF hb3
              replace hG := keepOnP hG hb3
              replace hB := keepOnP hB hb3
              replace p0 := keep p0
              replace p1 := keep p1
              replace hw := belStep hw hb3
              clear hbel hb3
              have hbel : Below W3.heap.size W3 W3 := Below.refl _ _
              have hM3 : W1.heap.size + 1 < W3.heap.size := (hB _ hbel).lt
              rcases key with ⟨rfl, rfl, rfl⟩ | ⟨rfl, rfl, hs'⟩
              · rcases hs with rfl | rfl
                · go_wp2
                  go_roundw
                  case rel => exact ⟨k + 1, _, _, by omega, by push_cast; rfl, by omega, it', belSet (belSet hw _ _ (by simp)) _ _ (by simp), ((hG _ hbel).far (by simp) _).far (by simp) _, ((hB _ hbel).set 0 _).set 1 _⟩
                  case measure => simp [intOf] <;> omega
                · go_wp2
                  go_roundw
                  case rel => exact ⟨k + 1, _, _, by omega, by push_cast; rfl, by omega, it', belSet (belSet hw _ _ (by simp)) _ _ (by simp), ((hG _ hbel).far (by simp) _).far (by simp) _, ((hB _ hbel).set 0 _).set 1 _⟩
                  case measure => simp [intOf] <;> omega
              · rcases hs' with rfl | rfl
                · go_wp2
                  go_roundw
                  case rel => exact ⟨k + 1, _, _, by omega, by push_cast; rfl, by omega, it', belSet (belSet hw _ _ (by simp)) _ _ (by simp), ((hG _ hbel).far (by simp) _).far (by simp) _, ((hB _ hbel).set 0 _).set 1 _⟩
                  case measure => simp [intOf] <;> omega
                · go_wp2
                  go_roundw
                  case rel => exact ⟨k + 1, _, _, by omega, by push_cast; rfl, by omega, it', belSet (belSet hw _ _ (by simp)) _ _ (by simp), ((hG _ hbel).far (by simp) _).far (by simp) _, ((hB _ hbel).set 0 _).set 1 _⟩
                  case measure => simp [intOf] <;> omega
          · skip
            clear hcc hff
            first
            | (have hb3 : Below wr.heap.size wr (w1.alloc (.cells #[.int .i64 5, .int .i64 tries] 23)) := belAlloc (belStep (belDrew hbel) hb1) _
               have n0 : (w1.alloc (.cells #[.int .i64 5, .int .i64 tries] 23)).cell? ⟨w1.heap.size, 0, none⟩ = some (.int .i64 5) := by simp
               have n1 : (w1.alloc (.cells #[.int .i64 5, .int .i64 tries] 23)).cell? ⟨w1.heap.size, 1, none⟩ = some (.int .i64 tries) := by simp
               clear hb1
               generalize w1.alloc (.cells #[.int .i64 5, .int .i64 tries] 23) = W2 at *
               generalize w1.heap.size = M at *)
            | (have hb4 : Blk w1 wr.heap.size [.int .i64 0, .int .i64 0] 23 := (hb1.block wr.heap.size (by simp)).trans (Blk.at rfl : Blk (wr.alloc (.cells [.int .i64 0, .int .i64 0].toArray 23)) wr.heap.size [.int .i64 0, .int .i64 0] 23)
               have hb3 := belSet (belSet (belStep (belDrew (belAlloc hbel _)) hb1) ⟨wr.heap.size, 0, none⟩ (.int .i64 5) (by simp)) ⟨wr.heap.size, 1, none⟩ (.int .i64 tries) (by simp)
               have hb5 := ((hb4).set 0 (.int .i64 5)).set 1 (.int .i64 tries)
               have n0 := hb5.cell (j := 0) rfl
               have n1 := hb5.cell (j := 1) rfl
               clear hb4 hb5 hb1
               generalize (w1.setCell ⟨wr.heap.size, 0, none⟩ (.int .i64 5)).setCell ⟨wr.heap.size, 1, none⟩ (.int .i64 tries) = W2 at *
               generalize wr.heap.size = M at n0 n1 ⊢)
            replace g0 := keepOnP g0 hb3
            replace g1 := keepOnP g1 hb3
            replace c0 := keepOnP c0 hb3
            replace c1 := keepOnP c1 hb3
            replace x0 := keepOnP x0 hb3
            replace hF := keepOnP hF hb3
            replace hG := keepOnP hG hb3
            replace hB := keepOnP hB hb3
            replace n0 := keep n0
            replace n1 := keep n1
            replace hw := belStep hw hb3
            clear hbel hb3
            have hbel : Below W2.heap.size W2 W2 := Below.refl _ _
            go_upto_region 12 with fail
            refine wp_region_held_drew (S := fun w' => w'.cell? ⟨W1.heap.size + 1, 0, none⟩ = some (.int .i64 s) ∧ w'.cell? ⟨W1.heap.size + 1, 1, none⟩ = some (.int .i64 t) ∧ w'.cell? ⟨bb, off + k, none⟩ = some (.int .i64 x)) (by kernel_rfl) (by first | exact ⟨c0 _ (by repeat (first | assumption | exact Below.refl _ _ | refine belAlloc ?_ _ | refine belDrew ?_ | refine belSet ?_ _ _ (by simp) | refine belStep ?_ (by assumption))), c1 _ (by repeat (first | assumption | exact Below.refl _ _ | refine belAlloc ?_ _ | refine belDrew ?_ | refine belSet ?_ _ _ (by simp) | refine belStep ?_ (by assumption))), x0 _ (by repeat (first | assumption | exact Below.refl _ _ | refine belAlloc ?_ _ | refine belDrew ?_ | refine belSet ?_ _ _ (by simp) | refine belStep ?_ (by assumption)))⟩) (fun hHeld => ?_)
            refine wpAnyH_take (i := 0) (oi := ?oi_101) (v := ?v_101) ?hi_101 (by kernel_rfl) ?hf_101 ?hr_101 ?hQ_101 (Or.inl ⟨?hw_101, ?hy_101⟩) (by assumption) ?rest_101
            case hi_101 => ((simp only [List.getElem?_toArray, List.getElem?_cons_succ, List.getElem?_cons_zero]); rfl)
            case hf_101 => kernel_rfl
            case hr_101 => kernel_rfl
            case hQ_101 => exact fun _ _ _ h => h
            case hw_101 => rfl
            case hy_101 => ((intro w hSw; (try dsimp only at hSw); go_simp); all_goals (with_reducible rfl))
            try simp only [Act.put, List.setIfInBounds_toArray, List.set_cons_zero, List.set_cons_succ]
            refine wpAnyH_take (i := 1) (oi := ?oi_102) (v := ?v_102) ?hi_102 (by kernel_rfl) ?hf_102 ?hr_102 ?hQ_102 (Or.inl ⟨?hw_102, ?hy_102⟩) (by assumption) ?rest_102
            case hi_102 => ((simp only [List.getElem?_toArray, List.getElem?_cons_succ, List.getElem?_cons_zero]); rfl)
            case hf_102 => kernel_rfl
            case hr_102 => kernel_rfl
            case hQ_102 => exact fun _ _ _ h => h
            case hw_102 => rfl
            case hy_102 => ((intro w hSw; (try dsimp only at hSw); go_simp); all_goals (with_reducible rfl))
            try simp only [Act.put, List.setIfInBounds_toArray, List.set_cons_zero, List.set_cons_succ]
            refine wpAnyH_take (i := 2) (oi := ?oi_103) (v := ?v_103) ?hi_103 (by kernel_rfl) ?hf_103 ?hr_103 ?hQ_103 (Or.inl ⟨?hw_103, ?hy_103⟩) (by assumption) ?rest_103
            case hi_103 => ((simp only [List.getElem?_toArray, List.getElem?_cons_succ, List.getElem?_cons_zero]); rfl)
            case hf_103 => kernel_rfl
            case hr_103 => kernel_rfl
            case hQ_103 => exact fun _ _ _ h => h
            case hw_103 => rfl
            case hy_103 => ((intro w hSw; (try dsimp only at hSw); go_simp); all_goals (with_reducible rfl))
            try simp only [Act.put, List.setIfInBounds_toArray, List.set_cons_zero, List.set_cons_succ]
            refine wpAnyH_take (i := 3) (oi := ?oi_104) (v := ?v_104) ?hi_104 (by kernel_rfl) ?hf_104 ?hr_104 ?hQ_104 (Or.inl ⟨?hw_104, ?hy_104⟩) (by assumption) ?rest_104
            case hi_104 => ((simp only [List.getElem?_toArray, List.getElem?_cons_succ, List.getElem?_cons_zero]); rfl)
            case hf_104 => kernel_rfl
            case hr_104 => kernel_rfl
            case hQ_104 => exact fun _ _ _ h => h
            case hw_104 => rfl
            case hy_104 => ((intro w hSw; (try dsimp only at hSw); go_simp); all_goals (with_reducible rfl))
            try simp only [Act.put, List.setIfInBounds_toArray, List.set_cons_zero, List.set_cons_succ]
            refine wpAnyH_take (i := 4) (oi := ?oi_105) (v := ?v_105) ?hi_105 (by kernel_rfl) ?hf_105 ?hr_105 ?hQ_105 (Or.inl ⟨?hw_105, ?hy_105⟩) (by assumption) ?rest_105
            case hi_105 => ((simp only [List.getElem?_toArray, List.getElem?_cons_succ, List.getElem?_cons_zero]); rfl)
            case hf_105 => kernel_rfl
            case hr_105 => kernel_rfl
            case hQ_105 => exact fun _ _ _ h => h
            case hw_105 => rfl
            case hy_105 => ((intro w hSw; (try dsimp only at hSw); go_simp); all_goals (with_reducible rfl))
            try simp only [Act.put, List.setIfInBounds_toArray, List.set_cons_zero, List.set_cons_succ]
            refine wpAnyH_take (i := 5) (oi := ?oi_106) (v := ?v_106) ?hi_106 (by kernel_rfl) ?hf_106 ?hr_106 ?hQ_106 (Or.inl ⟨?hw_106, ?hy_106⟩) (by assumption) ?rest_106
            case hi_106 => ((simp only [List.getElem?_toArray, List.getElem?_cons_succ, List.getElem?_cons_zero]); rfl)
            case hf_106 => kernel_rfl
            case hr_106 => kernel_rfl
            case hQ_106 => exact fun _ _ _ h => h
            case hw_106 => rfl
            case hy_106 => ((intro w hSw; (try dsimp only at hSw); go_simp); all_goals (with_reducible rfl))
            try simp only [Act.put, List.setIfInBounds_toArray, List.set_cons_zero, List.set_cons_succ]
            refine wpAnyH_take (i := 6) (oi := ?oi_107) (v := ?v_107) ?hi_107 (by kernel_rfl) ?hf_107 ?hr_107 ?hQ_107 (Or.inl ⟨?hw_107, ?hy_107⟩) (by assumption) ?rest_107
            case hi_107 => ((simp only [List.getElem?_toArray, List.getElem?_cons_succ, List.getElem?_cons_zero]); rfl)
            case hf_107 => kernel_rfl
            case hr_107 => kernel_rfl
            case hQ_107 => exact fun _ _ _ h => h
            case hw_107 => rfl
            case hy_107 => ((intro w hSw; (try dsimp only at hSw); go_simp); all_goals (with_reducible rfl))
            try simp only [Act.put, List.setIfInBounds_toArray, List.set_cons_zero, List.set_cons_succ]
            refine wpAnyH_ready (rs := [7, 11]) (by kernel_rfl) (by simp) ?_
            refine AllReadyH.cons (o := ?o1_108) ?hi_108 (fun K hK => ?ra_108) (AllReadyH.cons (o := ?o2_108) ?hi2_108 (fun K hK => ?rb_108) AllReadyH.nil)
            case hi_108 => ((simp only [List.getElem?_toArray, List.getElem?_cons_succ, List.getElem?_cons_zero]); rfl)
            case hi2_108 => ((simp only [List.getElem?_toArray, List.getElem?_cons_succ, List.getElem?_cons_zero]); rfl)
            go_simp
            (go_at_call 17; refine (D2.out _).mono ?_; rintro e w1 ⟨rfl, hb1⟩; have hcc := Below.cells hb1; have hff := Below.frozens hb1)
            try go_simp
            refine hK.out _ _ (by first | exact ⟨c0 _ (by repeat (first | assumption | exact Below.refl _ _ | refine belAlloc ?_ _ | refine belDrew ?_ | refine belSet ?_ _ _ (by simp) | refine belStep ?_ (by assumption))), c1 _ (by repeat (first | assumption | exact Below.refl _ _ | refine belAlloc ?_ _ | refine belDrew ?_ | refine belSet ?_ _ _ (by simp) | refine belStep ?_ (by assumption))), x0 _ (by repeat (first | assumption | exact Below.refl _ _ | refine belAlloc ?_ _ | refine belDrew ?_ | refine belSet ?_ _ _ (by simp) | refine belStep ?_ (by assumption)))⟩) (fun hHeld => ?_)
            clear hK K
            try simp only [Act.put, List.setIfInBounds_toArray, List.set_cons_zero, List.set_cons_succ]
            refine wpAnyH_take (i := 8) (oi := ?oi_109) (v := ?v_109) ?hi_109 (by kernel_rfl) ?hf_109 ?hr_109 ?hQ_109 (Or.inl ⟨?hw_109, ?hy_109⟩) (by assumption) ?rest_109
            case hi_109 => ((simp only [List.getElem?_toArray, List.getElem?_cons_succ, List.getElem?_cons_zero]); rfl)
            case hf_109 => kernel_rfl
            case hr_109 => kernel_rfl
            case hQ_109 => exact fun _ _ _ h => h
            case hw_109 => rfl
            case hy_109 => ((intro w hSw; (try dsimp only at hSw); go_simp); all_goals (with_reducible rfl))
            try simp only [Act.put, List.setIfInBounds_toArray, List.set_cons_zero, List.set_cons_succ]
            refine wpAnyH_take (i := 9) (oi := ?oi_110) (v := ?v_110) ?hi_110 (by kernel_rfl) ?hf_110 ?hr_110 ?hQ_110 (Or.inl ⟨?hw_110, ?hy_110⟩) (by assumption) ?rest_110
            case hi_110 => ((simp only [List.getElem?_toArray, List.getElem?_cons_succ, List.getElem?_cons_zero]); rfl)
            case hf_110 => kernel_rfl
            case hr_110 => kernel_rfl
            case hQ_110 => exact fun _ _ _ h => h
            case hw_110 => rfl
            case hy_110 => ((intro w hSw; (try dsimp only at hSw); go_simp); all_goals (with_reducible rfl))
            try simp only [Act.put, List.setIfInBounds_toArray, List.set_cons_zero, List.set_cons_succ]
            refine wpAnyH_take (i := 10) (oi := ?oi_111) (v := ?v_111) ?hi_111 (by kernel_rfl) ?hf_111 ?hr_111 ?hQ_111 (Or.inl ⟨?hw_111, ?hy_111⟩) (by assumption) ?rest_111
            case hi_111 => ((simp only [List.getElem?_toArray, List.getElem?_cons_succ, List.getElem?_cons_zero]); rfl)
            case hf_111 => kernel_rfl
            case hr_111 => kernel_rfl
            case hQ_111 => exact fun _ _ _ h => h
            case hw_111 => rfl
            case hy_111 => ((intro w hSw; (try dsimp only at hSw); go_simp); all_goals (with_reducible rfl))
            try simp only [Act.put, List.setIfInBounds_toArray, List.set_cons_zero, List.set_cons_succ]
            refine wpAnyH_ready (rs := [11]) (by kernel_rfl) (by simp) ?_
            refine AllReadyH.cons (o := ?o1_112) ?hi_112 (fun K hK => ?rest_112) AllReadyH.nil
            case hi_112 => ((simp only [List.getElem?_toArray, List.getElem?_cons_succ, List.getElem?_cons_zero]); rfl)
            go_simp
            refine hK.out _ _ (by first | exact ⟨c0 _ (by repeat (first | assumption | exact Below.refl _ _ | refine belAlloc ?_ _ | refine belDrew ?_ | refine belSet ?_ _ _ (by simp) | refine belStep ?_ (by assumption))), c1 _ (by repeat (first | assumption | exact Below.refl _ _ | refine belAlloc ?_ _ | refine belDrew ?_ | refine belSet ?_ _ _ (by simp) | refine belStep ?_ (by assumption))), x0 _ (by repeat (first | assumption | exact Below.refl _ _ | refine belAlloc ?_ _ | refine belDrew ?_ | refine belSet ?_ _ _ (by simp) | refine belStep ?_ (by assumption)))⟩) (fun hHeld => ?_)
            clear hK K
            try simp only [Act.put, List.setIfInBounds_toArray, List.set_cons_zero, List.set_cons_succ]
            refine wpAnyH_ready (rs := [12]) (by kernel_rfl) (by simp) ?_
            refine AllReadyH.cons (o := ?o1_113) ?hi_113 (fun K hK => ?rest_113) AllReadyH.nil
            case hi_113 => ((simp only [List.getElem?_toArray, List.getElem?_cons_succ, List.getElem?_cons_zero]); rfl)
            go_simp
            refine hK.out _ _ (by first | exact ⟨c0 _ (by repeat (first | assumption | exact Below.refl _ _ | refine belAlloc ?_ _ | refine belDrew ?_ | refine belSet ?_ _ _ (by simp) | refine belStep ?_ (by assumption))), c1 _ (by repeat (first | assumption | exact Below.refl _ _ | refine belAlloc ?_ _ | refine belDrew ?_ | refine belSet ?_ _ _ (by simp) | refine belStep ?_ (by assumption))), x0 _ (by repeat (first | assumption | exact Below.refl _ _ | refine belAlloc ?_ _ | refine belDrew ?_ | refine belSet ?_ _ _ (by simp) | refine belStep ?_ (by assumption)))⟩) (fun hHeld => ?_)
            clear hK K
            try simp only [Act.put, List.setIfInBounds_toArray, List.set_cons_zero, List.set_cons_succ]
            refine wpAnyH_ready (rs := [13]) (by kernel_rfl) (by simp) ?_
            refine AllReadyH.cons (o := ?o1_114) ?hi_114 (fun K hK => ?rest_114) AllReadyH.nil
            case hi_114 => ((simp only [List.getElem?_toArray, List.getElem?_cons_succ, List.getElem?_cons_zero]); rfl)
            go_simp
            refine hK.out _ _ (by first | exact ⟨c0 _ (by repeat (first | assumption | exact Below.refl _ _ | refine belAlloc ?_ _ | refine belDrew ?_ | refine belSet ?_ _ _ (by simp) | refine belStep ?_ (by assumption))), c1 _ (by repeat (first | assumption | exact Below.refl _ _ | refine belAlloc ?_ _ | refine belDrew ?_ | refine belSet ?_ _ _ (by simp) | refine belStep ?_ (by assumption))), x0 _ (by repeat (first | assumption | exact Below.refl _ _ | refine belAlloc ?_ _ | refine belDrew ?_ | refine belSet ?_ _ _ (by simp) | refine belStep ?_ (by assumption)))⟩) (fun hHeld => ?_)
            clear hK K
            try simp only [Act.put, List.setIfInBounds_toArray, List.set_cons_zero, List.set_cons_succ]
            refine wpAnyH_done (by kernel_rfl) ?_ _
            rotate_left 1
            go_simp
            refine hK.out _ _ (by first | exact ⟨c0 _ (by repeat (first | assumption | exact Below.refl _ _ | refine belAlloc ?_ _ | refine belDrew ?_ | refine belSet ?_ _ _ (by simp) | refine belStep ?_ (by assumption))), c1 _ (by repeat (first | assumption | exact Below.refl _ _ | refine belAlloc ?_ _ | refine belDrew ?_ | refine belSet ?_ _ _ (by simp) | refine belStep ?_ (by assumption))), x0 _ (by repeat (first | assumption | exact Below.refl _ _ | refine belAlloc ?_ _ | refine belDrew ?_ | refine belSet ?_ _ _ (by simp) | refine belStep ?_ (by assumption)))⟩) (fun hHeld => ?_)
            clear hK K
            try simp only [Act.put, List.setIfInBounds_toArray, List.set_cons_zero, List.set_cons_succ]
            refine wpAnyH_ready (rs := [7]) (by kernel_rfl) (by simp) ?_
            refine AllReadyH.cons (o := ?o1_115) ?hi_115 (fun K hK => ?rest_115) AllReadyH.nil
            case hi_115 => ((simp only [List.getElem?_toArray, List.getElem?_cons_succ, List.getElem?_cons_zero]); rfl)
            go_simp
            (go_at_call 17; refine (D2.out _).mono ?_; rintro e w1 ⟨rfl, hb1⟩; have hcc := Below.cells hb1; have hff := Below.frozens hb1)
            try go_simp
            refine hK.out _ _ (by first | exact ⟨c0 _ (by repeat (first | assumption | exact Below.refl _ _ | refine belAlloc ?_ _ | refine belDrew ?_ | refine belSet ?_ _ _ (by simp) | refine belStep ?_ (by assumption))), c1 _ (by repeat (first | assumption | exact Below.refl _ _ | refine belAlloc ?_ _ | refine belDrew ?_ | refine belSet ?_ _ _ (by simp) | refine belStep ?_ (by assumption))), x0 _ (by repeat (first | assumption | exact Below.refl _ _ | refine belAlloc ?_ _ | refine belDrew ?_ | refine belSet ?_ _ _ (by simp) | refine belStep ?_ (by assumption)))⟩) (fun hHeld => ?_)
            clear hK K
            try simp only [Act.put, List.setIfInBounds_toArray, List.set_cons_zero, List.set_cons_succ]
            refine wpAnyH_take (i := 8) (oi := ?oi_116) (v := ?v_116) ?hi_116 (by kernel_rfl) ?hf_116 ?hr_116 ?hQ_116 (Or.inl ⟨?hw_116, ?hy_116⟩) (by assumption) ?rest_116
            case hi_116 => ((simp only [List.getElem?_toArray, List.getElem?_cons_succ, List.getElem?_cons_zero]); rfl)
            case hf_116 => kernel_rfl
            case hr_116 => kernel_rfl
            case hQ_116 => exact fun _ _ _ h => h
            case hw_116 => rfl
            case hy_116 => ((intro w hSw; (try dsimp only at hSw); go_simp); all_goals (with_reducible rfl))
            try simp only [Act.put, List.setIfInBounds_toArray, List.set_cons_zero, List.set_cons_succ]
            refine wpAnyH_take (i := 9) (oi := ?oi_117) (v := ?v_117) ?hi_117 (by kernel_rfl) ?hf_117 ?hr_117 ?hQ_117 (Or.inl ⟨?hw_117, ?hy_117⟩) (by assumption) ?rest_117
            case hi_117 => ((simp only [List.getElem?_toArray, List.getElem?_cons_succ, List.getElem?_cons_zero]); rfl)
            case hf_117 => kernel_rfl
            case hr_117 => kernel_rfl
            case hQ_117 => exact fun _ _ _ h => h
            case hw_117 => rfl
            case hy_117 => ((intro w hSw; (try dsimp only at hSw); go_simp); all_goals (with_reducible rfl))
            try simp only [Act.put, List.setIfInBounds_toArray, List.set_cons_zero, List.set_cons_succ]
            refine wpAnyH_take (i := 10) (oi := ?oi_118) (v := ?v_118) ?hi_118 (by kernel_rfl) ?hf_118 ?hr_118 ?hQ_118 (Or.inl ⟨?hw_118, ?hy_118⟩) (by assumption) ?rest_118
            case hi_118 => ((simp only [List.getElem?_toArray, List.getElem?_cons_succ, List.getElem?_cons_zero]); rfl)
            case hf_118 => kernel_rfl
            case hr_118 => kernel_rfl
            case hQ_118 => exact fun _ _ _ h => h
            case hw_118 => rfl
            case hy_118 => ((intro w hSw; (try dsimp only at hSw); go_simp); all_goals (with_reducible rfl))
            try simp only [Act.put, List.setIfInBounds_toArray, List.set_cons_zero, List.set_cons_succ]
            refine wpAnyH_ready (rs := [12]) (by kernel_rfl) (by simp) ?_
            refine AllReadyH.cons (o := ?o1_119) ?hi_119 (fun K hK => ?rest_119) AllReadyH.nil
            case hi_119 => ((simp only [List.getElem?_toArray, List.getElem?_cons_succ, List.getElem?_cons_zero]); rfl)
            go_simp
            refine hK.out _ _ (by first | exact ⟨c0 _ (by repeat (first | assumption | exact Below.refl _ _ | refine belAlloc ?_ _ | refine belDrew ?_ | refine belSet ?_ _ _ (by simp) | refine belStep ?_ (by assumption))), c1 _ (by repeat (first | assumption | exact Below.refl _ _ | refine belAlloc ?_ _ | refine belDrew ?_ | refine belSet ?_ _ _ (by simp) | refine belStep ?_ (by assumption))), x0 _ (by repeat (first | assumption | exact Below.refl _ _ | refine belAlloc ?_ _ | refine belDrew ?_ | refine belSet ?_ _ _ (by simp) | refine belStep ?_ (by assumption)))⟩) (fun hHeld => ?_)
            clear hK K
            try simp only [Act.put, List.setIfInBounds_toArray, List.set_cons_zero, List.set_cons_succ]
            refine wpAnyH_ready (rs := [13]) (by kernel_rfl) (by simp) ?_
            refine AllReadyH.cons (o := ?o1_120) ?hi_120 (fun K hK => ?rest_120) AllReadyH.nil
            case hi_120 => ((simp only [List.getElem?_toArray, List.getElem?_cons_succ, List.getElem?_cons_zero]); rfl)
            go_simp
            refine hK.out _ _ (by first | exact ⟨c0 _ (by repeat (first | assumption | exact Below.refl _ _ | refine belAlloc ?_ _ | refine belDrew ?_ | refine belSet ?_ _ _ (by simp) | refine belStep ?_ (by assumption))), c1 _ (by repeat (first | assumption | exact Below.refl _ _ | refine belAlloc ?_ _ | refine belDrew ?_ | refine belSet ?_ _ _ (by simp) | refine belStep ?_ (by assumption))), x0 _ (by repeat (first | assumption | exact Below.refl _ _ | refine belAlloc ?_ _ | refine belDrew ?_ | refine belSet ?_ _ _ (by simp) | refine belStep ?_ (by assumption)))⟩) (fun hHeld => ?_)
            clear hK K
            try simp only [Act.put, List.setIfInBounds_toArray, List.set_cons_zero, List.set_cons_succ]
            refine wpAnyH_done (by kernel_rfl) ?_ _
            clear D1 D2
            all_goals
              clear hcc hff
              first
              | (have hb3 : Below W2.heap.size W2 (w1.alloc (.cells #[.int .i64 s', .int .i64 t'] 23)) := belAlloc (belStep (belDrew hbel) hb1) _
                 have p0 : (w1.alloc (.cells #[.int .i64 s', .int .i64 t'] 23)).cell? ⟨w1.heap.size, 0, none⟩ = some (.int .i64 s') := by simp
                 have p1 : (w1.alloc (.cells #[.int .i64 s', .int .i64 t'] 23)).cell? ⟨w1.heap.size, 1, none⟩ = some (.int .i64 t') := by simp
                 clear hb1
                 generalize w1.alloc (.cells #[.int .i64 s', .int .i64 t'] 23) = W3 at *
                 generalize w1.heap.size = M3 at *)
              | (have hb4 : Blk w1 W2.heap.size [.int .i64 0, .int .i64 0] 23 := (hb1.block W2.heap.size (by simp)).trans (Blk.at rfl : Blk (W2.alloc (.cells [.int .i64 0, .int .i64 0].toArray 23)) W2.heap.size [.int .i64 0, .int .i64 0] 23)
                 have hb3 := belSet (belSet (belStep (belDrew (belAlloc hbel _)) hb1) ⟨W2.heap.size, 0, none⟩ (.int .i64 s') (by simp)) ⟨W2.heap.size, 1, none⟩ (.int .i64 t') (by simp)
                 have hb5 := ((hb4).set 0 (.int .i64 s')).set 1 (.int .i64 t')
                 have p0 := hb5.cell (j := 0) rfl
                 have p1 := hb5.cell (j := 1) rfl
                 clear hb4 hb5 hb1
                 generalize (w1.setCell ⟨W2.heap.size, 0, none⟩ (.int .i64 s')).setCell ⟨W2.heap.size, 1, none⟩ (.int .i64 t') = W3 at *
                 generalize W2.heap.size = M3 at p0 p1 ⊢)
              replace c0 := keepOnP c0 hb3
              replace c1 := keepOnP c1 hb3
              replace x0 := keepOnP x0 hb3
              replace hF := keepOnP hF hb3
              replace hG := keepOnP hG hb3
              replace hB := keepOnP hB hb3
              replace p0 := keep p0
              replace p1 := keep p1
              replace hw := belStep hw hb3
              clear hbel hb3
              have hbel : Below W3.heap.size W3 W3 := Below.refl _ _
              have hM3 : W1.heap.size + 1 < W3.heap.size := (hB _ hbel).lt
              rcases key with ⟨rfl, rfl, rfl⟩ | ⟨rfl, rfl, hs'⟩
              · rcases hs with rfl | rfl
                · go_wp2
                  go_roundw
                  case rel => exact ⟨k + 1, _, _, by omega, by push_cast; rfl, by omega, it', belSet (belSet hw _ _ (by simp)) _ _ (by simp), ((hG _ hbel).far (by simp) _).far (by simp) _, ((hB _ hbel).set 0 _).set 1 _⟩
                  case measure => simp [intOf] <;> omega
                · go_wp2
                  go_roundw
                  case rel => exact ⟨k + 1, _, _, by omega, by push_cast; rfl, by omega, it', belSet (belSet hw _ _ (by simp)) _ _ (by simp), ((hG _ hbel).far (by simp) _).far (by simp) _, ((hB _ hbel).set 0 _).set 1 _⟩
                  case measure => simp [intOf] <;> omega
              · rcases hs' with rfl | rfl
                · go_wp2
                  go_roundw
                  case rel => exact ⟨k + 1, _, _, by omega, by push_cast; rfl, by omega, it', belSet (belSet hw _ _ (by simp)) _ _ (by simp), ((hG _ hbel).far (by simp) _).far (by simp) _, ((hB _ hbel).set 0 _).set 1 _⟩
                  case measure => simp [intOf] <;> omega
                · go_wp2
                  go_roundw
                  case rel => exact ⟨k + 1, _, _, by omega, by push_cast; rfl, by omega, it', belSet (belSet hw _ _ (by simp)) _ _ (by simp), ((hG _ hbel).far (by simp) _).far (by simp) _, ((hB _ hbel).set 0 _).set 1 _⟩
                  case measure => simp [intOf] <;> omega
      · obtain rfl : k = len := by omega
        go_wp2
        go_ret
        exact ⟨rfl, belStep hw hbr⟩

set_option maxRecDepth 100000 in
theorem lifted (os : Os) (started : os.Started) (H : Type) (enc : TypeId × Value → H) :
    ReturnsInHanded {} Try.checked os 6 .any (Rows.boxEndsSpec.pre6 enc Try.prog Try.f6 Rows.boxEndsRow.domain false) (Rows.boxEndsSpec.post enc Try.prog Try.f6 false true false false) := by
  refine returnsInHanded_of_change (C := Try.checked) own started (by kernel_rfl) Try.func6
    (ChangeSpec.witness6 (enc := enc) (C := Try.checked) false ⟨#[], #[.int .i64 0, .slice none 0 0, .slice none 0 0, .int .i64 0], []⟩ 8 (by kernel_rfl) (by kernel_rfl) (by kernel_rfl) (by kernel_rfl)) ?_
  intro W base args ds gs before hval0 hW hcnd _
  have hval : ∀ (j : Nat) t v, Try.f6.params[j]? = some t → args[j]? = some v → Value.okWide Try.prog W .any base t v := hval0
  have hW' := hW
  obtain ⟨p, q, hA0, hV, rfl, hfz, hnd⟩ := hW
  have hA : DataW.TrodAll enc Try.prog W 0 (fun _ => true) true Try.f6.params.toList args.toList ds p := hA0
  rw [Try.params6] at hA hval
  obtain ⟨v0, vs0, d0, ds0, p0, q0, hargs, rfl, rfl, h0, r0⟩ := trodAll_cons hA
  obtain ⟨v1, vs1, d1, ds1, p1, q1, rfl, rfl, rfl, h1, r1⟩ := trodAll_cons r0
  obtain ⟨v2, vs2, d2, ds2, p2, q2, rfl, rfl, rfl, h2, r2⟩ := trodAll_cons r1
  obtain ⟨v3, vs3, d3, ds3, p3, q3, rfl, rfl, rfl, h3, r3⟩ := trodAll_cons r2
  obtain ⟨rfl, rfl, rfl⟩ := trodAll_nil r3
  obtain rfl : args = #[v0, v1, v2, v3] := by cases args; simp_all
  obtain ⟨rfl, rfl⟩ := trodVars_none hV
  have k0 := h0
  have lt0 : ∀ x ∈ p0, x.block < W.heap.size := by obtain ⟨m, hm⟩ := k0; exact DataW.trod_lt m _ _ _ hm
  have o0 : Value.okWide Try.prog W .any base 3 v0 := hval 0 3 v0 rfl rfl
  obtain ⟨a0, rfl, rfl, rfl, w0⟩ := open_int Try.underlying3 o0 h0
  have k1 := h1
  have lt1 : ∀ x ∈ p1, x.block < W.heap.size := by obtain ⟨m, hm⟩ := k1; exact DataW.trod_lt m _ _ _ hm
  have o1 : Value.okWide Try.prog W .any base 34 v1 := hval 1 34 v1 rfl rfl
  obtain ⟨a1, len1, cap1, rfl⟩ := okWide_slice Try.underlying34 o1
  obtain ⟨z1, w1⟩ : ∃ zs, Ints .i64 W a1 len1 cap1 zs := ints_of_trod Try.underlying34 Try.underlying3 (by kernel_rfl) h1
  have k2 := h2
  have lt2 : ∀ x ∈ p2, x.block < W.heap.size := by obtain ⟨m, hm⟩ := k2; exact DataW.trod_lt m _ _ _ hm
  have o2 : Value.okWide Try.prog W .any base 35 v2 := hval 2 35 v2 rfl rfl
  obtain ⟨a2, len2, cap2, rfl⟩ := okWide_slice Try.underlying35 o2
  obtain ⟨z2, w2⟩ : ∃ zs, Bools W a2 len2 cap2 zs := bools_of_trod Try.underlying35 Try.underlying4 (by kernel_rfl) h2
  have k3 := h3
  have lt3 : ∀ x ∈ p3, x.block < W.heap.size := by obtain ⟨m, hm⟩ := k3; exact DataW.trod_lt m _ _ _ hm
  have o3 : Value.okWide Try.prog W .any base 3 v3 := hval 3 3 v3 rfl rfl
  obtain ⟨a3, rfl, rfl, rfl, w3⟩ := open_int Try.underlying3 o3 h3
  clear hA0 hval0
  refine (walk a0 a1 len1 cap1 z1 a2 len2 cap2 z2 a3 W (inI_of_wf w0) w1 w2 (inI_of_wf w3)).mono fun e W' ⟨he, bel⟩ => ?_
  subst he
  exact ⟨_, rfl, _, _, _, [], _, [], hW', trodAll_mk1 (shut_bool Try.underlying4 _), (trodAll_cons_mk (Below.trod laidOut (by kernel_rfl) (of_decide_eq_true (by kernel_rfl)) k0 bel lt0) (trodAll_cons_mk (Below.trod laidOut (by kernel_rfl) (of_decide_eq_true (by kernel_rfl)) k1 bel lt1) (trodAll_cons_mk (Below.trod laidOut (by kernel_rfl) (of_decide_eq_true (by kernel_rfl)) k2 bel lt2) (trodAll_cons_mk (Below.trod laidOut (by kernel_rfl) (of_decide_eq_true (by kernel_rfl)) k3 bel lt3) trodAll_mk0)))), rfl, bel.frame _, fun h => by cases h⟩

theorem over : Rows.boxEndsRow.holds Try.pinned (OpenSpec.ofChange Rows.boxEndsSpec) :=
  OpenClaim.holds_of_wide 6 Try.f6 rfl rfl rfl rfl rfl rfl rfl ⟨rfl, rfl, rfl, rfl, rfl⟩ rfl rfl rfl rfl rfl (by kernel_rfl) Try.func6 (by kernel_rfl)
    (of_decide_eq_true (by kernel_rfl)) (by unfold Func.isWrapper; first | (rw [if_pos (by decide +kernel)]; kernel_rfl) | (rw [if_neg (by decide +kernel)]; exact ⟨rfl, rfl⟩))
    (fun os started H enc _ => lifted os started H enc)

/-- The statement. -/
theorem proved : Rows.BoxEndsSaid := over
#print axioms proved

end Go.Proofs.Ythhpkmpaldcloaa.boxEnds
