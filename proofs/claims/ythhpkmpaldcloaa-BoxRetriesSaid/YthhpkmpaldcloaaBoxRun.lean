/- box.Run's contract. -/
import Derived.Test.YthhpkmpaldcloaaBox
import Derived.Test.YthhpkmpaldcloaaRead
namespace Go.Proofs.Ythhpkmpaldcloaa
open Go.RowKit
set_option linter.unusedVariables false
set_option linter.unusedSimpArgs false

/-- The container, and how often it might be asked, behind the first i that are asked. -/
def runB (lb : List Bool) (r : Int) (l : List Int) : Nat → Int × Int × Int
  | 0 => (1, 0, 0)
  | i + 1 => (doS (runB lb r l i).1 (runB lb r l i).2.1 (el l i) (bl lb i) r, doN (runB lb r l i).1 (runB lb r l i).2.1 (el l i) (bl lb i) r, (runB lb r l i).2.2 + (if toS (runB lb r l i).1 (el l i) = 0 then 0 else 1))

theorem doS_bd {s t k : Int} {b : Bool} {r : Int} (h : 1 ≤ s ∧ s ≤ 6) : 1 ≤ doS s t k b r ∧ doS s t k b r ≤ 6 := by
  have := toS_bd s k
  unfold doS failS
  repeat (split <;> try omega)
theorem doN_bd {s t k : Int} {b : Bool} {r : Int} (h : 0 ≤ t ∧ t ≤ 9223372036854775807) : 0 ≤ doN s t k b r ∧ doN s t k b r ≤ 9223372036854775807 := by
  have := satAdd_bd t 1
  unfold doN
  repeat (split <;> try omega)
theorem runB_bd (lb : List Bool) (r : Int) (l : List Int) (i : Nat) : (1 ≤ (runB lb r l i).1 ∧ (runB lb r l i).1 ≤ 6) ∧ (0 ≤ (runB lb r l i).2.1 ∧ (runB lb r l i).2.1 ≤ 9223372036854775807) ∧ 0 ≤ (runB lb r l i).2.2 ∧ (runB lb r l i).2.2 ≤ i := by
  induction i with
  | zero => simp [runB]
  | succ i ih =>
    obtain ⟨h1, h2, h3⟩ := ih
    have e : (runB lb r l (i + 1)).2.2 = (runB lb r l i).2.2 + (if toS (runB lb r l i).1 (el l i) = 0 then 0 else 1) := rfl
    refine ⟨doS_bd h1, doN_bd (r := r) h2, ?_⟩
    rw [e]
    split <;> omega

set_option maxRecDepth 100000 in
set_option maxHeartbeats 4000000 in
theorem box_Run (a : Option Addr) (len cap : Nat) (l : List Int) (b : Option Addr) (lenb capb : Nat) (lb : List Bool) (r : Int) (w : World) (hl : Ints .i64 w a len cap l) (hlb : Bools w b lenb capb lb) :
    Calls Try.prog 22 #[.slice a len cap, .slice b lenb capb, .int .i64 r] w fun e w' =>
      e = .returned (.tuple #[.agg #[.int .i64 (runB lb r l len).1, .int .i64 (runB lb r l len).2.1], .int .i64 (runB lb r l len).2.2]) ∧ Below w.heap.size w w' := by
  have hw : Below w.heap.size w w := Below.refl _ _
  have hbel := hw
  have hbd := hl.bounds
  have hbd2 := hlb.bounds
  go_enter Try.func22, Try.ntmps22
  go_upto_region 1 with fail
  have q0 : (w.alloc (.cells #[.int .i64 0, .int .i64 0] 23)).cell? ⟨w.heap.size, 0, none⟩ = some (.int .i64 0) := by first | (simp; done) | (rw [World.cell?_alloc_at _ _ _ _ (by simp)]; rfl) | (rw [World.cell?_alloc_past _ _ _ (by simp <;> omega), World.cell?_alloc_at _ _ _ _ (by simp)]; rfl) | (rw [World.cell?_alloc_past _ _ _ (by simp <;> omega), World.cell?_alloc_past _ _ _ (by simp <;> omega), World.cell?_alloc_at _ _ _ _ (by simp)]; rfl)
  have q1 : (w.alloc (.cells #[.int .i64 0, .int .i64 0] 23)).cell? ⟨w.heap.size, 1, none⟩ = some (.int .i64 0) := by first | (simp; done) | (rw [World.cell?_alloc_at _ _ _ _ (by simp)]; rfl) | (rw [World.cell?_alloc_past _ _ _ (by simp <;> omega), World.cell?_alloc_at _ _ _ _ (by simp)]; rfl) | (rw [World.cell?_alloc_past _ _ _ (by simp <;> omega), World.cell?_alloc_past _ _ _ (by simp <;> omega), World.cell?_alloc_at _ _ _ _ (by simp)]; rfl)
  have hb2 := (by repeat (first | exact hbel | refine belAlloc ?_ _ | refine belDrew ?_ | refine belSet ?_ _ _ (by simp)) : Below w.heap.size w (w.alloc (.cells #[.int .i64 0, .int .i64 0] 23)))
  replace hw := belStep hw hb2
  have qB : Blk (w.alloc (.cells #[.int .i64 0, .int .i64 0] 23)) (w.heap.size) [.int .i64 0, .int .i64 0] 23 := (Blk.at (by simp) : Blk (w.alloc (.cells #[.int .i64 0, .int .i64 0] 23)) (w.heap.size) [.int .i64 0, .int .i64 0] 23).later (by repeat (first | exact Below.refl _ _ | refine belAlloc ?_ _))
  have qF := Blk.keepF qB
  replace qB := Blk.keepB qB
  clear hb2 hbel
  generalize w.alloc (.cells #[.int .i64 0, .int .i64 0] 23) = W0 at *
  replace q0 := keep q0
  replace q1 := keep q1
  have hbel : Below W0.heap.size W0 W0 := Below.refl _ _
  skip
  go_upto_region 2 with (first | (go_at_call 23; refine (box_New _).mono ?_; rintro e w1 ⟨rfl, hb1⟩; replace hbel := belStep hbel hb1; clear hb1))
  replace q0 := keepOnP q0 hbel
  replace q1 := keepOnP q1 hbel
  replace qF := keepOnP qF hbel
  replace qB := keepOnP qB hbel
  replace hw := belStep hw hbel
  clear hbel
  generalize w1 = W1 at *
  have hbel : Below W1.heap.size W1 W1 := Below.refl _ _
  have HL := Lib.hid (hl.later hw)
  have HB := Lib.hid (hlb.later hw)
  clear hl hlb
  go_wp2
  go_loopw [9, 17] (fun c i wr => ∃ (k : Nat) (s t n : Int), k ≤ len ∧ i = .int .i64 k ∧ c = .int .i64 n ∧ runB lb r l k = (s, t, n) ∧ Below W1.heap.size W1 wr ∧ Blk wr W1.heap.size [.int .i64 s, .int .i64 t] 23) (fun _ i _ => len - (intOf i).toNat)
  case atStart => exact ⟨0, 1, 0, 0, Nat.zero_le _, rfl, rfl, rfl, belAlloc (Below.refl _ _) _, Blk.new W1 [.int .i64 1, .int .i64 0] _⟩
  case round =>
    obtain ⟨k, s, t, n, hk, rfl, rfl, hst, hbr, hblk⟩ := hrel
    have hq := runB_bd lb r l k
    rw [hst] at hq
    obtain ⟨hs, ht, hn⟩ := hq
    simp only at hs ht hn
    have c0 : ∀ v, Below wr.heap.size wr v → v.cell? ⟨W1.heap.size, 0, none⟩ = some (.int .i64 s) := keep (hblk.cell rfl)
    have c1 : ∀ v, Below wr.heap.size wr v → v.cell? ⟨W1.heap.size, 1, none⟩ = some (.int .i64 t) := keep (hblk.cell rfl)
    have hF := hblk.keepF
    by_cases hlt : k < len
    · obtain ⟨bb, off, rfl, _, hc⟩ := (HL.out.later hbr).opened (by omega)
      have x0 := keep (hc k hlt)
      have ik : InI (el l k) := HL.out.inI hlt
      obtain ⟨x, ex⟩ : ∃ x, el l k = x := ⟨_, rfl⟩
      obtain ⟨be, hbe⟩ : ∃ be, bl lb k = be := ⟨_, rfl⟩
      have hnext : runB lb r l (k + 1) = (doS s t x be r, doN s t x be r, n + (if toS s x = 0 then 0 else 1)) := by simp only [runB, hst, ex, hbe]
      rw [ex] at x0 ik
      have cs : ∀ v, Calls Try.prog 17 #[.agg #[.int .i64 s, .int .i64 t], .int .i64 x, .bool be, .int .i64 r] v fun e w' =>
        e = .returned (.tuple #[.agg #[.int .i64 (doS s t x be r), .int .i64 (doN s t x be r)], .int .i64 (doE s x)]) ∧ Below v.heap.size v w' := fun v => box_Do s t x be r v (by unfold InI; omega) (by unfold InI; omega) ik
      obtain ⟨s', es⟩ : ∃ y, doS s t x be r = y := ⟨_, rfl⟩
      obtain ⟨t', et⟩ : ∃ y, doN s t x be r = y := ⟨_, rfl⟩
      have key : (toS s x = 0 ∧ doE s x = 7) ∨ (toS s x ≠ 0 ∧ doE s x = 0) := by unfold doE; by_cases h : toS s x = 0 <;> simp [h]
      simp only [es, et] at cs hnext
      have HBR := Lib.hid hbr
      have HK := Lib.hid hblk
      have hbel : Below wr.heap.size wr wr := Below.refl _ _
      by_cases hkb : k < lenb
      · obtain ⟨bb2, off2, rfl, _, hc2⟩ := (HB.out.later hbr).opened (by omega)
        have y0 := keep (hc2 k hkb)
        rw [hbe] at y0
        have hd : decide (lenb ≤ k) = false := by simp; omega
        rcases key with ⟨hz, hE⟩ | ⟨hz, hE⟩
        all_goals
          simp only [hz, hE, if_true, if_false] at cs hnext
          have CS := Lib.hid cs
          have HN := Lib.hid hnext
          clear cs hnext hst hbr hblk hc hc2
          go_wp2
          (first | go_region_held3 (fun w' => w'.cell? ⟨W1.heap.size, 0, none⟩ = some (.int .i64 s) ∧ w'.cell? ⟨W1.heap.size, 1, none⟩ = some (.int .i64 t) ∧ w'.cell? ⟨bb, off + k, none⟩ = some (.int .i64 x) ∧ w'.cell? ⟨bb2, off2 + k, none⟩ = some (.bool be)) (first | exact ⟨c0 _ (by repeat (first | assumption | exact Below.refl _ _ | refine belAlloc ?_ _ | refine belDrew ?_ | refine belSet ?_ _ _ (by simp) | refine belStep ?_ (by assumption))), c1 _ (by repeat (first | assumption | exact Below.refl _ _ | refine belAlloc ?_ _ | refine belDrew ?_ | refine belSet ?_ _ _ (by simp) | refine belStep ?_ (by assumption))), x0 _ (by repeat (first | assumption | exact Below.refl _ _ | refine belAlloc ?_ _ | refine belDrew ?_ | refine belSet ?_ _ _ (by simp) | refine belStep ?_ (by assumption))), y0 _ (by repeat (first | assumption | exact Below.refl _ _ | refine belAlloc ?_ _ | refine belDrew ?_ | refine belSet ?_ _ _ (by simp) | refine belStep ?_ (by assumption)))⟩) (first | (go_at_call 17; refine (CS.out _).mono ?_; rintro e w1 ⟨rfl, hb1⟩; have hcc := Below.cells hb1; have hff := Below.frozens hb1)) | fail)
        all_goals
          clear HL HB x0 c0 c1 CS hcc hff
          try clear y0
          first
          | (have hb3 : Below wr.heap.size wr (w1.alloc (.cells #[.int .i64 s', .int .i64 t'] 23)) := belAlloc (belStep (belDrew hbel) hb1) _
             have n0 : (w1.alloc (.cells #[.int .i64 s', .int .i64 t'] 23)).cell? ⟨w1.heap.size, 0, none⟩ = some (.int .i64 s') := by simp
             have n1 : (w1.alloc (.cells #[.int .i64 s', .int .i64 t'] 23)).cell? ⟨w1.heap.size, 1, none⟩ = some (.int .i64 t') := by simp
             clear hb1
             generalize w1.alloc (.cells #[.int .i64 s', .int .i64 t'] 23) = W2 at *
             generalize w1.heap.size = M at *)
          | (have hb4 : Blk w1 wr.heap.size [.int .i64 0, .int .i64 0] 23 := (hb1.block wr.heap.size (by simp)).trans (Blk.at rfl : Blk (wr.alloc (.cells [.int .i64 0, .int .i64 0].toArray 23)) wr.heap.size [.int .i64 0, .int .i64 0] 23)
             have hb3 := belSet (belSet (belStep (belDrew (belAlloc hbel _)) hb1) ⟨wr.heap.size, 0, none⟩ (.int .i64 s') (by simp)) ⟨wr.heap.size, 1, none⟩ (.int .i64 t') (by simp)
             have hb5 := (hb4.set 0 (.int .i64 s')).set 1 (.int .i64 t')
             have n0 := hb5.cell (j := 0) rfl
             have n1 := hb5.cell (j := 1) rfl
             clear hb4 hb5 hb1
             generalize (w1.setCell ⟨wr.heap.size, 0, none⟩ (.int .i64 s')).setCell ⟨wr.heap.size, 1, none⟩ (.int .i64 t') = W2 at *
             generalize wr.heap.size = M at n0 n1 ⊢)
          have hblk := (HK.out.later hb3).keepB
          replace hbr := belStep HBR.out hb3
          replace hF := keepOnP hF hb3
          replace n0 := keep n0
          replace n1 := keep n1
          clear hbel HK HBR hb3
          have hbel : Below W2.heap.size W2 W2 := Below.refl _ _
          have hblt : W1.heap.size < W2.heap.size := (hblk _ hbel).lt
          go_wp2
          go_roundw
          case rel => exact ⟨k + 1, s', t', _, by omega, by push_cast; rfl, rfl, by simpa using HN.out, belSet (belSet hbr _ _ (Nat.le_refl _)) _ _ (Nat.le_refl _), ((hblk _ hbel).set 0 _).set 1 _⟩
          case measure => simp [intOf] <;> omega
      · obtain rfl : be = true := by rw [← hbe]; unfold bl; rw [List.getD_eq_getElem?_getD, List.getElem?_eq_none (by omega)]; rfl
        have hd : decide (lenb ≤ k) = true := by simp; omega
        obtain ⟨E, eE⟩ : ∃ y, doE s x = y := ⟨_, rfl⟩
        simp only [eE] at cs key
        have CS := Lib.hid cs
        clear cs hst hbr hblk hc
        go_wp2
        refine wp_region_held_drew (S := fun w' => w'.cell? ⟨W1.heap.size, 0, none⟩ = some (.int .i64 s) ∧ w'.cell? ⟨W1.heap.size, 1, none⟩ = some (.int .i64 t) ∧ w'.cell? ⟨bb, off + k, none⟩ = some (.int .i64 x)) (by kernel_rfl) (by first | exact ⟨c0 _ (by repeat (first | assumption | exact Below.refl _ _ | refine belAlloc ?_ _ | refine belDrew ?_ | refine belSet ?_ _ _ (by simp) | refine belStep ?_ (by assumption))), c1 _ (by repeat (first | assumption | exact Below.refl _ _ | refine belAlloc ?_ _ | refine belDrew ?_ | refine belSet ?_ _ _ (by simp) | refine belStep ?_ (by assumption))), x0 _ (by repeat (first | assumption | exact Below.refl _ _ | refine belAlloc ?_ _ | refine belDrew ?_ | refine belSet ?_ _ _ (by simp) | refine belStep ?_ (by assumption)))⟩) (fun hHeld => ?_)
        refine wpAnyH_take (i := 0) (oi := ?oi_1) (v := ?v_1) ?hi_1 (by kernel_rfl) ?hf_1 ?hr_1 ?hQ_1 (Or.inl ⟨?hw_1, ?hy_1⟩) (by assumption) ?rest_1
        case hi_1 => ((simp only [List.getElem?_toArray, List.getElem?_cons_succ, List.getElem?_cons_zero]); rfl)
        case hf_1 => kernel_rfl
        case hr_1 => kernel_rfl
        case hQ_1 => exact fun _ _ _ h => h
        case hw_1 => rfl
        case hy_1 => ((intro w hSw; (try dsimp only at hSw); go_simp); all_goals (with_reducible rfl))
        try simp only [Act.put, List.setIfInBounds_toArray, List.set_cons_zero, List.set_cons_succ]
        refine wpAnyH_take (i := 1) (oi := ?oi_2) (v := ?v_2) ?hi_2 (by kernel_rfl) ?hf_2 ?hr_2 ?hQ_2 (Or.inl ⟨?hw_2, ?hy_2⟩) (by assumption) ?rest_2
        case hi_2 => ((simp only [List.getElem?_toArray, List.getElem?_cons_succ, List.getElem?_cons_zero]); rfl)
        case hf_2 => kernel_rfl
        case hr_2 => kernel_rfl
        case hQ_2 => exact fun _ _ _ h => h
        case hw_2 => rfl
        case hy_2 => ((intro w hSw; (try dsimp only at hSw); go_simp); all_goals (with_reducible rfl))
        try simp only [Act.put, List.setIfInBounds_toArray, List.set_cons_zero, List.set_cons_succ]
        refine wpAnyH_take (i := 2) (oi := ?oi_3) (v := ?v_3) ?hi_3 (by kernel_rfl) ?hf_3 ?hr_3 ?hQ_3 (Or.inl ⟨?hw_3, ?hy_3⟩) (by assumption) ?rest_3
        case hi_3 => ((simp only [List.getElem?_toArray, List.getElem?_cons_succ, List.getElem?_cons_zero]); rfl)
        case hf_3 => kernel_rfl
        case hr_3 => kernel_rfl
        case hQ_3 => exact fun _ _ _ h => h
        case hw_3 => rfl
        case hy_3 => ((intro w hSw; (try dsimp only at hSw); go_simp); all_goals (with_reducible rfl))
        try simp only [Act.put, List.setIfInBounds_toArray, List.set_cons_zero, List.set_cons_succ]
        refine wpAnyH_take (i := 3) (oi := ?oi_4) (v := ?v_4) ?hi_4 (by kernel_rfl) ?hf_4 ?hr_4 ?hQ_4 (Or.inl ⟨?hw_4, ?hy_4⟩) (by assumption) ?rest_4
        case hi_4 => ((simp only [List.getElem?_toArray, List.getElem?_cons_succ, List.getElem?_cons_zero]); rfl)
        case hf_4 => kernel_rfl
        case hr_4 => kernel_rfl
        case hQ_4 => exact fun _ _ _ h => h
        case hw_4 => rfl
        case hy_4 => ((intro w hSw; (try dsimp only at hSw); go_simp); all_goals (with_reducible rfl))
        try simp only [Act.put, List.setIfInBounds_toArray, List.set_cons_zero, List.set_cons_succ]
        refine wpAnyH_take (i := 4) (oi := ?oi_5) (v := ?v_5) ?hi_5 (by kernel_rfl) ?hf_5 ?hr_5 ?hQ_5 (Or.inl ⟨?hw_5, ?hy_5⟩) (by assumption) ?rest_5
        case hi_5 => ((simp only [List.getElem?_toArray, List.getElem?_cons_succ, List.getElem?_cons_zero]); rfl)
        case hf_5 => kernel_rfl
        case hr_5 => kernel_rfl
        case hQ_5 => exact fun _ _ _ h => h
        case hw_5 => rfl
        case hy_5 => ((intro w hSw; (try dsimp only at hSw); go_simp); all_goals (with_reducible rfl))
        try simp only [Act.put, List.setIfInBounds_toArray, List.set_cons_zero, List.set_cons_succ]
        refine wpAnyH_take (i := 5) (oi := ?oi_6) (v := ?v_6) ?hi_6 (by kernel_rfl) ?hf_6 ?hr_6 ?hQ_6 (Or.inl ⟨?hw_6, ?hy_6⟩) (by assumption) ?rest_6
        case hi_6 => ((simp only [List.getElem?_toArray, List.getElem?_cons_succ, List.getElem?_cons_zero]); rfl)
        case hf_6 => kernel_rfl
        case hr_6 => kernel_rfl
        case hQ_6 => exact fun _ _ _ h => h
        case hw_6 => rfl
        case hy_6 => ((intro w hSw; (try dsimp only at hSw); go_simp); all_goals (with_reducible rfl))
        try simp only [Act.put, List.setIfInBounds_toArray, List.set_cons_zero, List.set_cons_succ]
        refine wpAnyH_take (i := 6) (oi := ?oi_7) (v := ?v_7) ?hi_7 (by kernel_rfl) ?hf_7 ?hr_7 ?hQ_7 (Or.inl ⟨?hw_7, ?hy_7⟩) (by assumption) ?rest_7
        case hi_7 => ((simp only [List.getElem?_toArray, List.getElem?_cons_succ, List.getElem?_cons_zero]); rfl)
        case hf_7 => kernel_rfl
        case hr_7 => kernel_rfl
        case hQ_7 => exact fun _ _ _ h => h
        case hw_7 => rfl
        case hy_7 => ((intro w hSw; (try dsimp only at hSw); go_simp); all_goals (with_reducible rfl))
        try simp only [Act.put, List.setIfInBounds_toArray, List.set_cons_zero, List.set_cons_succ]
        refine wpAnyH_take (i := 7) (oi := ?oi_8) (v := undef) ?hi_8 (by kernel_rfl) ?hf_8 ?hr_8 ?hQ_8 (Or.inr ⟨?hw_8, rfl⟩) (by assumption) ?rest_8
        case hi_8 => ((simp only [List.getElem?_toArray, List.getElem?_cons_succ, List.getElem?_cons_zero]); rfl)
        case hf_8 => kernel_rfl
        case hr_8 => kernel_rfl
        case hQ_8 => exact fun _ _ _ h => h
        case hw_8 => rfl
        try simp only [Act.put, List.setIfInBounds_toArray, List.set_cons_zero, List.set_cons_succ]
        refine wpAnyH_take (i := 8) (oi := ?oi_9) (v := undef) ?hi_9 (by kernel_rfl) ?hf_9 ?hr_9 ?hQ_9 (Or.inr ⟨?hw_9, rfl⟩) (by assumption) ?rest_9
        case hi_9 => ((simp only [List.getElem?_toArray, List.getElem?_cons_succ, List.getElem?_cons_zero]); rfl)
        case hf_9 => kernel_rfl
        case hr_9 => kernel_rfl
        case hQ_9 => exact fun _ _ _ h => h
        case hw_9 => rfl
        try simp only [Act.put, List.setIfInBounds_toArray, List.set_cons_zero, List.set_cons_succ]
        refine wpAnyH_take (i := 9) (oi := ?oi_10) (v := undef) ?hi_10 (by kernel_rfl) ?hf_10 ?hr_10 ?hQ_10 (Or.inr ⟨?hw_10, rfl⟩) (by assumption) ?rest_10
        case hi_10 => ((simp only [List.getElem?_toArray, List.getElem?_cons_succ, List.getElem?_cons_zero]); rfl)
        case hf_10 => kernel_rfl
        case hr_10 => kernel_rfl
        case hQ_10 => exact fun _ _ _ h => h
        case hw_10 => rfl
        try simp only [Act.put, List.setIfInBounds_toArray, List.set_cons_zero, List.set_cons_succ]
        refine wpAnyH_take (i := 10) (oi := ?oi_11) (v := undef) ?hi_11 (by kernel_rfl) ?hf_11 ?hr_11 ?hQ_11 (Or.inr ⟨?hw_11, rfl⟩) (by assumption) ?rest_11
        case hi_11 => ((simp only [List.getElem?_toArray, List.getElem?_cons_succ, List.getElem?_cons_zero]); rfl)
        case hf_11 => kernel_rfl
        case hr_11 => kernel_rfl
        case hQ_11 => exact fun _ _ _ h => h
        case hw_11 => rfl
        try simp only [Act.put, List.setIfInBounds_toArray, List.set_cons_zero, List.set_cons_succ]
        refine wpAnyH_take (i := 11) (oi := ?oi_12) (v := ?v_12) ?hi_12 (by kernel_rfl) ?hf_12 ?hr_12 ?hQ_12 (Or.inl ⟨?hw_12, ?hy_12⟩) (by assumption) ?rest_12
        case hi_12 => ((simp only [List.getElem?_toArray, List.getElem?_cons_succ, List.getElem?_cons_zero]); rfl)
        case hf_12 => kernel_rfl
        case hr_12 => kernel_rfl
        case hQ_12 => exact fun _ _ _ h => h
        case hw_12 => rfl
        case hy_12 => ((intro w hSw; (try dsimp only at hSw); go_simp); all_goals (with_reducible rfl))
        try simp only [Act.put, List.setIfInBounds_toArray, List.set_cons_zero, List.set_cons_succ]
        refine wpAnyH_take (i := 12) (oi := ?oi_13) (v := ?v_13) ?hi_13 (by kernel_rfl) ?hf_13 ?hr_13 ?hQ_13 (Or.inl ⟨?hw_13, ?hy_13⟩) (by assumption) ?rest_13
        case hi_13 => ((simp only [List.getElem?_toArray, List.getElem?_cons_succ, List.getElem?_cons_zero]); rfl)
        case hf_13 => kernel_rfl
        case hr_13 => kernel_rfl
        case hQ_13 => exact fun _ _ _ h => h
        case hw_13 => rfl
        case hy_13 => ((intro w hSw; (try dsimp only at hSw); go_simp); all_goals (with_reducible rfl))
        try simp only [Act.put, List.setIfInBounds_toArray, List.set_cons_zero, List.set_cons_succ]
        refine wpAnyH_ready (rs := [13, 17]) (by kernel_rfl) (by simp) ?_
        refine AllReadyH.cons (o := ?o1_14) ?hi_14 (fun K hK => ?ra_14) (AllReadyH.cons (o := ?o2_14) ?hi2_14 (fun K hK => ?rb_14) AllReadyH.nil)
        case hi_14 => ((simp only [List.getElem?_toArray, List.getElem?_cons_succ, List.getElem?_cons_zero]); rfl)
        case hi2_14 => ((simp only [List.getElem?_toArray, List.getElem?_cons_succ, List.getElem?_cons_zero]); rfl)
        go_simp
        (go_at_call 17; refine (CS.out _).mono ?_; rintro e w1 ⟨rfl, hb1⟩; have hcc := Below.cells hb1; have hff := Below.frozens hb1)
        try go_simp
        refine hK.out _ _ (by first | exact ⟨c0 _ (by repeat (first | assumption | exact Below.refl _ _ | refine belAlloc ?_ _ | refine belDrew ?_ | refine belSet ?_ _ _ (by simp) | refine belStep ?_ (by assumption))), c1 _ (by repeat (first | assumption | exact Below.refl _ _ | refine belAlloc ?_ _ | refine belDrew ?_ | refine belSet ?_ _ _ (by simp) | refine belStep ?_ (by assumption))), x0 _ (by repeat (first | assumption | exact Below.refl _ _ | refine belAlloc ?_ _ | refine belDrew ?_ | refine belSet ?_ _ _ (by simp) | refine belStep ?_ (by assumption)))⟩) (fun hHeld => ?_)
        clear hK K
        try simp only [Act.put, List.setIfInBounds_toArray, List.set_cons_zero, List.set_cons_succ]
        refine wpAnyH_take (i := 14) (oi := ?oi_15) (v := ?v_15) ?hi_15 (by kernel_rfl) ?hf_15 ?hr_15 ?hQ_15 (Or.inl ⟨?hw_15, ?hy_15⟩) (by assumption) ?rest_15
        case hi_15 => ((simp only [List.getElem?_toArray, List.getElem?_cons_succ, List.getElem?_cons_zero]); rfl)
        case hf_15 => kernel_rfl
        case hr_15 => kernel_rfl
        case hQ_15 => exact fun _ _ _ h => h
        case hw_15 => rfl
        case hy_15 => ((intro w hSw; (try dsimp only at hSw); go_simp); all_goals (with_reducible rfl))
        try simp only [Act.put, List.setIfInBounds_toArray, List.set_cons_zero, List.set_cons_succ]
        refine wpAnyH_take (i := 15) (oi := ?oi_16) (v := ?v_16) ?hi_16 (by kernel_rfl) ?hf_16 ?hr_16 ?hQ_16 (Or.inl ⟨?hw_16, ?hy_16⟩) (by assumption) ?rest_16
        case hi_16 => ((simp only [List.getElem?_toArray, List.getElem?_cons_succ, List.getElem?_cons_zero]); rfl)
        case hf_16 => kernel_rfl
        case hr_16 => kernel_rfl
        case hQ_16 => exact fun _ _ _ h => h
        case hw_16 => rfl
        case hy_16 => ((intro w hSw; (try dsimp only at hSw); go_simp); all_goals (with_reducible rfl))
        try simp only [Act.put, List.setIfInBounds_toArray, List.set_cons_zero, List.set_cons_succ]
        refine wpAnyH_take (i := 16) (oi := ?oi_17) (v := ?v_17) ?hi_17 (by kernel_rfl) ?hf_17 ?hr_17 ?hQ_17 (Or.inl ⟨?hw_17, ?hy_17⟩) (by assumption) ?rest_17
        case hi_17 => ((simp only [List.getElem?_toArray, List.getElem?_cons_succ, List.getElem?_cons_zero]); rfl)
        case hf_17 => kernel_rfl
        case hr_17 => kernel_rfl
        case hQ_17 => exact fun _ _ _ h => h
        case hw_17 => rfl
        case hy_17 => ((intro w hSw; (try dsimp only at hSw); go_simp); all_goals (with_reducible rfl))
        try simp only [Act.put, List.setIfInBounds_toArray, List.set_cons_zero, List.set_cons_succ]
        refine wpAnyH_ready (rs := [17]) (by kernel_rfl) (by simp) ?_
        refine AllReadyH.cons (o := ?o1_18) ?hi_18 (fun K hK => ?rest_18) AllReadyH.nil
        case hi_18 => ((simp only [List.getElem?_toArray, List.getElem?_cons_succ, List.getElem?_cons_zero]); rfl)
        go_simp
        refine hK.out _ _ (by first | exact ⟨c0 _ (by repeat (first | assumption | exact Below.refl _ _ | refine belAlloc ?_ _ | refine belDrew ?_ | refine belSet ?_ _ _ (by simp) | refine belStep ?_ (by assumption))), c1 _ (by repeat (first | assumption | exact Below.refl _ _ | refine belAlloc ?_ _ | refine belDrew ?_ | refine belSet ?_ _ _ (by simp) | refine belStep ?_ (by assumption))), x0 _ (by repeat (first | assumption | exact Below.refl _ _ | refine belAlloc ?_ _ | refine belDrew ?_ | refine belSet ?_ _ _ (by simp) | refine belStep ?_ (by assumption)))⟩) (fun hHeld => ?_)
        clear hK K
        try simp only [Act.put, List.setIfInBounds_toArray, List.set_cons_zero, List.set_cons_succ]
        refine wpAnyH_ready (rs := [18]) (by kernel_rfl) (by simp) ?_
        refine AllReadyH.cons (o := ?o1_19) ?hi_19 (fun K hK => ?rest_19) AllReadyH.nil
        case hi_19 => ((simp only [List.getElem?_toArray, List.getElem?_cons_succ, List.getElem?_cons_zero]); rfl)
        go_simp
        refine hK.out _ _ (by first | exact ⟨c0 _ (by repeat (first | assumption | exact Below.refl _ _ | refine belAlloc ?_ _ | refine belDrew ?_ | refine belSet ?_ _ _ (by simp) | refine belStep ?_ (by assumption))), c1 _ (by repeat (first | assumption | exact Below.refl _ _ | refine belAlloc ?_ _ | refine belDrew ?_ | refine belSet ?_ _ _ (by simp) | refine belStep ?_ (by assumption))), x0 _ (by repeat (first | assumption | exact Below.refl _ _ | refine belAlloc ?_ _ | refine belDrew ?_ | refine belSet ?_ _ _ (by simp) | refine belStep ?_ (by assumption)))⟩) (fun hHeld => ?_)
        clear hK K
        try simp only [Act.put, List.setIfInBounds_toArray, List.set_cons_zero, List.set_cons_succ]
        refine wpAnyH_ready (rs := [19]) (by kernel_rfl) (by simp) ?_
        refine AllReadyH.cons (o := ?o1_20) ?hi_20 (fun K hK => ?rest_20) AllReadyH.nil
        case hi_20 => ((simp only [List.getElem?_toArray, List.getElem?_cons_succ, List.getElem?_cons_zero]); rfl)
        go_simp
        refine hK.out _ _ (by first | exact ⟨c0 _ (by repeat (first | assumption | exact Below.refl _ _ | refine belAlloc ?_ _ | refine belDrew ?_ | refine belSet ?_ _ _ (by simp) | refine belStep ?_ (by assumption))), c1 _ (by repeat (first | assumption | exact Below.refl _ _ | refine belAlloc ?_ _ | refine belDrew ?_ | refine belSet ?_ _ _ (by simp) | refine belStep ?_ (by assumption))), x0 _ (by repeat (first | assumption | exact Below.refl _ _ | refine belAlloc ?_ _ | refine belDrew ?_ | refine belSet ?_ _ _ (by simp) | refine belStep ?_ (by assumption)))⟩) (fun hHeld => ?_)
        clear hK K
        try simp only [Act.put, List.setIfInBounds_toArray, List.set_cons_zero, List.set_cons_succ]
        refine wpAnyH_done (by kernel_rfl) ?_ _
        rotate_left 1
        go_simp
        refine hK.out _ _ (by first | exact ⟨c0 _ (by repeat (first | assumption | exact Below.refl _ _ | refine belAlloc ?_ _ | refine belDrew ?_ | refine belSet ?_ _ _ (by simp) | refine belStep ?_ (by assumption))), c1 _ (by repeat (first | assumption | exact Below.refl _ _ | refine belAlloc ?_ _ | refine belDrew ?_ | refine belSet ?_ _ _ (by simp) | refine belStep ?_ (by assumption))), x0 _ (by repeat (first | assumption | exact Below.refl _ _ | refine belAlloc ?_ _ | refine belDrew ?_ | refine belSet ?_ _ _ (by simp) | refine belStep ?_ (by assumption)))⟩) (fun hHeld => ?_)
        clear hK K
        try simp only [Act.put, List.setIfInBounds_toArray, List.set_cons_zero, List.set_cons_succ]
        refine wpAnyH_ready (rs := [13]) (by kernel_rfl) (by simp) ?_
        refine AllReadyH.cons (o := ?o1_21) ?hi_21 (fun K hK => ?rest_21) AllReadyH.nil
        case hi_21 => ((simp only [List.getElem?_toArray, List.getElem?_cons_succ, List.getElem?_cons_zero]); rfl)
        go_simp
        (go_at_call 17; refine (CS.out _).mono ?_; rintro e w1 ⟨rfl, hb1⟩; have hcc := Below.cells hb1; have hff := Below.frozens hb1)
        try go_simp
        refine hK.out _ _ (by first | exact ⟨c0 _ (by repeat (first | assumption | exact Below.refl _ _ | refine belAlloc ?_ _ | refine belDrew ?_ | refine belSet ?_ _ _ (by simp) | refine belStep ?_ (by assumption))), c1 _ (by repeat (first | assumption | exact Below.refl _ _ | refine belAlloc ?_ _ | refine belDrew ?_ | refine belSet ?_ _ _ (by simp) | refine belStep ?_ (by assumption))), x0 _ (by repeat (first | assumption | exact Below.refl _ _ | refine belAlloc ?_ _ | refine belDrew ?_ | refine belSet ?_ _ _ (by simp) | refine belStep ?_ (by assumption)))⟩) (fun hHeld => ?_)
        clear hK K
        try simp only [Act.put, List.setIfInBounds_toArray, List.set_cons_zero, List.set_cons_succ]
        refine wpAnyH_take (i := 14) (oi := ?oi_22) (v := ?v_22) ?hi_22 (by kernel_rfl) ?hf_22 ?hr_22 ?hQ_22 (Or.inl ⟨?hw_22, ?hy_22⟩) (by assumption) ?rest_22
        case hi_22 => ((simp only [List.getElem?_toArray, List.getElem?_cons_succ, List.getElem?_cons_zero]); rfl)
        case hf_22 => kernel_rfl
        case hr_22 => kernel_rfl
        case hQ_22 => exact fun _ _ _ h => h
        case hw_22 => rfl
        case hy_22 => ((intro w hSw; (try dsimp only at hSw); go_simp); all_goals (with_reducible rfl))
        try simp only [Act.put, List.setIfInBounds_toArray, List.set_cons_zero, List.set_cons_succ]
        refine wpAnyH_take (i := 15) (oi := ?oi_23) (v := ?v_23) ?hi_23 (by kernel_rfl) ?hf_23 ?hr_23 ?hQ_23 (Or.inl ⟨?hw_23, ?hy_23⟩) (by assumption) ?rest_23
        case hi_23 => ((simp only [List.getElem?_toArray, List.getElem?_cons_succ, List.getElem?_cons_zero]); rfl)
        case hf_23 => kernel_rfl
        case hr_23 => kernel_rfl
        case hQ_23 => exact fun _ _ _ h => h
        case hw_23 => rfl
        case hy_23 => ((intro w hSw; (try dsimp only at hSw); go_simp); all_goals (with_reducible rfl))
        try simp only [Act.put, List.setIfInBounds_toArray, List.set_cons_zero, List.set_cons_succ]
        refine wpAnyH_take (i := 16) (oi := ?oi_24) (v := ?v_24) ?hi_24 (by kernel_rfl) ?hf_24 ?hr_24 ?hQ_24 (Or.inl ⟨?hw_24, ?hy_24⟩) (by assumption) ?rest_24
        case hi_24 => ((simp only [List.getElem?_toArray, List.getElem?_cons_succ, List.getElem?_cons_zero]); rfl)
        case hf_24 => kernel_rfl
        case hr_24 => kernel_rfl
        case hQ_24 => exact fun _ _ _ h => h
        case hw_24 => rfl
        case hy_24 => ((intro w hSw; (try dsimp only at hSw); go_simp); all_goals (with_reducible rfl))
        try simp only [Act.put, List.setIfInBounds_toArray, List.set_cons_zero, List.set_cons_succ]
        refine wpAnyH_ready (rs := [18]) (by kernel_rfl) (by simp) ?_
        refine AllReadyH.cons (o := ?o1_25) ?hi_25 (fun K hK => ?rest_25) AllReadyH.nil
        case hi_25 => ((simp only [List.getElem?_toArray, List.getElem?_cons_succ, List.getElem?_cons_zero]); rfl)
        go_simp
        refine hK.out _ _ (by first | exact ⟨c0 _ (by repeat (first | assumption | exact Below.refl _ _ | refine belAlloc ?_ _ | refine belDrew ?_ | refine belSet ?_ _ _ (by simp) | refine belStep ?_ (by assumption))), c1 _ (by repeat (first | assumption | exact Below.refl _ _ | refine belAlloc ?_ _ | refine belDrew ?_ | refine belSet ?_ _ _ (by simp) | refine belStep ?_ (by assumption))), x0 _ (by repeat (first | assumption | exact Below.refl _ _ | refine belAlloc ?_ _ | refine belDrew ?_ | refine belSet ?_ _ _ (by simp) | refine belStep ?_ (by assumption)))⟩) (fun hHeld => ?_)
        clear hK K
        try simp only [Act.put, List.setIfInBounds_toArray, List.set_cons_zero, List.set_cons_succ]
        refine wpAnyH_ready (rs := [19]) (by kernel_rfl) (by simp) ?_
        refine AllReadyH.cons (o := ?o1_26) ?hi_26 (fun K hK => ?rest_26) AllReadyH.nil
        case hi_26 => ((simp only [List.getElem?_toArray, List.getElem?_cons_succ, List.getElem?_cons_zero]); rfl)
        go_simp
        refine hK.out _ _ (by first | exact ⟨c0 _ (by repeat (first | assumption | exact Below.refl _ _ | refine belAlloc ?_ _ | refine belDrew ?_ | refine belSet ?_ _ _ (by simp) | refine belStep ?_ (by assumption))), c1 _ (by repeat (first | assumption | exact Below.refl _ _ | refine belAlloc ?_ _ | refine belDrew ?_ | refine belSet ?_ _ _ (by simp) | refine belStep ?_ (by assumption))), x0 _ (by repeat (first | assumption | exact Below.refl _ _ | refine belAlloc ?_ _ | refine belDrew ?_ | refine belSet ?_ _ _ (by simp) | refine belStep ?_ (by assumption)))⟩) (fun hHeld => ?_)
        clear hK K
        try simp only [Act.put, List.setIfInBounds_toArray, List.set_cons_zero, List.set_cons_succ]
        refine wpAnyH_done (by kernel_rfl) ?_ _
        all_goals
          rcases key with ⟨hz, hE⟩ | ⟨hz, hE⟩
        all_goals
          simp only [hz, if_true, if_false] at hnext
          have HN := Lib.hid hnext
          clear hnext
          subst hE
        all_goals
          clear HL HB x0 c0 c1 CS hcc hff
          try clear y0
          first
          | (have hb3 : Below wr.heap.size wr (w1.alloc (.cells #[.int .i64 s', .int .i64 t'] 23)) := belAlloc (belStep (belDrew hbel) hb1) _
             have n0 : (w1.alloc (.cells #[.int .i64 s', .int .i64 t'] 23)).cell? ⟨w1.heap.size, 0, none⟩ = some (.int .i64 s') := by simp
             have n1 : (w1.alloc (.cells #[.int .i64 s', .int .i64 t'] 23)).cell? ⟨w1.heap.size, 1, none⟩ = some (.int .i64 t') := by simp
             clear hb1
             generalize w1.alloc (.cells #[.int .i64 s', .int .i64 t'] 23) = W2 at *
             generalize w1.heap.size = M at *)
          | (have hb4 : Blk w1 wr.heap.size [.int .i64 0, .int .i64 0] 23 := (hb1.block wr.heap.size (by simp)).trans (Blk.at rfl : Blk (wr.alloc (.cells [.int .i64 0, .int .i64 0].toArray 23)) wr.heap.size [.int .i64 0, .int .i64 0] 23)
             have hb3 := belSet (belSet (belStep (belDrew (belAlloc hbel _)) hb1) ⟨wr.heap.size, 0, none⟩ (.int .i64 s') (by simp)) ⟨wr.heap.size, 1, none⟩ (.int .i64 t') (by simp)
             have hb5 := (hb4.set 0 (.int .i64 s')).set 1 (.int .i64 t')
             have n0 := hb5.cell (j := 0) rfl
             have n1 := hb5.cell (j := 1) rfl
             clear hb4 hb5 hb1
             generalize (w1.setCell ⟨wr.heap.size, 0, none⟩ (.int .i64 s')).setCell ⟨wr.heap.size, 1, none⟩ (.int .i64 t') = W2 at *
             generalize wr.heap.size = M at n0 n1 ⊢)
          have hblk := (HK.out.later hb3).keepB
          replace hbr := belStep HBR.out hb3
          replace hF := keepOnP hF hb3
          replace n0 := keep n0
          replace n1 := keep n1
          clear hbel HK HBR hb3
          have hbel : Below W2.heap.size W2 W2 := Below.refl _ _
          have hblt : W1.heap.size < W2.heap.size := (hblk _ hbel).lt
          go_wp2
          go_roundw
          case rel => exact ⟨k + 1, s', t', _, by omega, by push_cast; rfl, rfl, by simpa using HN.out, belSet (belSet hbr _ _ (Nat.le_refl _)) _ _ (Nat.le_refl _), ((hblk _ hbel).set 0 _).set 1 _⟩
          case measure => simp [intOf] <;> omega
    · obtain rfl : k = len := by omega
      replace qF := keepOnP qF hbr
      have hbel : Below wr.heap.size wr wr := Below.refl _ _
      replace hw := belStep hw hbr
      have hlt0 : w.heap.size < wr.heap.size := Nat.lt_of_lt_of_le (qB _ (Below.refl _ _)).lt hbr.size
      have hqb := ((qB _ (Below.refl _ _)).later hbr)
      go_wp2
      have g0 := ((hqb.set 0 (.int .i64 s)).set 1 (.int .i64 t)).cell (j := 0) rfl
      have g1 := ((hqb.set 0 (.int .i64 s)).set 1 (.int .i64 t)).cell (j := 1) rfl
      simp [bodyPost, results, Try.results22, go_sem, g0, g1, hst]
      exact Below.setCell (Below.setCell hw (Nat.le_refl _) _) (Nat.le_refl _) _
end Go.Proofs.Ythhpkmpaldcloaa
