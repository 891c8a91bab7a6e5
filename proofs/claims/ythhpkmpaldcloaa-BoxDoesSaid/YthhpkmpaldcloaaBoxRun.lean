/- box.Run's contract. -/
import Derived.Test.YthhpkmpaldcloaaBox
import Derived.Test.YthhpkmpaldcloaaRead
namespace Go.Proofs.Ythhpkmpaldcloaa
open Go.RowKit
set_option linter.unusedVariables false

/-- The container, and how often it might be asked, behind the first i that are asked. -/
def runB (lb : List Bool) (r : Int) (l : List Int) : Nat → Int × Int × Int
  | 0 => (1, 0, 0)
  | i + 1 => (doS (runB lb r l i).1 (runB lb r l i).2.1 (el l i) (bl lb i) r, doN (runB lb r l i).1 (runB lb r l i).2.1 (el l i) (bl lb i) r, (runB lb r l i).2.2 + (if toS (runB lb r l i).1 (el l i) = 0 then 0 else 1))

theorem doS_bd {s t k : Int} {b : Bool} {r : Int} (h : 1 ≤ s ∧ s ≤ 6) : 1 ≤ doS s t k b r ∧ doS s t k b r ≤ 6 := by
  have := toS_bd s k
  unfold doS failS
  repeat (split <;> try omega)
theorem doN_bd {s t k : Int} {b : Bool} {r : Int} (h : 0 ≤ t ∧ t ≤ 9223372036854775807) : 0 ≤ doN s t k b r ∧ doN s t k b r ≤ 9223372036854775807 := by
  have := satAdd_bd t 1
  unfold doN
  repeat (split <;> try omega)
theorem runB_bd (lb : List Bool) (r : Int) (l : List Int) (i : Nat) : (1 ≤ (runB lb r l i).1 ∧ (runB lb r l i).1 ≤ 6) ∧ (0 ≤ (runB lb r l i).2.1 ∧ (runB lb r l i).2.1 ≤ 9223372036854775807) ∧ 0 ≤ (runB lb r l i).2.2 ∧ (runB lb r l i).2.2 ≤ i := by
  induction i with
  | zero => simp [runB]
  | succ i ih =>
    obtain ⟨h1, h2, h3⟩ := ih
    have e : (runB lb r l (i + 1)).2.2 = (runB lb r l i).2.2 + (if toS (runB lb r l i).1 (el l i) = 0 then 0 else 1) := rfl
    refine ⟨doS_bd h1, doN_bd (r := r) h2, ?_⟩
    rw [e]
    split <;> omega

set_option maxRecDepth 100000 in
set_option maxHeartbeats 4000000 in
theorem box_Run (a : Option Addr) (len cap : Nat) (l : List Int) (b : Option Addr) (lenb capb : Nat) (lb : List Bool) (r : Int) (w : World) (hl : Ints .i64 w a len cap l) (hlb : Bools w b lenb capb lb) :
    Calls Try.prog 22 #[.slice a len cap, .slice b lenb capb, .int .i64 r] w fun e w' =>
      e = .returned (.tuple #[.agg #[.int .i64 (runB lb r l len).1, .int .i64 (runB lb r l len).2.1], .int .i64 (runB lb r l len).2.2]) ∧ Below w.heap.size w w' := by
  have hw : Below w.heap.size w w := Below.refl _ _
  have hbel := hw
  have hbd := hl.bounds
  have hbd2 := hlb.bounds
  go_enter Try.func22, Try.ntmps22
  go_upto_region 1 with fail
  have q0 : (w.alloc (.cells #[.int .i64 0, .int .i64 0] 23)).cell? ⟨w.heap.size, 0, none⟩ = some (.int .i64 0) := by first | (simp; done) | (rw [World.cell?_alloc_at _ _ _ _ (by simp)]; rfl) | (rw [World.cell?_alloc_past _ _ _ (by simp <;> omega), World.cell?_alloc_at _ _ _ _ (by simp)]; rfl) | (rw [World.cell?_alloc_past _ _ _ (by simp <;> omega), World.cell?_alloc_past _ _ _ (by simp <;> omega), World.cell?_alloc_at _ _ _ _ (by simp)]; rfl)
  have q1 : (w.alloc (.cells #[.int .i64 0, .int .i64 0] 23)).cell? ⟨w.heap.size, 1, none⟩ = some (.int .i64 0) := by first | (simp; done) | (rw [World.cell?_alloc_at _ _ _ _ (by simp)]; rfl) | (rw [World.cell?_alloc_past _ _ _ (by simp <;> omega), World.cell?_alloc_at _ _ _ _ (by simp)]; rfl) | (rw [World.cell?_alloc_past _ _ _ (by simp <;> omega), World.cell?_alloc_past _ _ _ (by simp <;> omega), World.cell?_alloc_at _ _ _ _ (by simp)]; rfl)
  have hb2 := (by repeat (first | exact hbel | refine belAlloc ?_ _ | refine belDrew ?_ | refine belSet ?_ _ _ (by simp)) : Below w.heap.size w (w.alloc (.cells #[.int .i64 0, .int .i64 0] 23)))
  replace hw := belStep hw hb2
  have qB : Blk (w.alloc (.cells #[.int .i64 0, .int .i64 0] 23)) (w.heap.size) [.int .i64 0, .int .i64 0] 23 := (Blk.at (by simp) : Blk (w.alloc (.cells #[.int .i64 0, .int .i64 0] 23)) (w.heap.size) [.int .i64 0, .int .i64 0] 23).later (by repeat (first | exact Below.refl _ _ | refine belAlloc ?_ _))
  have qF := Blk.keepF qB
  replace qB := Blk.keepB qB
  clear hb2 hbel
  generalize w.alloc (.cells #[.int .i64 0, .int .i64 0] 23) = W0 at *
  replace q0 := keep q0
  replace q1 := keep q1
  have hbel : Below W0.heap.size W0 W0 := Below.refl _ _
  skip
  go_upto_region 2 with (first | (go_at_call 23; refine (box_New _).mono ?_; rintro e w1 ⟨rfl, hb1⟩; replace hbel := belStep hbel hb1; clear hb1))
  replace q0 := keepOnP q0 hbel
  replace q1 := keepOnP q1 hbel
  replace qF := keepOnP qF hbel
  replace qB := keepOnP qB hbel
  replace hw := belStep hw hbel
  clear hbel
  generalize w1 = W1 at *
  have hbel : Below W1.heap.size W1 W1 := Below.refl _ _
  have HL := Lib.hid (hl.later hw)
  have HB := Lib.hid (hlb.later hw)
  clear hl hlb
  go_wp2
  go_loopw [9, 17] (fun c i wr => ∃ (k : Nat) (s t n : Int), k ≤ len ∧ i = .int .i64 k ∧ c = .int .i64 n ∧ runB lb r l k = (s, t, n) ∧ Below W1.heap.size W1 wr ∧ Blk wr W1.heap.size [.int .i64 s, .int .i64 t] 23) (fun _ i _ => len - (intOf i).toNat)
  case atStart => exact ⟨0, 1, 0, 0, Nat.zero_le _, rfl, rfl, rfl, belAlloc (Below.refl _ _) _, Blk.new W1 [.int .i64 1, .int .i64 0] _⟩
  case round =>
    obtain ⟨k, s, t, n, hk, rfl, rfl, hst, hbr, hblk⟩ := hrel
    have hq := runB_bd lb r l k
    rw [hst] at hq
    obtain ⟨hs, ht, hn⟩ := hq
    simp only at hs ht hn
    have c0 : ∀ v, Below wr.heap.size wr v → v.cell? ⟨W1.heap.size, 0, none⟩ = some (.int .i64 s) := keep (hblk.cell rfl)
    have c1 : ∀ v, Below wr.heap.size wr v → v.cell? ⟨W1.heap.size, 1, none⟩ = some (.int .i64 t) := keep (hblk.cell rfl)
    have hF := hblk.keepF
    by_cases hlt : k < len
    · obtain ⟨bb, off, rfl, _, hc⟩ := (HL.out.later hbr).opened (by omega)
      have x0 := keep (hc k hlt)
      have ik : InI (el l k) := HL.out.inI hlt
      obtain ⟨x, ex⟩ : ∃ x, el l k = x := ⟨_, rfl⟩
      obtain ⟨be, hbe⟩ : ∃ be, bl lb k = be := ⟨_, rfl⟩
      have hnext : runB lb r l (k + 1) = (doS s t x be r, doN s t x be r, n + (if toS s x = 0 then 0 else 1)) := by simp only [runB, hst, ex, hbe]
      rw [ex] at x0 ik
      have cs : ∀ v, Calls Try.prog 17 #[.agg #[.int .i64 s, .int .i64 t], .int .i64 x, .bool be, .int .i64 r] v fun e w' =>
        e = .returned (.tuple #[.agg #[.int .i64 (doS s t x be r), .int .i64 (doN s t x be r)], .int .i64 (doE s x)]) ∧ Below v.heap.size v w' := fun v => box_Do s t x be r v (by unfold InI; omega) (by unfold InI; omega) ik
      obtain ⟨s', es⟩ : ∃ y, doS s t x be r = y := ⟨_, rfl⟩
      obtain ⟨t', et⟩ : ∃ y, doN s t x be r = y := ⟨_, rfl⟩
      have key : (toS s x = 0 ∧ doE s x = 7) ∨ (toS s x ≠ 0 ∧ doE s x = 0) := by unfold doE; by_cases h : toS s x = 0 <;> simp [h]
      simp only [es, et] at cs hnext
      have HBR := Lib.hid hbr
      have HK := Lib.hid hblk
      have hbel : Below wr.heap.size wr wr := Below.refl _ _
      by_cases hkb : k < lenb
      · obtain ⟨bb2, off2, rfl, _, hc2⟩ := (HB.out.later hbr).opened (by omega)
        have y0 := keep (hc2 k hkb)
        rw [hbe] at y0
        have hd : decide (lenb ≤ k) = false := by simp; omega
        rcases key with ⟨hz, hE⟩ | ⟨hz, hE⟩
        all_goals
          simp only [hz, hE, if_true, if_false] at cs hnext
          have CS := Lib.hid cs
          have HN := Lib.hid hnext
          clear cs hnext hst hbr hblk hc hc2
          go_wp2
          (first | go_region_held3 (fun w' => w'.cell? ⟨W1.heap.size, 0, none⟩ = some (.int .i64 s) ∧ w'.cell? ⟨W1.heap.size, 1, none⟩ = some (.int .i64 t) ∧ w'.cell? ⟨bb, off + k, none⟩ = some (.int .i64 x) ∧ w'.cell? ⟨bb2, off2 + k, none⟩ = some (.bool be)) (first | exact ⟨c0 _ (by repeat (first | assumption | exact Below.refl _ _ | refine belAlloc ?_ _ | refine belDrew ?_ | refine belSet ?_ _ _ (by simp) | refine belStep ?_ (by assumption))), c1 _ (by repeat (first | assumption | exact Below.refl _ _ | refine belAlloc ?_ _ | refine belDrew ?_ | refine belSet ?_ _ _ (by simp) | refine belStep ?_ (by assumption))), x0 _ (by repeat (first | assumption | exact Below.refl _ _ | refine belAlloc ?_ _ | refine belDrew ?_ | refine belSet ?_ _ _ (by simp) | refine belStep ?_ (by assumption))), y0 _ (by repeat (first | assumption | exact Below.refl _ _ | refine belAlloc ?_ _ | refine belDrew ?_ | refine belSet ?_ _ _ (by simp) | refine belStep ?_ (by assumption)))⟩) (first | (go_at_call 17; refine (CS.out _).mono ?_; rintro e w1 ⟨rfl, hb1⟩; have hcc := Below.cells hb1; have hff := Below.frozens hb1)) | fail)
        all_goals
          clear HL HB x0 c0 c1 CS hcc hff
          try clear y0
          first
          | (have hb3 : Below wr.heap.size wr (w1.alloc (.cells #[.int .i64 s', .int .i64 t'] 23)) := belAlloc (belStep (belDrew hbel) hb1) _
             have n0 : (w1.alloc (.cells #[.int .i64 s', .int .i64 t'] 23)).cell? ⟨w1.heap.size, 0, none⟩ = some (.int .i64 s') := by simp
             have n1 : (w1.alloc (.cells #[.int .i64 s', .int .i64 t'] 23)).cell? ⟨w1.heap.size, 1, none⟩ = some (.int .i64 t') := by simp
             clear hb1
             generalize w1.alloc (.cells #[.int .i64 s', .int .i64 t'] 23) = W2 at *
             generalize w1.heap.size = M at *)
          | (have hb4 : Blk w1 wr.heap.size [.int .i64 0, .int .i64 0] 23 := (hb1.block wr.heap.size (by simp)).trans (Blk.at rfl : Blk (wr.alloc (.cells [.int .i64 0, .int .i64 0].toArray 23)) wr.heap.size [.int .i64 0, .int .i64 0] 23)
             have hb3 := belSet (belSet (belStep (belDrew (belAlloc hbel _)) hb1) ⟨wr.heap.size, 0, none⟩ (.int .i64 s') (by simp)) ⟨wr.heap.size, 1, none⟩ (.int .i64 t') (by simp)
             have hb5 := (hb4.set 0 (.int .i64 s')).set 1 (.int .i64 t')
             have n0 := hb5.cell (j := 0) rfl
             have n1 := hb5.cell (j := 1) rfl
             clear hb4 hb5 hb1
             generalize (w1.setCell ⟨wr.heap.size, 0, none⟩ (.int .i64 s')).setCell ⟨wr.heap.size, 1, none⟩ (.int .i64 t') = W2 at *
             generalize wr.heap.size = M at n0 n1 ⊢)
          have hblk := (HK.out.later hb3).keepB
          replace hbr := belStep HBR.out hb3
          replace hF := keepOnP hF hb3
          replace n0 := keep n0
          replace n1 := keep n1
          clear hbel HK HBR hb3
          have hbel : Below W2.heap.size W2 W2 := Below.refl _ _
          have hblt : W1.heap.size < W2.heap.size := (hblk _ hbel).lt
          go_wp2
          go_roundw
          case rel => exact ⟨k + 1, s', t', _, by omega, by push_cast; rfl, rfl, by simpa using HN.out, belSet (belSet hbr _ _ (Nat.le_refl _)) _ _ (Nat.le_refl _), ((hblk _ hbel).set 0 _).set 1 _⟩
          case measure => simp [intOf] <;> omega
      · obtain rfl : be = true := by rw [← hbe]; unfold bl; rw [List.getD_eq_getElem?_getD, List.getElem?_eq_none (by omega)]; rfl
        have hd : decide (lenb ≤ k) = true := by simp; omega
        rcases key with ⟨hz, hE⟩ | ⟨hz, hE⟩
        all_goals
          simp only [hz, hE, if_true, if_false] at cs hnext
          have CS := Lib.hid cs
          have HN := Lib.hid hnext
          clear cs hnext hst hbr hblk hc
          go_wp2
          (first | go_region_held3 (fun w' => w'.cell? ⟨W1.heap.size, 0, none⟩ = some (.int .i64 s) ∧ w'.cell? ⟨W1.heap.size, 1, none⟩ = some (.int .i64 t) ∧ w'.cell? ⟨bb, off + k, none⟩ = some (.int .i64 x)) (first | exact ⟨c0 _ (by repeat (first | assumption | exact Below.refl _ _ | refine belAlloc ?_ _ | refine belDrew ?_ | refine belSet ?_ _ _ (by simp) | refine belStep ?_ (by assumption))), c1 _ (by repeat (first | assumption | exact Below.refl _ _ | refine belAlloc ?_ _ | refine belDrew ?_ | refine belSet ?_ _ _ (by simp) | refine belStep ?_ (by assumption))), x0 _ (by repeat (first | assumption | exact Below.refl _ _ | refine belAlloc ?_ _ | refine belDrew ?_ | refine belSet ?_ _ _ (by simp) | refine belStep ?_ (by assumption)))⟩) (first | (go_at_call 17; refine (CS.out _).mono ?_; rintro e w1 ⟨rfl, hb1⟩; have hcc := Below.cells hb1; have hff := Below.frozens hb1)) | fail)
        all_goals
          clear HL HB x0 c0 c1 CS hcc hff
          try clear y0
          first
          | (have hb3 : Below wr.heap.size wr (w1.alloc (.cells #[.int .i64 s', .int .i64 t'] 23)) := belAlloc (belStep (belDrew hbel) hb1) _
             have n0 : (w1.alloc (.cells #[.int .i64 s', .int .i64 t'] 23)).cell? ⟨w1.heap.size, 0, none⟩ = some (.int .i64 s') := by simp
             have n1 : (w1.alloc (.cells #[.int .i64 s', .int .i64 t'] 23)).cell? ⟨w1.heap.size, 1, none⟩ = some (.int .i64 t') := by simp
             clear hb1
             generalize w1.alloc (.cells #[.int .i64 s', .int .i64 t'] 23) = W2 at *
             generalize w1.heap.size = M at *)
          | (have hb4 : Blk w1 wr.heap.size [.int .i64 0, .int .i64 0] 23 := (hb1.block wr.heap.size (by simp)).trans (Blk.at rfl : Blk (wr.alloc (.cells [.int .i64 0, .int .i64 0].toArray 23)) wr.heap.size [.int .i64 0, .int .i64 0] 23)
             have hb3 := belSet (belSet (belStep (belDrew (belAlloc hbel _)) hb1) ⟨wr.heap.size, 0, none⟩ (.int .i64 s') (by simp)) ⟨wr.heap.size, 1, none⟩ (.int .i64 t') (by simp)
             have hb5 := (hb4.set 0 (.int .i64 s')).set 1 (.int .i64 t')
             have n0 := hb5.cell (j := 0) rfl
             have n1 := hb5.cell (j := 1) rfl
             clear hb4 hb5 hb1
             generalize (w1.setCell ⟨wr.heap.size, 0, none⟩ (.int .i64 s')).setCell ⟨wr.heap.size, 1, none⟩ (.int .i64 t') = W2 at *
             generalize wr.heap.size = M at n0 n1 ⊢)
          have hblk := (HK.out.later hb3).keepB
          replace hbr := belStep HBR.out hb3
          replace hF := keepOnP hF hb3
          replace n0 := keep n0
          replace n1 := keep n1
          clear hbel HK HBR hb3
          have hbel : Below W2.heap.size W2 W2 := Below.refl _ _
          have hblt : W1.heap.size < W2.heap.size := (hblk _ hbel).lt
          go_wp2
          go_roundw
          case rel => exact ⟨k + 1, s', t', _, by omega, by push_cast; rfl, rfl, by simpa using HN.out, belSet (belSet hbr _ _ (Nat.le_refl _)) _ _ (Nat.le_refl _), ((hblk _ hbel).set 0 _).set 1 _⟩
          case measure => simp [intOf] <;> omega
    · obtain rfl : k = len := by omega
      replace qF := keepOnP qF hbr
      have hbel : Below wr.heap.size wr wr := Below.refl _ _
      replace hw := belStep hw hbr
      have hlt0 : w.heap.size < wr.heap.size := Nat.lt_of_lt_of_le (qB _ (Below.refl _ _)).lt hbr.size
      have hqb := ((qB _ (Below.refl _ _)).later hbr)
      go_wp2
      have g0 := ((hqb.set 0 (.int .i64 s)).set 1 (.int .i64 t)).cell (j := 0) rfl
      have g1 := ((hqb.set 0 (.int .i64 s)).set 1 (.int .i64 t)).cell (j := 1) rfl
      simp [bodyPost, results, Try.results22, go_sem, g0, g1, hst]
      exact Below.setCell (Below.setCell hw (Nat.le_refl _) _) (Nat.le_refl _) _
end Go.Proofs.Ythhpkmpaldcloaa
