/- ThreshShares holds for every percent, capacity, more and available. No conditions but that the library's variables lie as its own text lays them. -/
import Derived.Test.YtiaemcejgjobiaaDoorAwake06
import Derived.Test.YtiaemcejgjobiaaDoorThrCard
namespace Go.Proofs.YtiaemcejgjobiaaDoor.threshShares
open Go.ChangeShapes Go.WideShapes Go.ChangeAt Go.RowKit
open Go.ChangeMaps (open_string shut_string)
set_option linter.unusedVariables false
set_option linter.unusedSimpArgs false

theorem met_pct (q c x : Int) (v : World) (hq : 1 ≤ q ∧ q ≤ 100) (hc : 0 ≤ c ∧ c ≤ 9223372036854775807) (hx : 0 ≤ x ∧ x ≤ 9223372036854775807) : Calls Tryd.prog 30 #[.agg #[.int .i64 0, .int .i64 q, .int .i64 0, .bool false, .int .i64 0], .int .i64 c, .int .i64 x] v fun e w' => e = .returned (.bool (decide (x * 100 < c * q))) ∧ Below v.heap.size v w' := by
  have h := thr_Met ⟨0, q, 0, false, 0⟩ c x v ⟨by unfold InI; dsimp only; omega, by unfold InI; dsimp only; omega, by unfold InI; dsimp only; omega, by unfold InI; dsimp only; omega⟩ (by unfold InI; omega) (by unfold InI; omega)
  unfold metF satNum at h
  simp only at h
  rw [if_pos (by omega), Int.max_eq_left hx.1, Int.max_eq_left hc.1, Int.max_eq_left (show 0 ≤ q by omega)] at h
  exact h

set_option maxRecDepth 100000 in
set_option maxHeartbeats 4000000 in
theorem walk (p c m x : Int) (W : World) (ht : Env W) (hp : 0 ≤ p ∧ p ≤ 255) (hc : 0 ≤ c ∧ c ≤ 4294967295) (hm : 0 ≤ m ∧ m ≤ 4294967295) (hx : 0 ≤ x ∧ x ≤ 4294967295) : Calls Tryd.prog 10 #[.int .u8 p, .int .u32 c, .int .u32 m, .int .u32 x] W fun e w' => e = .returned (.bool true) ∧ Below W.heap.size W w' := by
  have hw : Below W.heap.size W W := Below.refl _ _
  have hbel := hw
  have CA := Lib.hid (fun v (hv : Below W.heap.size W v) => awake06 v (ht.later hv))
  clear ht
  obtain ⟨hp1, hp2⟩ := hp
  obtain ⟨hc1, hc2⟩ := hc
  obtain ⟨hm1, hm2⟩ := hm
  obtain ⟨hx1, hx2⟩ := hx
  have M1 := fun v => met_pct (1 + p % 100) c x v (by omega) (by omega) (by omega)
  have M2 := fun v => met_pct (1 + p % 100) (c + m) x v (by omega) (by omega) (by omega)
  have M3 := fun v => met_pct 100 c x v (by omega) (by omega) (by omega)
  have key : (x * 100 < c * (1 + p % 100) ∧ x * 100 < (c + m) * (1 + p % 100) ∧ x * 100 < c * 100 ∧ x < c) ∨ (¬ x * 100 < c * (1 + p % 100) ∧ x * 100 < c * 100 ∧ x < c) ∨ (¬ x * 100 < c * (1 + p % 100) ∧ ¬ x * 100 < c * 100 ∧ ¬ x < c) := by
    have h1 : c * (1 + p % 100) ≤ c * 100 := Int.mul_le_mul_of_nonneg_left (by omega) hc1
    have h2 : c * (1 + p % 100) ≤ (c + m) * (1 + p % 100) := Int.mul_le_mul_of_nonneg_right (by omega) (by omega)
    generalize c * (1 + p % 100) = u at *
    generalize (c + m) * (1 + p % 100) = v at *
    omega
  rcases key with ⟨k1, k2, k3, k4⟩ | ⟨k1, k2, k3⟩ | ⟨k1, k2, k3⟩
  · rw [decide_eq_true k1] at M1
    rw [decide_eq_true k2] at M2
    rw [decide_eq_true k3] at M3
    have H1 := Lib.hid M1
    have H2 := Lib.hid M2
    have H3 := Lib.hid M3
    clear M1 M2 M3 k1 k2 k3
    go_enter Tryd.func10, Tryd.ntmps10
    go_upto_region 3 with (first | (go_at_call 22; (with_reducible refine (CA.out _ (belStep hw hbel)).mono ?_); rintro e w1 ⟨rfl, hb1⟩; replace hbel := belStep hbel hb1; clear hb1))
    replace hw := belStep hw hbel
    clear hbel
    generalize w1 = W0 at *
    have hbel : Below W0.heap.size W0 W0 := Below.refl _ _
    go_upto_region 5 with fail
    have ta0 : ((W0.alloc (.cells #[.int .i64 0, .int .i64 (1 + p % 100), .int .i64 0, .bool false, .int .i64 0] 40)).alloc (.cells #[.int .i64 0, .int .i64 100, .int .i64 0, .bool false, .int .i64 0] 40)).cell? ⟨W0.heap.size, 0, none⟩ = some (.int .i64 0) := by first | (simp; done) | (rw [World.cell?_alloc_at _ _ _ _ (by simp)]; rfl) | (rw [World.cell?_alloc_past _ _ _ (by simp <;> omega), World.cell?_alloc_at _ _ _ _ (by simp)]; rfl) | (rw [World.cell?_alloc_past _ _ _ (by simp <;> omega), World.cell?_alloc_past _ _ _ (by simp <;> omega), World.cell?_alloc_at _ _ _ _ (by simp)]; rfl)
    have ta1 : ((W0.alloc (.cells #[.int .i64 0, .int .i64 (1 + p % 100), .int .i64 0, .bool false, .int .i64 0] 40)).alloc (.cells #[.int .i64 0, .int .i64 100, .int .i64 0, .bool false, .int .i64 0] 40)).cell? ⟨W0.heap.size, 1, none⟩ = some (.int .i64 (1 + p % 100)) := by first | (simp; done) | (rw [World.cell?_alloc_at _ _ _ _ (by simp)]; rfl) | (rw [World.cell?_alloc_past _ _ _ (by simp <;> omega), World.cell?_alloc_at _ _ _ _ (by simp)]; rfl) | (rw [World.cell?_alloc_past _ _ _ (by simp <;> omega), World.cell?_alloc_past _ _ _ (by simp <;> omega), World.cell?_alloc_at _ _ _ _ (by simp)]; rfl)
    have ta2 : ((W0.alloc (.cells #[.int .i64 0, .int .i64 (1 + p % 100), .int .i64 0, .bool false, .int .i64 0] 40)).alloc (.cells #[.int .i64 0, .int .i64 100, .int .i64 0, .bool false, .int .i64 0] 40)).cell? ⟨W0.heap.size, 2, none⟩ = some (.int .i64 0) := by first | (simp; done) | (rw [World.cell?_alloc_at _ _ _ _ (by simp)]; rfl) | (rw [World.cell?_alloc_past _ _ _ (by simp <;> omega), World.cell?_alloc_at _ _ _ _ (by simp)]; rfl) | (rw [World.cell?_alloc_past _ _ _ (by simp <;> omega), World.cell?_alloc_past _ _ _ (by simp <;> omega), World.cell?_alloc_at _ _ _ _ (by simp)]; rfl)
    have ta3 : ((W0.alloc (.cells #[.int .i64 0, .int .i64 (1 + p % 100), .int .i64 0, .bool false, .int .i64 0] 40)).alloc (.cells #[.int .i64 0, .int .i64 100, .int .i64 0, .bool false, .int .i64 0] 40)).cell? ⟨W0.heap.size, 3, none⟩ = some (.bool false) := by first | (simp; done) | (rw [World.cell?_alloc_at _ _ _ _ (by simp)]; rfl) | (rw [World.cell?_alloc_past _ _ _ (by simp <;> omega), World.cell?_alloc_at _ _ _ _ (by simp)]; rfl) | (rw [World.cell?_alloc_past _ _ _ (by simp <;> omega), World.cell?_alloc_past _ _ _ (by simp <;> omega), World.cell?_alloc_at _ _ _ _ (by simp)]; rfl)
    have ta4 : ((W0.alloc (.cells #[.int .i64 0, .int .i64 (1 + p % 100), .int .i64 0, .bool false, .int .i64 0] 40)).alloc (.cells #[.int .i64 0, .int .i64 100, .int .i64 0, .bool false, .int .i64 0] 40)).cell? ⟨W0.heap.size, 4, none⟩ = some (.int .i64 0) := by first | (simp; done) | (rw [World.cell?_alloc_at _ _ _ _ (by simp)]; rfl) | (rw [World.cell?_alloc_past _ _ _ (by simp <;> omega), World.cell?_alloc_at _ _ _ _ (by simp)]; rfl) | (rw [World.cell?_alloc_past _ _ _ (by simp <;> omega), World.cell?_alloc_past _ _ _ (by simp <;> omega), World.cell?_alloc_at _ _ _ _ (by simp)]; rfl)
    have tb0 : ((W0.alloc (.cells #[.int .i64 0, .int .i64 (1 + p % 100), .int .i64 0, .bool false, .int .i64 0] 40)).alloc (.cells #[.int .i64 0, .int .i64 100, .int .i64 0, .bool false, .int .i64 0] 40)).cell? ⟨W0.heap.size + 1, 0, none⟩ = some (.int .i64 0) := by first | (simp; done) | (rw [World.cell?_alloc_at _ _ _ _ (by simp)]; rfl) | (rw [World.cell?_alloc_past _ _ _ (by simp <;> omega), World.cell?_alloc_at _ _ _ _ (by simp)]; rfl) | (rw [World.cell?_alloc_past _ _ _ (by simp <;> omega), World.cell?_alloc_past _ _ _ (by simp <;> omega), World.cell?_alloc_at _ _ _ _ (by simp)]; rfl)
    have tb1 : ((W0.alloc (.cells #[.int .i64 0, .int .i64 (1 + p % 100), .int .i64 0, .bool false, .int .i64 0] 40)).alloc (.cells #[.int .i64 0, .int .i64 100, .int .i64 0, .bool false, .int .i64 0] 40)).cell? ⟨W0.heap.size + 1, 1, none⟩ = some (.int .i64 100) := by first | (simp; done) | (rw [World.cell?_alloc_at _ _ _ _ (by simp)]; rfl) | (rw [World.cell?_alloc_past _ _ _ (by simp <;> omega), World.cell?_alloc_at _ _ _ _ (by simp)]; rfl) | (rw [World.cell?_alloc_past _ _ _ (by simp <;> omega), World.cell?_alloc_past _ _ _ (by simp <;> omega), World.cell?_alloc_at _ _ _ _ (by simp)]; rfl)
    have tb2 : ((W0.alloc (.cells #[.int .i64 0, .int .i64 (1 + p % 100), .int .i64 0, .bool false, .int .i64 0] 40)).alloc (.cells #[.int .i64 0, .int .i64 100, .int .i64 0, .bool false, .int .i64 0] 40)).cell? ⟨W0.heap.size + 1, 2, none⟩ = some (.int .i64 0) := by first | (simp; done) | (rw [World.cell?_alloc_at _ _ _ _ (by simp)]; rfl) | (rw [World.cell?_alloc_past _ _ _ (by simp <;> omega), World.cell?_alloc_at _ _ _ _ (by simp)]; rfl) | (rw [World.cell?_alloc_past _ _ _ (by simp <;> omega), World.cell?_alloc_past _ _ _ (by simp <;> omega), World.cell?_alloc_at _ _ _ _ (by simp)]; rfl)
    have tb3 : ((W0.alloc (.cells #[.int .i64 0, .int .i64 (1 + p % 100), .int .i64 0, .bool false, .int .i64 0] 40)).alloc (.cells #[.int .i64 0, .int .i64 100, .int .i64 0, .bool false, .int .i64 0] 40)).cell? ⟨W0.heap.size + 1, 3, none⟩ = some (.bool false) := by first | (simp; done) | (rw [World.cell?_alloc_at _ _ _ _ (by simp)]; rfl) | (rw [World.cell?_alloc_past _ _ _ (by simp <;> omega), World.cell?_alloc_at _ _ _ _ (by simp)]; rfl) | (rw [World.cell?_alloc_past _ _ _ (by simp <;> omega), World.cell?_alloc_past _ _ _ (by simp <;> omega), World.cell?_alloc_at _ _ _ _ (by simp)]; rfl)
    have tb4 : ((W0.alloc (.cells #[.int .i64 0, .int .i64 (1 + p % 100), .int .i64 0, .bool false, .int .i64 0] 40)).alloc (.cells #[.int .i64 0, .int .i64 100, .int .i64 0, .bool false, .int .i64 0] 40)).cell? ⟨W0.heap.size + 1, 4, none⟩ = some (.int .i64 0) := by first | (simp; done) | (rw [World.cell?_alloc_at _ _ _ _ (by simp)]; rfl) | (rw [World.cell?_alloc_past _ _ _ (by simp <;> omega), World.cell?_alloc_at _ _ _ _ (by simp)]; rfl) | (rw [World.cell?_alloc_past _ _ _ (by simp <;> omega), World.cell?_alloc_past _ _ _ (by simp <;> omega), World.cell?_alloc_at _ _ _ _ (by simp)]; rfl)
    have hb2 := (by repeat (first | exact hbel | refine belAlloc ?_ _ | refine belDrew ?_ | refine belSet ?_ _ _ (by simp)) : Below W0.heap.size W0 ((W0.alloc (.cells #[.int .i64 0, .int .i64 (1 + p % 100), .int .i64 0, .bool false, .int .i64 0] 40)).alloc (.cells #[.int .i64 0, .int .i64 100, .int .i64 0, .bool false, .int .i64 0] 40)))
    replace hw := belStep hw hb2
    clear hb2 hbel
    generalize (W0.alloc (.cells #[.int .i64 0, .int .i64 (1 + p % 100), .int .i64 0, .bool false, .int .i64 0] 40)).alloc (.cells #[.int .i64 0, .int .i64 100, .int .i64 0, .bool false, .int .i64 0] 40) = W1 at *
    replace ta0 := keep ta0
    replace ta1 := keep ta1
    replace ta2 := keep ta2
    replace ta3 := keep ta3
    replace ta4 := keep ta4
    replace tb0 := keep tb0
    replace tb1 := keep tb1
    replace tb2 := keep tb2
    replace tb3 := keep tb3
    replace tb4 := keep tb4
    have hbel : Below W1.heap.size W1 W1 := Below.refl _ _
    skip
    go_wp2_with (first | (go_at_call 30; (with_reducible refine (H1.out _).mono ?_); rintro e w1 ⟨rfl, hb1⟩; replace hbel := belStep hbel hb1; clear hb1) | (go_at_call 30; (with_reducible refine (H2.out _).mono ?_); rintro e w1 ⟨rfl, hb1⟩; replace hbel := belStep hbel hb1; clear hb1) | (go_at_call 30; (with_reducible refine (H3.out _).mono ?_); rintro e w1 ⟨rfl, hb1⟩; replace hbel := belStep hbel hb1; clear hb1))
    go_ret
    exact ⟨rfl, belStep hw hbel⟩
  · rw [decide_eq_false k1] at M1
    rw [decide_eq_true k2] at M3
    have H1 := Lib.hid M1
    have H3 := Lib.hid M3
    clear M1 M2 M3 k1 k2
    go_enter Tryd.func10, Tryd.ntmps10
    go_upto_region 3 with (first | (go_at_call 22; (with_reducible refine (CA.out _ (belStep hw hbel)).mono ?_); rintro e w1 ⟨rfl, hb1⟩; replace hbel := belStep hbel hb1; clear hb1))
    replace hw := belStep hw hbel
    clear hbel
    generalize w1 = W0 at *
    have hbel : Below W0.heap.size W0 W0 := Below.refl _ _
    go_upto_region 5 with fail
    have ta0 : ((W0.alloc (.cells #[.int .i64 0, .int .i64 (1 + p % 100), .int .i64 0, .bool false, .int .i64 0] 40)).alloc (.cells #[.int .i64 0, .int .i64 100, .int .i64 0, .bool false, .int .i64 0] 40)).cell? ⟨W0.heap.size, 0, none⟩ = some (.int .i64 0) := by first | (simp; done) | (rw [World.cell?_alloc_at _ _ _ _ (by simp)]; rfl) | (rw [World.cell?_alloc_past _ _ _ (by simp <;> omega), World.cell?_alloc_at _ _ _ _ (by simp)]; rfl) | (rw [World.cell?_alloc_past _ _ _ (by simp <;> omega), World.cell?_alloc_past _ _ _ (by simp <;> omega), World.cell?_alloc_at _ _ _ _ (by simp)]; rfl)
    have ta1 : ((W0.alloc (.cells #[.int .i64 0, .int .i64 (1 + p % 100), .int .i64 0, .bool false, .int .i64 0] 40)).alloc (.cells #[.int .i64 0, .int .i64 100, .int .i64 0, .bool false, .int .i64 0] 40)).cell? ⟨W0.heap.size, 1, none⟩ = some (.int .i64 (1 + p % 100)) := by first | (simp; done) | (rw [World.cell?_alloc_at _ _ _ _ (by simp)]; rfl) | (rw [World.cell?_alloc_past _ _ _ (by simp <;> omega), World.cell?_alloc_at _ _ _ _ (by simp)]; rfl) | (rw [World.cell?_alloc_past _ _ _ (by simp <;> omega), World.cell?_alloc_past _ _ _ (by simp <;> omega), World.cell?_alloc_at _ _ _ _ (by simp)]; rfl)
    have ta2 : ((W0.alloc (.cells #[.int .i64 0, .int .i64 (1 + p % 100), .int .i64 0, .bool false, .int .i64 0] 40)).alloc (.cells #[.int .i64 0, .int .i64 100, .int .i64 0, .bool false, .int .i64 0] 40)).cell? ⟨W0.heap.size, 2, none⟩ = some (.int .i64 0) := by first | (simp; done) | (rw [World.cell?_alloc_at _ _ _ _ (by simp)]; rfl) | (rw [World.cell?_alloc_past _ _ _ (by simp <;> omega), World.cell?_alloc_at _ _ _ _ (by simp)]; rfl) | (rw [World.cell?_alloc_past _ _ _ (by simp <;> omega), World.cell?_alloc_past _ _ _ (by simp <;> omega), World.cell?_alloc_at _ _ _ _ (by simp)]; rfl)
    have ta3 : ((W0.alloc (.cells #[.int .i64 0, .int .i64 (1 + p % 100), .int .i64 0, .bool false, .int .i64 0] 40)).alloc (.cells #[.int .i64 0, .int .i64 100, .int .i64 0, .bool false, .int .i64 0] 40)).cell? ⟨W0.heap.size, 3, none⟩ = some (.bool false) := by first | (simp; done) | (rw [World.cell?_alloc_at _ _ _ _ (by simp)]; rfl) | (rw [World.cell?_alloc_past _ _ _ (by simp <;> omega), World.cell?_alloc_at _ _ _ _ (by simp)]; rfl) | (rw [World.cell?_alloc_past _ _ _ (by simp <;> omega), World.cell?_alloc_past _ _ _ (by simp <;> omega), World.cell?_alloc_at _ _ _ _ (by simp)]; rfl)
    have ta4 : ((W0.alloc (.cells #[.int .i64 0, .int .i64 (1 + p % 100), .int .i64 0, .bool false, .int .i64 0] 40)).alloc (.cells #[.int .i64 0, .int .i64 100, .int .i64 0, .bool false, .int .i64 0] 40)).cell? ⟨W0.heap.size, 4, none⟩ = some (.int .i64 0) := by first | (simp; done) | (rw [World.cell?_alloc_at _ _ _ _ (by simp)]; rfl) | (rw [World.cell?_alloc_past _ _ _ (by simp <;> omega), World.cell?_alloc_at _ _ _ _ (by simp)]; rfl) | (rw [World.cell?_alloc_past _ _ _ (by simp <;> omega), World.cell?_alloc_past _ _ _ (by simp <;> omega), World.cell?_alloc_at _ _ _ _ (by simp)]; rfl)
    have tb0 : ((W0.alloc (.cells #[.int .i64 0, .int .i64 (1 + p % 100), .int .i64 0, .bool false, .int .i64 0] 40)).alloc (.cells #[.int .i64 0, .int .i64 100, .int .i64 0, .bool false, .int .i64 0] 40)).cell? ⟨W0.heap.size + 1, 0, none⟩ = some (.int .i64 0) := by first | (simp; done) | (rw [World.cell?_alloc_at _ _ _ _ (by simp)]; rfl) | (rw [World.cell?_alloc_past _ _ _ (by simp <;> omega), World.cell?_alloc_at _ _ _ _ (by simp)]; rfl) | (rw [World.cell?_alloc_past _ _ _ (by simp <;> omega), World.cell?_alloc_past _ _ _ (by simp <;> omega), World.cell?_alloc_at _ _ _ _ (by simp)]; rfl)
    have tb1 : ((W0.alloc (.cells #[.int .i64 0, .int .i64 (1 + p % 100), .int .i64 0, .bool false, .int .i64 0] 40)).alloc (.cells #[.int .i64 0, .int .i64 100, .int .i64 0, .bool false, .int .i64 0] 40)).cell? ⟨W0.heap.size + 1, 1, none⟩ = some (.int .i64 100) := by first | (simp; done) | (rw [World.cell?_alloc_at _ _ _ _ (by simp)]; rfl) | (rw [World.cell?_alloc_past _ _ _ (by simp <;> omega), World.cell?_alloc_at _ _ _ _ (by simp)]; rfl) | (rw [World.cell?_alloc_past _ _ _ (by simp <;> omega), World.cell?_alloc_past _ _ _ (by simp <;> omega), World.cell?_alloc_at _ _ _ _ (by simp)]; rfl)
    have tb2 : ((W0.alloc (.cells #[.int .i64 0, .int .i64 (1 + p % 100), .int .i64 0, .bool false, .int .i64 0] 40)).alloc (.cells #[.int .i64 0, .int .i64 100, .int .i64 0, .bool false, .int .i64 0] 40)).cell? ⟨W0.heap.size + 1, 2, none⟩ = some (.int .i64 0) := by first | (simp; done) | (rw [World.cell?_alloc_at _ _ _ _ (by simp)]; rfl) | (rw [World.cell?_alloc_past _ _ _ (by simp <;> omega), World.cell?_alloc_at _ _ _ _ (by simp)]; rfl) | (rw [World.cell?_alloc_past _ _ _ (by simp <;> omega), World.cell?_alloc_past _ _ _ (by simp <;> omega), World.cell?_alloc_at _ _ _ _ (by simp)]; rfl)
    have tb3 : ((W0.alloc (.cells #[.int .i64 0, .int .i64 (1 + p % 100), .int .i64 0, .bool false, .int .i64 0] 40)).alloc (.cells #[.int .i64 0, .int .i64 100, .int .i64 0, .bool false, .int .i64 0] 40)).cell? ⟨W0.heap.size + 1, 3, none⟩ = some (.bool false) := by first | (simp; done) | (rw [World.cell?_alloc_at _ _ _ _ (by simp)]; rfl) | (rw [World.cell?_alloc_past _ _ _ (by simp <;> omega), World.cell?_alloc_at _ _ _ _ (by simp)]; rfl) | (rw [World.cell?_alloc_past _ _ _ (by simp <;> omega), World.cell?_alloc_past _ _ _ (by simp <;> omega), World.cell?_alloc_at _ _ _ _ (by simp)]; rfl)
    have tb4 : ((W0.alloc (.cells #[.int .i64 0, .int .i64 (1 + p % 100), .int .i64 0, .bool false, .int .i64 0] 40)).alloc (.cells #[.int .i64 0, .int .i64 100, .int .i64 0, .bool false, .int .i64 0] 40)).cell? ⟨W0.heap.size + 1, 4, none⟩ = some (.int .i64 0) := by first | (simp; done) | (rw [World.cell?_alloc_at _ _ _ _ (by simp)]; rfl) | (rw [World.cell?_alloc_past _ _ _ (by simp <;> omega), World.cell?_alloc_at _ _ _ _ (by simp)]; rfl) | (rw [World.cell?_alloc_past _ _ _ (by simp <;> omega), World.cell?_alloc_past _ _ _ (by simp <;> omega), World.cell?_alloc_at _ _ _ _ (by simp)]; rfl)
    have hb2 := (by repeat (first | exact hbel | refine belAlloc ?_ _ | refine belDrew ?_ | refine belSet ?_ _ _ (by simp)) : Below W0.heap.size W0 ((W0.alloc (.cells #[.int .i64 0, .int .i64 (1 + p % 100), .int .i64 0, .bool false, .int .i64 0] 40)).alloc (.cells #[.int .i64 0, .int .i64 100, .int .i64 0, .bool false, .int .i64 0] 40)))
    replace hw := belStep hw hb2
    clear hb2 hbel
    generalize (W0.alloc (.cells #[.int .i64 0, .int .i64 (1 + p % 100), .int .i64 0, .bool false, .int .i64 0] 40)).alloc (.cells #[.int .i64 0, .int .i64 100, .int .i64 0, .bool false, .int .i64 0] 40) = W1 at *
    replace ta0 := keep ta0
    replace ta1 := keep ta1
    replace ta2 := keep ta2
    replace ta3 := keep ta3
    replace ta4 := keep ta4
    replace tb0 := keep tb0
    replace tb1 := keep tb1
    replace tb2 := keep tb2
    replace tb3 := keep tb3
    replace tb4 := keep tb4
    have hbel : Below W1.heap.size W1 W1 := Below.refl _ _
    skip
    go_wp2_with (first | (go_at_call 30; (with_reducible refine (H1.out _).mono ?_); rintro e w1 ⟨rfl, hb1⟩; replace hbel := belStep hbel hb1; clear hb1) | (go_at_call 30; (with_reducible refine (H3.out _).mono ?_); rintro e w1 ⟨rfl, hb1⟩; replace hbel := belStep hbel hb1; clear hb1))
    go_ret
    exact ⟨rfl, belStep hw hbel⟩
  · rw [decide_eq_false k1] at M1
    rw [decide_eq_false k2] at M3
    have H1 := Lib.hid M1
    have H3 := Lib.hid M3
    clear M1 M2 M3 k1 k2
    go_enter Tryd.func10, Tryd.ntmps10
    go_upto_region 3 with (first | (go_at_call 22; (with_reducible refine (CA.out _ (belStep hw hbel)).mono ?_); rintro e w1 ⟨rfl, hb1⟩; replace hbel := belStep hbel hb1; clear hb1))
    replace hw := belStep hw hbel
    clear hbel
    generalize w1 = W0 at *
    have hbel : Below W0.heap.size W0 W0 := Below.refl _ _
    go_upto_region 5 with fail
    have ta0 : ((W0.alloc (.cells #[.int .i64 0, .int .i64 (1 + p % 100), .int .i64 0, .bool false, .int .i64 0] 40)).alloc (.cells #[.int .i64 0, .int .i64 100, .int .i64 0, .bool false, .int .i64 0] 40)).cell? ⟨W0.heap.size, 0, none⟩ = some (.int .i64 0) := by first | (simp; done) | (rw [World.cell?_alloc_at _ _ _ _ (by simp)]; rfl) | (rw [World.cell?_alloc_past _ _ _ (by simp <;> omega), World.cell?_alloc_at _ _ _ _ (by simp)]; rfl) | (rw [World.cell?_alloc_past _ _ _ (by simp <;> omega), World.cell?_alloc_past _ _ _ (by simp <;> omega), World.cell?_alloc_at _ _ _ _ (by simp)]; rfl)
    have ta1 : ((W0.alloc (.cells #[.int .i64 0, .int .i64 (1 + p % 100), .int .i64 0, .bool false, .int .i64 0] 40)).alloc (.cells #[.int .i64 0, .int .i64 100, .int .i64 0, .bool false, .int .i64 0] 40)).cell? ⟨W0.heap.size, 1, none⟩ = some (.int .i64 (1 + p % 100)) := by first | (simp; done) | (rw [World.cell?_alloc_at _ _ _ _ (by simp)]; rfl) | (rw [World.cell?_alloc_past _ _ _ (by simp <;> omega), World.cell?_alloc_at _ _ _ _ (by simp)]; rfl) | (rw [World.cell?_alloc_past _ _ _ (by simp <;> omega), World.cell?_alloc_past _ _ _ (by simp <;> omega), World.cell?_alloc_at _ _ _ _ (by simp)]; rfl)
    have ta2 : ((W0.alloc (.cells #[.int .i64 0, .int .i64 (1 + p % 100), .int .i64 0, .bool false, .int .i64 0] 40)).alloc (.cells #[.int .i64 0, .int .i64 100, .int .i64 0, .bool false, .int .i64 0] 40)).cell? ⟨W0.heap.size, 2, none⟩ = some (.int .i64 0) := by first | (simp; done) | (rw [World.cell?_alloc_at _ _ _ _ (by simp)]; rfl) | (rw [World.cell?_alloc_past _ _ _ (by simp <;> omega), World.cell?_alloc_at _ _ _ _ (by simp)]; rfl) | (rw [World.cell?_alloc_past _ _ _ (by simp <;> omega), World.cell?_alloc_past _ _ _ (by simp <;> omega), World.cell?_alloc_at _ _ _ _ (by simp)]; rfl)
    have ta3 : ((W0.alloc (.cells #[.int .i64 0, .int .i64 (1 + p % 100), .int .i64 0, .bool false, .int .i64 0] 40)).alloc (.cells #[.int .i64 0, .int .i64 100, .int .i64 0, .bool false, .int .i64 0] 40)).cell? ⟨W0.heap.size, 3, none⟩ = some (.bool false) := by first | (simp; done) | (rw [World.cell?_alloc_at _ _ _ _ (by simp)]; rfl) | (rw [World.cell?_alloc_past _ _ _ (by simp <;> omega), World.cell?_alloc_at _ _ _ _ (by simp)]; rfl) | (rw [World.cell?_alloc_past _ _ _ (by simp <;> omega), World.cell?_alloc_past _ _ _ (by simp <;> omega), World.cell?_alloc_at _ _ _ _ (by simp)]; rfl)
    have ta4 : ((W0.alloc (.cells #[.int .i64 0, .int .i64 (1 + p % 100), .int .i64 0, .bool false, .int .i64 0] 40)).alloc (.cells #[.int .i64 0, .int .i64 100, .int .i64 0, .bool false, .int .i64 0] 40)).cell? ⟨W0.heap.size, 4, none⟩ = some (.int .i64 0) := by first | (simp; done) | (rw [World.cell?_alloc_at _ _ _ _ (by simp)]; rfl) | (rw [World.cell?_alloc_past _ _ _ (by simp <;> omega), World.cell?_alloc_at _ _ _ _ (by simp)]; rfl) | (rw [World.cell?_alloc_past _ _ _ (by simp <;> omega), World.cell?_alloc_past _ _ _ (by simp <;> omega), World.cell?_alloc_at _ _ _ _ (by simp)]; rfl)
    have tb0 : ((W0.alloc (.cells #[.int .i64 0, .int .i64 (1 + p % 100), .int .i64 0, .bool false, .int .i64 0] 40)).alloc (.cells #[.int .i64 0, .int .i64 100, .int .i64 0, .bool false, .int .i64 0] 40)).cell? ⟨W0.heap.size + 1, 0, none⟩ = some (.int .i64 0) := by first | (simp; done) | (rw [World.cell?_alloc_at _ _ _ _ (by simp)]; rfl) | (rw [World.cell?_alloc_past _ _ _ (by simp <;> omega), World.cell?_alloc_at _ _ _ _ (by simp)]; rfl) | (rw [World.cell?_alloc_past _ _ _ (by simp <;> omega), World.cell?_alloc_past _ _ _ (by simp <;> omega), World.cell?_alloc_at _ _ _ _ (by simp)]; rfl)
    have tb1 : ((W0.alloc (.cells #[.int .i64 0, .int .i64 (1 + p % 100), .int .i64 0, .bool false, .int .i64 0] 40)).alloc (.cells #[.int .i64 0, .int .i64 100, .int .i64 0, .bool false, .int .i64 0] 40)).cell? ⟨W0.heap.size + 1, 1, none⟩ = some (.int .i64 100) := by first | (simp; done) | (rw [World.cell?_alloc_at _ _ _ _ (by simp)]; rfl) | (rw [World.cell?_alloc_past _ _ _ (by simp <;> omega), World.cell?_alloc_at _ _ _ _ (by simp)]; rfl) | (rw [World.cell?_alloc_past _ _ _ (by simp <;> omega), World.cell?_alloc_past _ _ _ (by simp <;> omega), World.cell?_alloc_at _ _ _ _ (by simp)]; rfl)
    have tb2 : ((W0.alloc (.cells #[.int .i64 0, .int .i64 (1 + p % 100), .int .i64 0, .bool false, .int .i64 0] 40)).alloc (.cells #[.int .i64 0, .int .i64 100, .int .i64 0, .bool false, .int .i64 0] 40)).cell? ⟨W0.heap.size + 1, 2, none⟩ = some (.int .i64 0) := by first | (simp; done) | (rw [World.cell?_alloc_at _ _ _ _ (by simp)]; rfl) | (rw [World.cell?_alloc_past _ _ _ (by simp <;> omega), World.cell?_alloc_at _ _ _ _ (by simp)]; rfl) | (rw [World.cell?_alloc_past _ _ _ (by simp <;> omega), World.cell?_alloc_past _ _ _ (by simp <;> omega), World.cell?_alloc_at _ _ _ _ (by simp)]; rfl)
    have tb3 : ((W0.alloc (.cells #[.int .i64 0, .int .i64 (1 + p % 100), .int .i64 0, .bool false, .int .i64 0] 40)).alloc (.cells #[.int .i64 0, .int .i64 100, .int .i64 0, .bool false, .int .i64 0] 40)).cell? ⟨W0.heap.size + 1, 3, none⟩ = some (.bool false) := by first | (simp; done) | (rw [World.cell?_alloc_at _ _ _ _ (by simp)]; rfl) | (rw [World.cell?_alloc_past _ _ _ (by simp <;> omega), World.cell?_alloc_at _ _ _ _ (by simp)]; rfl) | (rw [World.cell?_alloc_past _ _ _ (by simp <;> omega), World.cell?_alloc_past _ _ _ (by simp <;> omega), World.cell?_alloc_at _ _ _ _ (by simp)]; rfl)
    have tb4 : ((W0.alloc (.cells #[.int .i64 0, .int .i64 (1 + p % 100), .int .i64 0, .bool false, .int .i64 0] 40)).alloc (.cells #[.int .i64 0, .int .i64 100, .int .i64 0, .bool false, .int .i64 0] 40)).cell? ⟨W0.heap.size + 1, 4, none⟩ = some (.int .i64 0) := by first | (simp; done) | (rw [World.cell?_alloc_at _ _ _ _ (by simp)]; rfl) | (rw [World.cell?_alloc_past _ _ _ (by simp <;> omega), World.cell?_alloc_at _ _ _ _ (by simp)]; rfl) | (rw [World.cell?_alloc_past _ _ _ (by simp <;> omega), World.cell?_alloc_past _ _ _ (by simp <;> omega), World.cell?_alloc_at _ _ _ _ (by simp)]; rfl)
    have hb2 := (by repeat (first | exact hbel | refine belAlloc ?_ _ | refine belDrew ?_ | refine belSet ?_ _ _ (by simp)) : Below W0.heap.size W0 ((W0.alloc (.cells #[.int .i64 0, .int .i64 (1 + p % 100), .int .i64 0, .bool false, .int .i64 0] 40)).alloc (.cells #[.int .i64 0, .int .i64 100, .int .i64 0, .bool false, .int .i64 0] 40)))
    replace hw := belStep hw hb2
    clear hb2 hbel
    generalize (W0.alloc (.cells #[.int .i64 0, .int .i64 (1 + p % 100), .int .i64 0, .bool false, .int .i64 0] 40)).alloc (.cells #[.int .i64 0, .int .i64 100, .int .i64 0, .bool false, .int .i64 0] 40) = W1 at *
    replace ta0 := keep ta0
    replace ta1 := keep ta1
    replace ta2 := keep ta2
    replace ta3 := keep ta3
    replace ta4 := keep ta4
    replace tb0 := keep tb0
    replace tb1 := keep tb1
    replace tb2 := keep tb2
    replace tb3 := keep tb3
    replace tb4 := keep tb4
    have hbel : Below W1.heap.size W1 W1 := Below.refl _ _
    skip
    go_wp2_with (first | (go_at_call 30; (with_reducible refine (H1.out _).mono ?_); rintro e w1 ⟨rfl, hb1⟩; replace hbel := belStep hbel hb1; clear hb1) | (go_at_call 30; (with_reducible refine (H3.out _).mono ?_); rintro e w1 ⟨rfl, hb1⟩; replace hbel := belStep hbel hb1; clear hb1))
    go_ret
    exact ⟨ret_bool (by simp <;> omega), belStep hw hbel⟩

set_option maxRecDepth 100000 in
theorem door_met (os : Os) (args : Array Value) : laidMet Tryd.prog Rows.threshSharesRow.laid ((World.doorLaid Tryd.prog 400 os).forCall (fun _ _ => 0) ⟨#[], args, []⟩).memory :=
  laidMet_of_run' 8 (by kernel_rfl) (by kernel_rfl)
set_option maxRecDepth 100000 in
theorem lifted (os : Os) (started : os.Started) (H : Type) (enc : TypeId × Value → H) :
    ReturnsInHanded {} Tryd.checked os 10 .any (fun w args => (Rows.threshSharesSpec.pre enc Tryd.prog Tryd.f10 [] false w args ∧ laidMetH Tryd.prog Rows.threshSharesRow.laid w) ∧ sizedMet enc Tryd.prog Tryd.f10 (OpenSpec.ofChange Rows.threshSharesSpec) false w args) (Rows.threshSharesSpec.post enc Tryd.prog Tryd.f10 false true false false) := by
  refine returnsInHanded_of_change_and_shaped (C := Tryd.checked) (X := fun w _ => laidMetH Tryd.prog Rows.threshSharesRow.laid w) (fun _ _ _ hh h => h.of_heap hh) own started (by kernel_rfl) Tryd.func10
    (ChangeSpec.witness_shaped (enc := enc) (C := Tryd.checked) (os := os) (X := fun w _ => laidMetH Tryd.prog Rows.threshSharesRow.laid w) false (World.doorLaid Tryd.prog 400 os) #[.int .u8 0, .int .u32 0, .int .u32 0, .int .u32 0] 8 rfl (World.shaped_of_RefB (by kernel_rfl) (by kernel_rfl)) (by kernel_rfl) (by kernel_rfl) (by kernel_rfl) (by rw [MakeChecks.laidMetH_plain _ _ _ (by kernel_rfl)]; exact door_met os _)) ?_
  intro W base args ds gs before hval0 hW hL hsh
  rw [MakeChecks.laidMetH_plain _ _ _ (by kernel_rfl)] at hL
  have ht : Env W := env_of hL hsh
  clear hL
  have hval : ∀ (j : Nat) t v, Tryd.f10.params[j]? = some t → args[j]? = some v → Value.okWide Tryd.prog W .any base t v := hval0
  have hW' := hW
  obtain ⟨p, q, hA0, hV, rfl, hfz, hnd⟩ := hW
  have hA : DataW.TrodAll enc Tryd.prog W 0 (fun _ => true) true Tryd.f10.params.toList args.toList ds p := hA0
  rw [Tryd.params10] at hA hval
  obtain ⟨v0, vs0, d0, ds0, p0, q0, hargs, rfl, rfl, h0, r0⟩ := trodAll_cons hA
  obtain ⟨v1, vs1, d1, ds1, p1, q1, rfl, rfl, rfl, h1, r1⟩ := trodAll_cons r0
  obtain ⟨v2, vs2, d2, ds2, p2, q2, rfl, rfl, rfl, h2, r2⟩ := trodAll_cons r1
  obtain ⟨v3, vs3, d3, ds3, p3, q3, rfl, rfl, rfl, h3, r3⟩ := trodAll_cons r2
  obtain ⟨rfl, rfl, rfl⟩ := trodAll_nil r3
  obtain rfl : args = #[v0, v1, v2, v3] := by cases args; simp_all
  obtain ⟨rfl, rfl⟩ := trodVars_none hV
  have k0 := h0
  have lt0 : ∀ x ∈ p0, x.block < W.heap.size := by obtain ⟨m, hm⟩ := k0; exact DataW.trod_lt m _ _ _ hm
  have o0 : Value.okWide Tryd.prog W .any base 5 v0 := hval 0 5 v0 rfl rfl
  obtain ⟨a0, rfl, rfl, rfl, w0⟩ := open_int Tryd.underlying5 o0 h0
  have k1 := h1
  have lt1 : ∀ x ∈ p1, x.block < W.heap.size := by obtain ⟨m, hm⟩ := k1; exact DataW.trod_lt m _ _ _ hm
  have o1 : Value.okWide Tryd.prog W .any base 32 v1 := hval 1 32 v1 rfl rfl
  obtain ⟨a1, rfl, rfl, rfl, w1⟩ := open_int Tryd.underlying32 o1 h1
  have k2 := h2
  have lt2 : ∀ x ∈ p2, x.block < W.heap.size := by obtain ⟨m, hm⟩ := k2; exact DataW.trod_lt m _ _ _ hm
  have o2 : Value.okWide Tryd.prog W .any base 32 v2 := hval 2 32 v2 rfl rfl
  obtain ⟨a2, rfl, rfl, rfl, w2⟩ := open_int Tryd.underlying32 o2 h2
  have k3 := h3
  have lt3 : ∀ x ∈ p3, x.block < W.heap.size := by obtain ⟨m, hm⟩ := k3; exact DataW.trod_lt m _ _ _ hm
  have o3 : Value.okWide Tryd.prog W .any base 32 v3 := hval 3 32 v3 rfl rfl
  obtain ⟨a3, rfl, rfl, rfl, w3⟩ := open_int Tryd.underlying32 o3 h3
  clear hA0 hval0
  refine (walk a0 a1 a2 a3 W ht (in8_of_wf w0) (in32_of_wf w1) (in32_of_wf w2) (in32_of_wf w3)).mono fun e W' ⟨he, bel⟩ => ?_
  subst he
  exact ⟨_, rfl, _, _, _, [], _, [], hW', trodAll_mk1 (shut_bool Tryd.underlying4 _), (trodAll_cons_mk (Below.trod laidOut (by kernel_rfl) (of_decide_eq_true (by kernel_rfl)) k0 bel lt0) (trodAll_cons_mk (Below.trod laidOut (by kernel_rfl) (of_decide_eq_true (by kernel_rfl)) k1 bel lt1) (trodAll_cons_mk (Below.trod laidOut (by kernel_rfl) (of_decide_eq_true (by kernel_rfl)) k2 bel lt2) (trodAll_cons_mk (Below.trod laidOut (by kernel_rfl) (of_decide_eq_true (by kernel_rfl)) k3 bel lt3) trodAll_mk0)))), rfl, bel.frame _, fun h => by cases h⟩

theorem over : Rows.threshSharesRow.holds Tryd.pinned (OpenSpec.ofChange Rows.threshSharesSpec) :=
  OpenClaim.holds_of_wide 10 Tryd.f10 rfl rfl rfl rfl rfl rfl rfl ⟨rfl, rfl, rfl, rfl, rfl⟩ rfl rfl rfl rfl rfl (by kernel_rfl) Tryd.func10 (by kernel_rfl)
    (of_decide_eq_true (by kernel_rfl)) (by unfold Func.isWrapper; first | (rw [if_pos (by decide +kernel)]; kernel_rfl) | (rw [if_neg (by decide +kernel)]; exact ⟨rfl, rfl⟩))
    (fun os started H enc _ => lifted os started H enc)

/-- The statement. -/
theorem proved : Rows.ThreshSharesCardSaid :=
  Claim7.holds_tied_plain_at .later [] Rows.threshSharesCard.laidKinds true Rows.threshSharesCard.stood.harness true
    over (fun _ h => by cases h) (by kernel_rfl) (fun _ h => by cases h) threshShares_row_tie rfl ⟨rfl, rfl⟩ (by kernel_rfl) rfl
    (fun f fn hf hfn => by
      obtain rfl : f = 10 := Option.some.inj ((show Tryd.prog.funcNamed Rows.threshSharesRow.func = some 10 by kernel_rfl).symm.trans hf) |>.symm
      obtain rfl : fn = Tryd.f10 := (Option.some.inj (Tryd.func10.symm.trans hfn)).symm
      exact ⟨by kernel_rfl, fun j t ht => by
        rw [Tryd.params10] at ht
        have hm : t ∈ [5, 32, 32, 32] := by simpa using Array.mem_of_getElem? ht
        have hall : ([5, 32, 32, 32].all fun u => !Tryd.prog.wantsStandIn u) = true := by kernel_rfl
        exact (show Tryd.prog.wantsStandIn t = false by simpa using List.all_eq_true.1 hall t hm)⟩)
    (by kernel_rfl)
#print axioms proved

end Go.Proofs.YtiaemcejgjobiaaDoor.threshShares
