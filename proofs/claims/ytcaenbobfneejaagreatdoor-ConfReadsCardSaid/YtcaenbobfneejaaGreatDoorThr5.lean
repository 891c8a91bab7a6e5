
/- The fixed answers of layer 6's statements. -/
import Derived.Test.YtcaenbobfneejaaGreatDoorThr3
import Derived.Test.YtcaenbobfneejaaGreatDoorThr4
namespace Go.Proofs.YtcaenbobfneejaaGreatDoor
open Go.RowKit
set_option linter.unusedVariables false
set_option linter.unusedSimpArgs false
open Go.Lib (decDigits)

theorem dd10 : decDigits 10 = [49, 48] := by rw [dd_big (by omega), dd_small (by omega)]; rfl
theorem dd5 : decDigits 5 = [53] := by rw [dd_small (by omega)]; rfl
theorem ddB10 : ddB 10 = ⟨#[49, 48]⟩ := by unfold ddB; rw [dd10]
theorem ddB5 : ddB 5 = ⟨#[53]⟩ := by unfold ddB; rw [dd5]
theorem dgv10 : dgv [49, 48] 100 = some 10 := by
  have := dgv_of (n := 10) (most := 100) (by omega) (by omega) (by omega)
  rw [show (10 : Int).toNat = 10 from rfl, dd10] at this; exact this
theorem dgv5 : dgv [53] 1000 = some 5 := by
  have := dgv_of (n := 5) (most := 1000) (by omega) (by omega) (by omega)
  rw [show (5 : Int).toNat = 5 from rfl, dd5] at this; exact this
def tA : ByteArray := ⟨#[109, 101, 109, 111, 114, 121, 60, 49, 48, 37, 58, 53]⟩
def tB : ByteArray := ⟨#[100, 105, 115, 107, 60, 50, 77, 105]⟩
def tC : ByteArray := ⟨#[100, 105, 115, 107, 60, 48]⟩
theorem thF_a : thF tA.toList = some ⟨0, 10, 0, true, 5⟩ := by
  rw [sl]
  have h1 : cutC 60 tA.data.toList = ([109, 101, 109, 111, 114, 121], [49, 48, 37, 58, 53], true) := by rfl
  have h2 : cutC 58 [49, 48, 37, 58, 53] = ([49, 48, 37], [53], true) := by rfl
  have h3 : cutC 37 [49, 48, 37] = ([49, 48], [], true) := by rfl
  have h4 : limF [49, 48, 37] = some (10, 0) := by unfold limF; rw [h3]; simp only [if_true]; rw [dgv10]; rfl
  have h5 : grF true [53] = some 5 := by unfold grF; rw [if_pos rfl, dgv5]
  unfold thF
  rw [h1]
  simp only [if_true]
  rw [h2]
  simp only
  rw [h4, h5]
  rfl
theorem thF_b : thF tB.toList = some ⟨1, 0, 2097152, false, 0⟩ := by
  rw [sl]
  have h1 : cutC 60 tB.data.toList = ([100, 105, 115, 107], [50, 77, 105], true) := by rfl
  have h2 : cutC 58 [50, 77, 105] = ([50, 77, 105], [], false) := by rfl
  have h3 : cutC 37 [50, 77, 105] = ([50, 77, 105], [], false) := by rfl
  have h4 : limF [50, 77, 105] = some (0, 2097152) := by unfold limF; rw [h3]; decide +kernel
  have h5 : grF false [] = some 0 := by rfl
  unfold thF
  rw [h1]
  simp only [if_true]
  rw [h2]
  simp only
  rw [h4, h5]
  rfl
theorem thF_c : thF tC.toList = none := by
  rw [sl]
  have h1 : cutC 60 tC.data.toList = ([100, 105, 115, 107], [48], true) := by rfl
  have h2 : cutC 58 [48] = ([48], [], false) := by rfl
  have h3 : cutC 37 [48] = ([48], [], false) := by rfl
  have h4 : limF [48] = none := by unfold limF; rw [h3]; decide +kernel
  unfold thF
  rw [h1]
  simp only [if_true]
  rw [h2]
  simp only
  rw [h4]
  rfl
theorem read_tA (w : World) (he : Env w) : Calls Tryz.prog 34 #[.string ⟨#[109, 101, 109, 111, 114, 121, 60, 49, 48, 37, 58, 53]⟩] w fun e w' => e = .returned (.tuple #[.agg #[.int .i64 0, .int .i64 10, .int .i64 0, .bool true, .int .i64 5], .int .i64 0]) ∧ Below w.heap.size w w' := by
  have h := thr_Read tA w (by decide) he
  unfold thV thE at h
  rw [thF_a] at h
  exact h
theorem read_tB (w : World) (he : Env w) : Calls Tryz.prog 34 #[.string ⟨#[100, 105, 115, 107, 60, 50, 77, 105]⟩] w fun e w' => e = .returned (.tuple #[.agg #[.int .i64 1, .int .i64 0, .int .i64 2097152, .bool false, .int .i64 0], .int .i64 0]) ∧ Below w.heap.size w w' := by
  have h := thr_Read tB w (by decide) he
  unfold thV thE at h
  rw [thF_b] at h
  exact h
theorem read_tC (w : World) (he : Env w) : Calls Tryz.prog 34 #[.string ⟨#[100, 105, 115, 107, 60, 48]⟩] w fun e w' => e = .returned (.tuple #[.agg #[.int .i64 0, .int .i64 0, .int .i64 0, .bool false, .int .i64 0], .int .i64 2]) ∧ Below w.heap.size w w' := by
  have h := thr_Read tC w (by decide) he
  unfold thV thE at h
  rw [thF_c] at h
  exact h
theorem sig_pid (w : World) : Calls Tryz.prog 52 #[.string ⟨#[112, 105, 100]⟩] w fun e w' => e = .returned (.tuple #[.int .i64 2, .bool true]) ∧ w = w' := by
  have h := thr_Signal ⟨#[112, 105, 100]⟩ w
  have e1 : sigN (⟨#[112, 105, 100]⟩ : ByteArray).toList = 2 ∧ sigB (⟨#[112, 105, 100]⟩ : ByteArray).toList = true := by rw [sl]; exact ⟨rfl, rfl⟩
  rw [e1.1, e1.2] at h
  exact h
def ThA : ThrV := ⟨0, 10, 0, true, 5⟩
theorem ThA_ok : ThA.ok := by unfold ThrV.ok ThA InI; refine ⟨?_, ?_, ?_, ?_⟩ <;> (dsimp only; omega)
set_option maxRecDepth 100000 in
set_option maxHeartbeats 2000000 in
theorem right_b (w : World) : Calls Tryz.prog 48 #[.agg #[.int .i64 1, .int .i64 0, .int .i64 2097152, .bool false, .int .i64 0]] w fun e w' => e = .returned (.bool true) ∧ Below w.heap.size w w' := by
  have hw : Below w.heap.size w w := Below.refl _ _
  have hbel := hw
  have CW : ∀ u, Calls Tryz.prog 64 #[.int .i64 0, .int .i64 100] u fun e w' => e = .returned (.bool false) ∧ u = w' := fun u => thr_within 0 100 u
  have CX : ∀ u, Calls Tryz.prog 43 #[.int .i64 1] u fun e w' => e = .returned (.string ⟨#[100, 105, 115, 107]⟩) ∧ u = w' := fun u => thr_word 1 u
  have HW := Lib.hid CW
  have HX := Lib.hid CX
  clear CW CX
  go_enter Tryz.func48, Tryz.ntmps48
  go_upto_region 1 with fail
  have tt0 : (w.alloc (.cells #[.int .i64 1, .int .i64 0, .int .i64 2097152, .bool false, .int .i64 0] 54)).cell? ⟨w.heap.size, 0, none⟩ = some (.int .i64 1) := by first | (simp; done) | (rw [World.cell?_alloc_at _ _ _ _ (by simp)]; rfl) | (rw [World.cell?_alloc_past _ _ _ (by simp <;> omega), World.cell?_alloc_at _ _ _ _ (by simp)]; rfl) | (rw [World.cell?_alloc_past _ _ _ (by simp <;> omega), World.cell?_alloc_past _ _ _ (by simp <;> omega), World.cell?_alloc_at _ _ _ _ (by simp)]; rfl)
  have tt1 : (w.alloc (.cells #[.int .i64 1, .int .i64 0, .int .i64 2097152, .bool false, .int .i64 0] 54)).cell? ⟨w.heap.size, 1, none⟩ = some (.int .i64 0) := by first | (simp; done) | (rw [World.cell?_alloc_at _ _ _ _ (by simp)]; rfl) | (rw [World.cell?_alloc_past _ _ _ (by simp <;> omega), World.cell?_alloc_at _ _ _ _ (by simp)]; rfl) | (rw [World.cell?_alloc_past _ _ _ (by simp <;> omega), World.cell?_alloc_past _ _ _ (by simp <;> omega), World.cell?_alloc_at _ _ _ _ (by simp)]; rfl)
  have tt2 : (w.alloc (.cells #[.int .i64 1, .int .i64 0, .int .i64 2097152, .bool false, .int .i64 0] 54)).cell? ⟨w.heap.size, 2, none⟩ = some (.int .i64 2097152) := by first | (simp; done) | (rw [World.cell?_alloc_at _ _ _ _ (by simp)]; rfl) | (rw [World.cell?_alloc_past _ _ _ (by simp <;> omega), World.cell?_alloc_at _ _ _ _ (by simp)]; rfl) | (rw [World.cell?_alloc_past _ _ _ (by simp <;> omega), World.cell?_alloc_past _ _ _ (by simp <;> omega), World.cell?_alloc_at _ _ _ _ (by simp)]; rfl)
  have tt3 : (w.alloc (.cells #[.int .i64 1, .int .i64 0, .int .i64 2097152, .bool false, .int .i64 0] 54)).cell? ⟨w.heap.size, 3, none⟩ = some (.bool false) := by first | (simp; done) | (rw [World.cell?_alloc_at _ _ _ _ (by simp)]; rfl) | (rw [World.cell?_alloc_past _ _ _ (by simp <;> omega), World.cell?_alloc_at _ _ _ _ (by simp)]; rfl) | (rw [World.cell?_alloc_past _ _ _ (by simp <;> omega), World.cell?_alloc_past _ _ _ (by simp <;> omega), World.cell?_alloc_at _ _ _ _ (by simp)]; rfl)
  have tt4 : (w.alloc (.cells #[.int .i64 1, .int .i64 0, .int .i64 2097152, .bool false, .int .i64 0] 54)).cell? ⟨w.heap.size, 4, none⟩ = some (.int .i64 0) := by first | (simp; done) | (rw [World.cell?_alloc_at _ _ _ _ (by simp)]; rfl) | (rw [World.cell?_alloc_past _ _ _ (by simp <;> omega), World.cell?_alloc_at _ _ _ _ (by simp)]; rfl) | (rw [World.cell?_alloc_past _ _ _ (by simp <;> omega), World.cell?_alloc_past _ _ _ (by simp <;> omega), World.cell?_alloc_at _ _ _ _ (by simp)]; rfl)
  have hb2 := (by repeat (first | exact hbel | refine belAlloc ?_ _ | refine belDrew ?_ | refine belSet ?_ _ _ (by simp)) : Below w.heap.size w (w.alloc (.cells #[.int .i64 1, .int .i64 0, .int .i64 2097152, .bool false, .int .i64 0] 54)))
  replace hw := belStep hw hb2
  clear hb2 hbel
  generalize w.alloc (.cells #[.int .i64 1, .int .i64 0, .int .i64 2097152, .bool false, .int .i64 0] 54) = W1 at *
  replace tt0 := keep tt0
  replace tt1 := keep tt1
  replace tt2 := keep tt2
  replace tt3 := keep tt3
  replace tt4 := keep tt4
  have hbel : Below W1.heap.size W1 W1 := Below.refl _ _
  skip
  go_wp2_with (first | (go_at_call 64; (with_reducible refine (HW.out _).mono ?_); rintro e w' ⟨rfl, rfl⟩) | (go_at_call 43; (with_reducible refine (HX.out _).mono ?_); rintro e w' ⟨rfl, rfl⟩))
  go_ret
  exact ⟨rfl, belStep hw hbel⟩
set_option maxRecDepth 100000 in
set_option maxHeartbeats 2000000 in
theorem print_t (w : World) (ht : Tab w) : Calls Tryz.prog 24 #[.agg #[.int .i64 0, .int .i64 10, .int .i64 0, .bool true, .int .i64 5]] w fun e w' => e = .returned (.string ⟨#[109, 101, 109, 111, 114, 121, 60, 49, 48, 37, 58, 53]⟩) ∧ Below w.heap.size w w' := by
  have hw : Below w.heap.size w w := Below.refl _ _
  have hbel := hw
  have CX : ∀ u, Calls Tryz.prog 43 #[.int .i64 0] u fun e w' => e = .returned (.string ⟨#[109, 101, 109, 111, 114, 121]⟩) ∧ u = w' := fun u => thr_word 0 u
  have CI : ∀ u (hu : Below w.heap.size w u), Calls Tryz.prog 44 #[.int .i64 10] u fun e w' => e = .returned (.string ⟨#[49, 48]⟩) ∧ Below u.heap.size u w' := fun u hu => by
    have h := itoa_any 10 (by omega) (by omega) u (ht.later hu)
    rw [show (10 : Int).toNat = 10 from rfl, ddB10] at h; exact h
  have CJ : ∀ u (hu : Below w.heap.size w u), Calls Tryz.prog 44 #[.int .i64 5] u fun e w' => e = .returned (.string ⟨#[53]⟩) ∧ Below u.heap.size u w' := fun u hu => by
    have h := itoa_any 5 (by omega) (by omega) u (ht.later hu)
    rw [show (5 : Int).toNat = 5 from rfl, ddB5] at h; exact h
  have HX := Lib.hid CX
  have HI := Lib.hid CI
  have HJ := Lib.hid CJ
  clear CX CI CJ ht
  go_enter Tryz.func24, Tryz.ntmps24
  go_upto_region 1 with fail
  have tt0 : (w.alloc (.cells #[.int .i64 0, .int .i64 10, .int .i64 0, .bool true, .int .i64 5] 54)).cell? ⟨w.heap.size, 0, none⟩ = some (.int .i64 0) := by first | (simp; done) | (rw [World.cell?_alloc_at _ _ _ _ (by simp)]; rfl) | (rw [World.cell?_alloc_past _ _ _ (by simp <;> omega), World.cell?_alloc_at _ _ _ _ (by simp)]; rfl) | (rw [World.cell?_alloc_past _ _ _ (by simp <;> omega), World.cell?_alloc_past _ _ _ (by simp <;> omega), World.cell?_alloc_at _ _ _ _ (by simp)]; rfl)
  have tt1 : (w.alloc (.cells #[.int .i64 0, .int .i64 10, .int .i64 0, .bool true, .int .i64 5] 54)).cell? ⟨w.heap.size, 1, none⟩ = some (.int .i64 10) := by first | (simp; done) | (rw [World.cell?_alloc_at _ _ _ _ (by simp)]; rfl) | (rw [World.cell?_alloc_past _ _ _ (by simp <;> omega), World.cell?_alloc_at _ _ _ _ (by simp)]; rfl) | (rw [World.cell?_alloc_past _ _ _ (by simp <;> omega), World.cell?_alloc_past _ _ _ (by simp <;> omega), World.cell?_alloc_at _ _ _ _ (by simp)]; rfl)
  have tt2 : (w.alloc (.cells #[.int .i64 0, .int .i64 10, .int .i64 0, .bool true, .int .i64 5] 54)).cell? ⟨w.heap.size, 2, none⟩ = some (.int .i64 0) := by first | (simp; done) | (rw [World.cell?_alloc_at _ _ _ _ (by simp)]; rfl) | (rw [World.cell?_alloc_past _ _ _ (by simp <;> omega), World.cell?_alloc_at _ _ _ _ (by simp)]; rfl) | (rw [World.cell?_alloc_past _ _ _ (by simp <;> omega), World.cell?_alloc_past _ _ _ (by simp <;> omega), World.cell?_alloc_at _ _ _ _ (by simp)]; rfl)
  have tt3 : (w.alloc (.cells #[.int .i64 0, .int .i64 10, .int .i64 0, .bool true, .int .i64 5] 54)).cell? ⟨w.heap.size, 3, none⟩ = some (.bool true) := by first | (simp; done) | (rw [World.cell?_alloc_at _ _ _ _ (by simp)]; rfl) | (rw [World.cell?_alloc_past _ _ _ (by simp <;> omega), World.cell?_alloc_at _ _ _ _ (by simp)]; rfl) | (rw [World.cell?_alloc_past _ _ _ (by simp <;> omega), World.cell?_alloc_past _ _ _ (by simp <;> omega), World.cell?_alloc_at _ _ _ _ (by simp)]; rfl)
  have tt4 : (w.alloc (.cells #[.int .i64 0, .int .i64 10, .int .i64 0, .bool true, .int .i64 5] 54)).cell? ⟨w.heap.size, 4, none⟩ = some (.int .i64 5) := by first | (simp; done) | (rw [World.cell?_alloc_at _ _ _ _ (by simp)]; rfl) | (rw [World.cell?_alloc_past _ _ _ (by simp <;> omega), World.cell?_alloc_at _ _ _ _ (by simp)]; rfl) | (rw [World.cell?_alloc_past _ _ _ (by simp <;> omega), World.cell?_alloc_past _ _ _ (by simp <;> omega), World.cell?_alloc_at _ _ _ _ (by simp)]; rfl)
  have hb2 := (by repeat (first | exact hbel | refine belAlloc ?_ _ | refine belDrew ?_ | refine belSet ?_ _ _ (by simp)) : Below w.heap.size w (w.alloc (.cells #[.int .i64 0, .int .i64 10, .int .i64 0, .bool true, .int .i64 5] 54)))
  replace hw := belStep hw hb2
  clear hb2 hbel
  generalize w.alloc (.cells #[.int .i64 0, .int .i64 10, .int .i64 0, .bool true, .int .i64 5] 54) = W1 at *
  replace tt0 := keep tt0
  replace tt1 := keep tt1
  replace tt2 := keep tt2
  replace tt3 := keep tt3
  replace tt4 := keep tt4
  have hbel : Below W1.heap.size W1 W1 := Below.refl _ _
  skip
  go_wp2_with (first | (go_at_call 43; (with_reducible refine (HX.out _).mono ?_); rintro e w' ⟨rfl, rfl⟩) | (go_at_call 44; (with_reducible refine (HI.out _ (belStep hw hbel)).mono ?_); rintro e w1 ⟨rfl, hb1⟩; replace hbel := belStep hbel hb1; clear hb1) | (go_at_call 44; (with_reducible refine (HJ.out _ (belStep hw hbel)).mono ?_); rintro e w1 ⟨rfl, hb1⟩; replace hbel := belStep hbel hb1; clear hb1))
  go_ret
  exact ⟨rfl, belStep hw hbel⟩
end Go.Proofs.YtcaenbobfneejaaGreatDoor
