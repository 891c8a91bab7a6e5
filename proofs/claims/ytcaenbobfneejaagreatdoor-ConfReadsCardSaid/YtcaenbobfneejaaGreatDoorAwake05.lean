
/- The fixed answers of layer 5's statements. -/
import Derived.Test.YtcaenbobfneejaaGreatDoorQuantB
namespace Go.Proofs.YtcaenbobfneejaaGreatDoor
open Go.RowKit
set_option linter.unusedVariables false
set_option linter.unusedSimpArgs false

theorem read_a (w : World) : Calls Tryz.prog 35 #[.string ⟨#[49, 50, 77, 105]⟩] w fun e w' => e = .returned (.tuple #[.int .i64 12582912, .int .i64 0]) ∧ Below w.heap.size w w' := by
  have h := quant_Read ⟨#[49, 50, 77, 105]⟩ w (by decide)
  have e1 : qN (⟨#[49, 50, 77, 105]⟩ : ByteArray).toList = 12582912 := by rw [sl]; decide +kernel
  have e2 : qE (⟨#[49, 50, 77, 105]⟩ : ByteArray).toList = 0 := by rw [sl]; decide +kernel
  rw [e1, e2] at h
  exact h
theorem read_b (w : World) : Calls Tryz.prog 35 #[.string ⟨#[77, 105]⟩] w fun e w' => e = .returned (.tuple #[.int .i64 0, .int .i64 2]) ∧ Below w.heap.size w w' := by
  have h := quant_Read ⟨#[77, 105]⟩ w (by decide)
  have e1 : qN (⟨#[77, 105]⟩ : ByteArray).toList = 0 := by rw [sl]; decide +kernel
  have e2 : qE (⟨#[77, 105]⟩ : ByteArray).toList = 2 := by rw [sl]; decide +kernel
  rw [e1, e2] at h
  exact h
theorem read_c (w : World) : Calls Tryz.prog 35 #[.string ⟨#[49, 109]⟩] w fun e w' => e = .returned (.tuple #[.int .i64 0, .int .i64 2]) ∧ Below w.heap.size w w' := by
  have h := quant_Read ⟨#[49, 109]⟩ w (by decide)
  have e1 : qN (⟨#[49, 109]⟩ : ByteArray).toList = 0 := by rw [sl]; decide +kernel
  have e2 : qE (⟨#[49, 109]⟩ : ByteArray).toList = 2 := by rw [sl]; decide +kernel
  rw [e1, e2] at h
  exact h
theorem dd_one (u : Nat) (h : u < 10) : ddB u = ⟨#[UInt8.ofNat (48 + u)]⟩ := by unfold ddB; rw [dd_small h]
theorem print_a (w : World) (ht : Tab w) : Calls Tryz.prog 42 #[.int .i64 2048] w fun e w' => e = .returned (.string ⟨#[50, 75, 105]⟩) ∧ Below w.heap.size w w' := by
  have h := quant_Print 2048 w (by unfold InI; omega) ht
  have e0 : bf 2048 8 = some 6 := by decide +kernel
  have e1 : prAll 2048 = ⟨#[50, 75, 105]⟩ := by
    unfold prAll prB; rw [if_neg (by omega), e0]
    show ddB ((2048 : Int) / 1024).toNat ++ nmB 6 = _
    rw [show ((2048 : Int) / 1024).toNat = 2 by decide, dd_one 2 (by omega)]; decide +kernel
  rw [e1] at h; exact h
theorem print_b (w : World) (ht : Tab w) : Calls Tryz.prog 42 #[.int .i64 3000] w fun e w' => e = .returned (.string ⟨#[51, 107]⟩) ∧ Below w.heap.size w w' := by
  have h := quant_Print 3000 w (by unfold InI; omega) ht
  have e0 : bf 3000 8 = some 7 := by decide +kernel
  have e1 : prAll 3000 = ⟨#[51, 107]⟩ := by
    unfold prAll prB; rw [if_neg (by omega), e0]
    show ddB ((3000 : Int) / 1000).toNat ++ nmB 7 = _
    rw [show ((3000 : Int) / 1000).toNat = 3 by decide, dd_one 3 (by omega)]; decide +kernel
  rw [e1] at h; exact h
theorem print_c (w : World) (ht : Tab w) : Calls Tryz.prog 42 #[.int .i64 0] w fun e w' => e = .returned (.string ⟨#[48]⟩) ∧ Below w.heap.size w w' := quant_Print 0 w (by unfold InI; omega) ht
theorem unit_a (w : World) : Calls Tryz.prog 57 #[.string ⟨#[]⟩] w fun e w' => e = .returned (.int .i64 1) ∧ w = w' := by
  have h := quant_Unit ⟨#[]⟩ w
  have e1 : unitL (⟨#[]⟩ : ByteArray).toList = 1 := by rw [sl]; rfl
  rw [e1] at h; exact h

end Go.Proofs.YtcaenbobfneejaaGreatDoor
