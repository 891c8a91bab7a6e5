
/- bilgeref06.Right: contract. -/
import Derived.Test.YtdmnogljdkncpaaDoorThrRef
import Derived.Test.YtdmnogljdkncpaaDoorThrRef2
namespace Go.Proofs.YtdmnogljdkncpaaDoor
open Go.RowKit
set_option linter.unusedVariables false
set_option linter.unusedSimpArgs false

set_option maxRecDepth 100000 in
set_option maxHeartbeats 8000000 in
theorem ref_Right (sg pc am gr : Int) (so : Bool) (w : World) : Calls Tryd.prog 6 #[.agg #[.int .i64 sg, .int .i64 pc, .int .i64 am, .bool so, .int .i64 gr]] w fun e w' => e = .returned (.bool (⟨sg, pc, am, so, gr⟩ : ThrV).right) ∧ Below w.heap.size w w' := by
  have hw : Below w.heap.size w w := Below.refl _ _
  have hbel := hw
  rcases Int.lt_or_le sg 0 with h1 | h1
  · have HR := Lib.hid (rt_false (so := so) (gr := gr) (show sg < 0 ∨ 2 < sg ∨ pc < 0 ∨ 100 < pc ∨ am < 0 ∨ (pc = 0 ∧ am = 0) ∨ (pc ≠ 0 ∧ am ≠ 0) by omega))
    go_enter Tryd.func6, Tryd.ntmps6
    go_upto_region 1 with fail
    have tt0 : (w.alloc (.cells #[.int .i64 sg, .int .i64 pc, .int .i64 am, .bool so, .int .i64 gr] 23)).cell? ⟨w.heap.size, 0, none⟩ = some (.int .i64 sg) := by first | (simp; done) | (rw [World.cell?_alloc_at _ _ _ _ (by simp)]; rfl) | (rw [World.cell?_alloc_past _ _ _ (by simp <;> omega), World.cell?_alloc_at _ _ _ _ (by simp)]; rfl) | (rw [World.cell?_alloc_past _ _ _ (by simp <;> omega), World.cell?_alloc_past _ _ _ (by simp <;> omega), World.cell?_alloc_at _ _ _ _ (by simp)]; rfl)
    have tt1 : (w.alloc (.cells #[.int .i64 sg, .int .i64 pc, .int .i64 am, .bool so, .int .i64 gr] 23)).cell? ⟨w.heap.size, 1, none⟩ = some (.int .i64 pc) := by first | (simp; done) | (rw [World.cell?_alloc_at _ _ _ _ (by simp)]; rfl) | (rw [World.cell?_alloc_past _ _ _ (by simp <;> omega), World.cell?_alloc_at _ _ _ _ (by simp)]; rfl) | (rw [World.cell?_alloc_past _ _ _ (by simp <;> omega), World.cell?_alloc_past _ _ _ (by simp <;> omega), World.cell?_alloc_at _ _ _ _ (by simp)]; rfl)
    have tt2 : (w.alloc (.cells #[.int .i64 sg, .int .i64 pc, .int .i64 am, .bool so, .int .i64 gr] 23)).cell? ⟨w.heap.size, 2, none⟩ = some (.int .i64 am) := by first | (simp; done) | (rw [World.cell?_alloc_at _ _ _ _ (by simp)]; rfl) | (rw [World.cell?_alloc_past _ _ _ (by simp <;> omega), World.cell?_alloc_at _ _ _ _ (by simp)]; rfl) | (rw [World.cell?_alloc_past _ _ _ (by simp <;> omega), World.cell?_alloc_past _ _ _ (by simp <;> omega), World.cell?_alloc_at _ _ _ _ (by simp)]; rfl)
    have tt3 : (w.alloc (.cells #[.int .i64 sg, .int .i64 pc, .int .i64 am, .bool so, .int .i64 gr] 23)).cell? ⟨w.heap.size, 3, none⟩ = some (.bool so) := by first | (simp; done) | (rw [World.cell?_alloc_at _ _ _ _ (by simp)]; rfl) | (rw [World.cell?_alloc_past _ _ _ (by simp <;> omega), World.cell?_alloc_at _ _ _ _ (by simp)]; rfl) | (rw [World.cell?_alloc_past _ _ _ (by simp <;> omega), World.cell?_alloc_past _ _ _ (by simp <;> omega), World.cell?_alloc_at _ _ _ _ (by simp)]; rfl)
    have tt4 : (w.alloc (.cells #[.int .i64 sg, .int .i64 pc, .int .i64 am, .bool so, .int .i64 gr] 23)).cell? ⟨w.heap.size, 4, none⟩ = some (.int .i64 gr) := by first | (simp; done) | (rw [World.cell?_alloc_at _ _ _ _ (by simp)]; rfl) | (rw [World.cell?_alloc_past _ _ _ (by simp <;> omega), World.cell?_alloc_at _ _ _ _ (by simp)]; rfl) | (rw [World.cell?_alloc_past _ _ _ (by simp <;> omega), World.cell?_alloc_past _ _ _ (by simp <;> omega), World.cell?_alloc_at _ _ _ _ (by simp)]; rfl)
    have hb2 := (by repeat (first | exact hbel | refine belAlloc ?_ _ | refine belDrew ?_ | refine belSet ?_ _ _ (by simp)) : Below w.heap.size w (w.alloc (.cells #[.int .i64 sg, .int .i64 pc, .int .i64 am, .bool so, .int .i64 gr] 23)))
    replace hw := belStep hw hb2
    clear hb2 hbel
    generalize w.alloc (.cells #[.int .i64 sg, .int .i64 pc, .int .i64 am, .bool so, .int .i64 gr] 23) = W1 at *
    replace tt0 := keep tt0
    replace tt1 := keep tt1
    replace tt2 := keep tt2
    replace tt3 := keep tt3
    replace tt4 := keep tt4
    have hbel : Below W1.heap.size W1 W1 := Below.refl _ _
    skip
    go_wp2
    go_ret
    exact ⟨by rw [HR.out]; rfl, belStep hw hbel⟩
  rcases Int.lt_or_le 2 sg with h2 | h2
  · have HR := Lib.hid (rt_false (so := so) (gr := gr) (show sg < 0 ∨ 2 < sg ∨ pc < 0 ∨ 100 < pc ∨ am < 0 ∨ (pc = 0 ∧ am = 0) ∨ (pc ≠ 0 ∧ am ≠ 0) by omega))
    go_enter Tryd.func6, Tryd.ntmps6
    go_upto_region 1 with fail
    have tt0 : (w.alloc (.cells #[.int .i64 sg, .int .i64 pc, .int .i64 am, .bool so, .int .i64 gr] 23)).cell? ⟨w.heap.size, 0, none⟩ = some (.int .i64 sg) := by first | (simp; done) | (rw [World.cell?_alloc_at _ _ _ _ (by simp)]; rfl) | (rw [World.cell?_alloc_past _ _ _ (by simp <;> omega), World.cell?_alloc_at _ _ _ _ (by simp)]; rfl) | (rw [World.cell?_alloc_past _ _ _ (by simp <;> omega), World.cell?_alloc_past _ _ _ (by simp <;> omega), World.cell?_alloc_at _ _ _ _ (by simp)]; rfl)
    have tt1 : (w.alloc (.cells #[.int .i64 sg, .int .i64 pc, .int .i64 am, .bool so, .int .i64 gr] 23)).cell? ⟨w.heap.size, 1, none⟩ = some (.int .i64 pc) := by first | (simp; done) | (rw [World.cell?_alloc_at _ _ _ _ (by simp)]; rfl) | (rw [World.cell?_alloc_past _ _ _ (by simp <;> omega), World.cell?_alloc_at _ _ _ _ (by simp)]; rfl) | (rw [World.cell?_alloc_past _ _ _ (by simp <;> omega), World.cell?_alloc_past _ _ _ (by simp <;> omega), World.cell?_alloc_at _ _ _ _ (by simp)]; rfl)
    have tt2 : (w.alloc (.cells #[.int .i64 sg, .int .i64 pc, .int .i64 am, .bool so, .int .i64 gr] 23)).cell? ⟨w.heap.size, 2, none⟩ = some (.int .i64 am) := by first | (simp; done) | (rw [World.cell?_alloc_at _ _ _ _ (by simp)]; rfl) | (rw [World.cell?_alloc_past _ _ _ (by simp <;> omega), World.cell?_alloc_at _ _ _ _ (by simp)]; rfl) | (rw [World.cell?_alloc_past _ _ _ (by simp <;> omega), World.cell?_alloc_past _ _ _ (by simp <;> omega), World.cell?_alloc_at _ _ _ _ (by simp)]; rfl)
    have tt3 : (w.alloc (.cells #[.int .i64 sg, .int .i64 pc, .int .i64 am, .bool so, .int .i64 gr] 23)).cell? ⟨w.heap.size, 3, none⟩ = some (.bool so) := by first | (simp; done) | (rw [World.cell?_alloc_at _ _ _ _ (by simp)]; rfl) | (rw [World.cell?_alloc_past _ _ _ (by simp <;> omega), World.cell?_alloc_at _ _ _ _ (by simp)]; rfl) | (rw [World.cell?_alloc_past _ _ _ (by simp <;> omega), World.cell?_alloc_past _ _ _ (by simp <;> omega), World.cell?_alloc_at _ _ _ _ (by simp)]; rfl)
    have tt4 : (w.alloc (.cells #[.int .i64 sg, .int .i64 pc, .int .i64 am, .bool so, .int .i64 gr] 23)).cell? ⟨w.heap.size, 4, none⟩ = some (.int .i64 gr) := by first | (simp; done) | (rw [World.cell?_alloc_at _ _ _ _ (by simp)]; rfl) | (rw [World.cell?_alloc_past _ _ _ (by simp <;> omega), World.cell?_alloc_at _ _ _ _ (by simp)]; rfl) | (rw [World.cell?_alloc_past _ _ _ (by simp <;> omega), World.cell?_alloc_past _ _ _ (by simp <;> omega), World.cell?_alloc_at _ _ _ _ (by simp)]; rfl)
    have hb2 := (by repeat (first | exact hbel | refine belAlloc ?_ _ | refine belDrew ?_ | refine belSet ?_ _ _ (by simp)) : Below w.heap.size w (w.alloc (.cells #[.int .i64 sg, .int .i64 pc, .int .i64 am, .bool so, .int .i64 gr] 23)))
    replace hw := belStep hw hb2
    clear hb2 hbel
    generalize w.alloc (.cells #[.int .i64 sg, .int .i64 pc, .int .i64 am, .bool so, .int .i64 gr] 23) = W1 at *
    replace tt0 := keep tt0
    replace tt1 := keep tt1
    replace tt2 := keep tt2
    replace tt3 := keep tt3
    replace tt4 := keep tt4
    have hbel : Below W1.heap.size W1 W1 := Below.refl _ _
    skip
    go_wp2
    go_ret
    exact ⟨by rw [HR.out]; rfl, belStep hw hbel⟩
  rcases Int.lt_or_le pc 0 with h3 | h3
  · have HR := Lib.hid (rt_false (so := so) (gr := gr) (show sg < 0 ∨ 2 < sg ∨ pc < 0 ∨ 100 < pc ∨ am < 0 ∨ (pc = 0 ∧ am = 0) ∨ (pc ≠ 0 ∧ am ≠ 0) by omega))
    go_enter Tryd.func6, Tryd.ntmps6
    go_upto_region 1 with fail
    have tt0 : (w.alloc (.cells #[.int .i64 sg, .int .i64 pc, .int .i64 am, .bool so, .int .i64 gr] 23)).cell? ⟨w.heap.size, 0, none⟩ = some (.int .i64 sg) := by first | (simp; done) | (rw [World.cell?_alloc_at _ _ _ _ (by simp)]; rfl) | (rw [World.cell?_alloc_past _ _ _ (by simp <;> omega), World.cell?_alloc_at _ _ _ _ (by simp)]; rfl) | (rw [World.cell?_alloc_past _ _ _ (by simp <;> omega), World.cell?_alloc_past _ _ _ (by simp <;> omega), World.cell?_alloc_at _ _ _ _ (by simp)]; rfl)
    have tt1 : (w.alloc (.cells #[.int .i64 sg, .int .i64 pc, .int .i64 am, .bool so, .int .i64 gr] 23)).cell? ⟨w.heap.size, 1, none⟩ = some (.int .i64 pc) := by first | (simp; done) | (rw [World.cell?_alloc_at _ _ _ _ (by simp)]; rfl) | (rw [World.cell?_alloc_past _ _ _ (by simp <;> omega), World.cell?_alloc_at _ _ _ _ (by simp)]; rfl) | (rw [World.cell?_alloc_past _ _ _ (by simp <;> omega), World.cell?_alloc_past _ _ _ (by simp <;> omega), World.cell?_alloc_at _ _ _ _ (by simp)]; rfl)
    have tt2 : (w.alloc (.cells #[.int .i64 sg, .int .i64 pc, .int .i64 am, .bool so, .int .i64 gr] 23)).cell? ⟨w.heap.size, 2, none⟩ = some (.int .i64 am) := by first | (simp; done) | (rw [World.cell?_alloc_at _ _ _ _ (by simp)]; rfl) | (rw [World.cell?_alloc_past _ _ _ (by simp <;> omega), World.cell?_alloc_at _ _ _ _ (by simp)]; rfl) | (rw [World.cell?_alloc_past _ _ _ (by simp <;> omega), World.cell?_alloc_past _ _ _ (by simp <;> omega), World.cell?_alloc_at _ _ _ _ (by simp)]; rfl)
    have tt3 : (w.alloc (.cells #[.int .i64 sg, .int .i64 pc, .int .i64 am, .bool so, .int .i64 gr] 23)).cell? ⟨w.heap.size, 3, none⟩ = some (.bool so) := by first | (simp; done) | (rw [World.cell?_alloc_at _ _ _ _ (by simp)]; rfl) | (rw [World.cell?_alloc_past _ _ _ (by simp <;> omega), World.cell?_alloc_at _ _ _ _ (by simp)]; rfl) | (rw [World.cell?_alloc_past _ _ _ (by simp <;> omega), World.cell?_alloc_past _ _ _ (by simp <;> omega), World.cell?_alloc_at _ _ _ _ (by simp)]; rfl)
    have tt4 : (w.alloc (.cells #[.int .i64 sg, .int .i64 pc, .int .i64 am, .bool so, .int .i64 gr] 23)).cell? ⟨w.heap.size, 4, none⟩ = some (.int .i64 gr) := by first | (simp; done) | (rw [World.cell?_alloc_at _ _ _ _ (by simp)]; rfl) | (rw [World.cell?_alloc_past _ _ _ (by simp <;> omega), World.cell?_alloc_at _ _ _ _ (by simp)]; rfl) | (rw [World.cell?_alloc_past _ _ _ (by simp <;> omega), World.cell?_alloc_past _ _ _ (by simp <;> omega), World.cell?_alloc_at _ _ _ _ (by simp)]; rfl)
    have hb2 := (by repeat (first | exact hbel | refine belAlloc ?_ _ | refine belDrew ?_ | refine belSet ?_ _ _ (by simp)) : Below w.heap.size w (w.alloc (.cells #[.int .i64 sg, .int .i64 pc, .int .i64 am, .bool so, .int .i64 gr] 23)))
    replace hw := belStep hw hb2
    clear hb2 hbel
    generalize w.alloc (.cells #[.int .i64 sg, .int .i64 pc, .int .i64 am, .bool so, .int .i64 gr] 23) = W1 at *
    replace tt0 := keep tt0
    replace tt1 := keep tt1
    replace tt2 := keep tt2
    replace tt3 := keep tt3
    replace tt4 := keep tt4
    have hbel : Below W1.heap.size W1 W1 := Below.refl _ _
    skip
    go_wp2
    go_ret
    exact ⟨by rw [HR.out]; rfl, belStep hw hbel⟩
  rcases Int.lt_or_le 100 pc with h4 | h4
  · have HR := Lib.hid (rt_false (so := so) (gr := gr) (show sg < 0 ∨ 2 < sg ∨ pc < 0 ∨ 100 < pc ∨ am < 0 ∨ (pc = 0 ∧ am = 0) ∨ (pc ≠ 0 ∧ am ≠ 0) by omega))
    go_enter Tryd.func6, Tryd.ntmps6
    go_upto_region 1 with fail
    have tt0 : (w.alloc (.cells #[.int .i64 sg, .int .i64 pc, .int .i64 am, .bool so, .int .i64 gr] 23)).cell? ⟨w.heap.size, 0, none⟩ = some (.int .i64 sg) := by first | (simp; done) | (rw [World.cell?_alloc_at _ _ _ _ (by simp)]; rfl) | (rw [World.cell?_alloc_past _ _ _ (by simp <;> omega), World.cell?_alloc_at _ _ _ _ (by simp)]; rfl) | (rw [World.cell?_alloc_past _ _ _ (by simp <;> omega), World.cell?_alloc_past _ _ _ (by simp <;> omega), World.cell?_alloc_at _ _ _ _ (by simp)]; rfl)
    have tt1 : (w.alloc (.cells #[.int .i64 sg, .int .i64 pc, .int .i64 am, .bool so, .int .i64 gr] 23)).cell? ⟨w.heap.size, 1, none⟩ = some (.int .i64 pc) := by first | (simp; done) | (rw [World.cell?_alloc_at _ _ _ _ (by simp)]; rfl) | (rw [World.cell?_alloc_past _ _ _ (by simp <;> omega), World.cell?_alloc_at _ _ _ _ (by simp)]; rfl) | (rw [World.cell?_alloc_past _ _ _ (by simp <;> omega), World.cell?_alloc_past _ _ _ (by simp <;> omega), World.cell?_alloc_at _ _ _ _ (by simp)]; rfl)
    have tt2 : (w.alloc (.cells #[.int .i64 sg, .int .i64 pc, .int .i64 am, .bool so, .int .i64 gr] 23)).cell? ⟨w.heap.size, 2, none⟩ = some (.int .i64 am) := by first | (simp; done) | (rw [World.cell?_alloc_at _ _ _ _ (by simp)]; rfl) | (rw [World.cell?_alloc_past _ _ _ (by simp <;> omega), World.cell?_alloc_at _ _ _ _ (by simp)]; rfl) | (rw [World.cell?_alloc_past _ _ _ (by simp <;> omega), World.cell?_alloc_past _ _ _ (by simp <;> omega), World.cell?_alloc_at _ _ _ _ (by simp)]; rfl)
    have tt3 : (w.alloc (.cells #[.int .i64 sg, .int .i64 pc, .int .i64 am, .bool so, .int .i64 gr] 23)).cell? ⟨w.heap.size, 3, none⟩ = some (.bool so) := by first | (simp; done) | (rw [World.cell?_alloc_at _ _ _ _ (by simp)]; rfl) | (rw [World.cell?_alloc_past _ _ _ (by simp <;> omega), World.cell?_alloc_at _ _ _ _ (by simp)]; rfl) | (rw [World.cell?_alloc_past _ _ _ (by simp <;> omega), World.cell?_alloc_past _ _ _ (by simp <;> omega), World.cell?_alloc_at _ _ _ _ (by simp)]; rfl)
    have tt4 : (w.alloc (.cells #[.int .i64 sg, .int .i64 pc, .int .i64 am, .bool so, .int .i64 gr] 23)).cell? ⟨w.heap.size, 4, none⟩ = some (.int .i64 gr) := by first | (simp; done) | (rw [World.cell?_alloc_at _ _ _ _ (by simp)]; rfl) | (rw [World.cell?_alloc_past _ _ _ (by simp <;> omega), World.cell?_alloc_at _ _ _ _ (by simp)]; rfl) | (rw [World.cell?_alloc_past _ _ _ (by simp <;> omega), World.cell?_alloc_past _ _ _ (by simp <;> omega), World.cell?_alloc_at _ _ _ _ (by simp)]; rfl)
    have hb2 := (by repeat (first | exact hbel | refine belAlloc ?_ _ | refine belDrew ?_ | refine belSet ?_ _ _ (by simp)) : Below w.heap.size w (w.alloc (.cells #[.int .i64 sg, .int .i64 pc, .int .i64 am, .bool so, .int .i64 gr] 23)))
    replace hw := belStep hw hb2
    clear hb2 hbel
    generalize w.alloc (.cells #[.int .i64 sg, .int .i64 pc, .int .i64 am, .bool so, .int .i64 gr] 23) = W1 at *
    replace tt0 := keep tt0
    replace tt1 := keep tt1
    replace tt2 := keep tt2
    replace tt3 := keep tt3
    replace tt4 := keep tt4
    have hbel : Below W1.heap.size W1 W1 := Below.refl _ _
    skip
    go_wp2
    go_ret
    exact ⟨by rw [HR.out]; rfl, belStep hw hbel⟩
  rcases Int.lt_or_le am 0 with h5 | h5
  · have HR := Lib.hid (rt_false (so := so) (gr := gr) (show sg < 0 ∨ 2 < sg ∨ pc < 0 ∨ 100 < pc ∨ am < 0 ∨ (pc = 0 ∧ am = 0) ∨ (pc ≠ 0 ∧ am ≠ 0) by omega))
    go_enter Tryd.func6, Tryd.ntmps6
    go_upto_region 1 with fail
    have tt0 : (w.alloc (.cells #[.int .i64 sg, .int .i64 pc, .int .i64 am, .bool so, .int .i64 gr] 23)).cell? ⟨w.heap.size, 0, none⟩ = some (.int .i64 sg) := by first | (simp; done) | (rw [World.cell?_alloc_at _ _ _ _ (by simp)]; rfl) | (rw [World.cell?_alloc_past _ _ _ (by simp <;> omega), World.cell?_alloc_at _ _ _ _ (by simp)]; rfl) | (rw [World.cell?_alloc_past _ _ _ (by simp <;> omega), World.cell?_alloc_past _ _ _ (by simp <;> omega), World.cell?_alloc_at _ _ _ _ (by simp)]; rfl)
    have tt1 : (w.alloc (.cells #[.int .i64 sg, .int .i64 pc, .int .i64 am, .bool so, .int .i64 gr] 23)).cell? ⟨w.heap.size, 1, none⟩ = some (.int .i64 pc) := by first | (simp; done) | (rw [World.cell?_alloc_at _ _ _ _ (by simp)]; rfl) | (rw [World.cell?_alloc_past _ _ _ (by simp <;> omega), World.cell?_alloc_at _ _ _ _ (by simp)]; rfl) | (rw [World.cell?_alloc_past _ _ _ (by simp <;> omega), World.cell?_alloc_past _ _ _ (by simp <;> omega), World.cell?_alloc_at _ _ _ _ (by simp)]; rfl)
    have tt2 : (w.alloc (.cells #[.int .i64 sg, .int .i64 pc, .int .i64 am, .bool so, .int .i64 gr] 23)).cell? ⟨w.heap.size, 2, none⟩ = some (.int .i64 am) := by first | (simp; done) | (rw [World.cell?_alloc_at _ _ _ _ (by simp)]; rfl) | (rw [World.cell?_alloc_past _ _ _ (by simp <;> omega), World.cell?_alloc_at _ _ _ _ (by simp)]; rfl) | (rw [World.cell?_alloc_past _ _ _ (by simp <;> omega), World.cell?_alloc_past _ _ _ (by simp <;> omega), World.cell?_alloc_at _ _ _ _ (by simp)]; rfl)
    have tt3 : (w.alloc (.cells #[.int .i64 sg, .int .i64 pc, .int .i64 am, .bool so, .int .i64 gr] 23)).cell? ⟨w.heap.size, 3, none⟩ = some (.bool so) := by first | (simp; done) | (rw [World.cell?_alloc_at _ _ _ _ (by simp)]; rfl) | (rw [World.cell?_alloc_past _ _ _ (by simp <;> omega), World.cell?_alloc_at _ _ _ _ (by simp)]; rfl) | (rw [World.cell?_alloc_past _ _ _ (by simp <;> omega), World.cell?_alloc_past _ _ _ (by simp <;> omega), World.cell?_alloc_at _ _ _ _ (by simp)]; rfl)
    have tt4 : (w.alloc (.cells #[.int .i64 sg, .int .i64 pc, .int .i64 am, .bool so, .int .i64 gr] 23)).cell? ⟨w.heap.size, 4, none⟩ = some (.int .i64 gr) := by first | (simp; done) | (rw [World.cell?_alloc_at _ _ _ _ (by simp)]; rfl) | (rw [World.cell?_alloc_past _ _ _ (by simp <;> omega), World.cell?_alloc_at _ _ _ _ (by simp)]; rfl) | (rw [World.cell?_alloc_past _ _ _ (by simp <;> omega), World.cell?_alloc_past _ _ _ (by simp <;> omega), World.cell?_alloc_at _ _ _ _ (by simp)]; rfl)
    have hb2 := (by repeat (first | exact hbel | refine belAlloc ?_ _ | refine belDrew ?_ | refine belSet ?_ _ _ (by simp)) : Below w.heap.size w (w.alloc (.cells #[.int .i64 sg, .int .i64 pc, .int .i64 am, .bool so, .int .i64 gr] 23)))
    replace hw := belStep hw hb2
    clear hb2 hbel
    generalize w.alloc (.cells #[.int .i64 sg, .int .i64 pc, .int .i64 am, .bool so, .int .i64 gr] 23) = W1 at *
    replace tt0 := keep tt0
    replace tt1 := keep tt1
    replace tt2 := keep tt2
    replace tt3 := keep tt3
    replace tt4 := keep tt4
    have hbel : Below W1.heap.size W1 W1 := Below.refl _ _
    skip
    go_wp2
    go_ret
    exact ⟨by rw [HR.out]; rfl, belStep hw hbel⟩
  have key : ((pc == 0) = true ∧ (am == 0) = true ∧ pc = 0 ∧ am = 0) ∨ ((pc == 0) = false ∧ (am == 0) = false ∧ pc ≠ 0 ∧ am ≠ 0) ∨ ((pc == 0) = true ∧ (am == 0) = false ∧ pc = 0 ∧ am ≠ 0) ∨ ((pc == 0) = false ∧ (am == 0) = true ∧ pc ≠ 0 ∧ am = 0) := by
    rcases Int.decEq pc 0 with a | a <;> rcases Int.decEq am 0 with b | b <;> simp [a, b]
  rcases key with ⟨t1, t2, k1, k2⟩ | ⟨t1, t2, k1, k2⟩ | ⟨t1, t2, k1, k2⟩ | ⟨t1, t2, k1, k2⟩
  · have HR := Lib.hid (rt_false (sg := sg) (so := so) (gr := gr) (show sg < 0 ∨ 2 < sg ∨ pc < 0 ∨ 100 < pc ∨ am < 0 ∨ (pc = 0 ∧ am = 0) ∨ (pc ≠ 0 ∧ am ≠ 0) by omega))
    clear k1 k2
    go_enter Tryd.func6, Tryd.ntmps6
    go_upto_region 1 with fail
    have tt0 : (w.alloc (.cells #[.int .i64 sg, .int .i64 pc, .int .i64 am, .bool so, .int .i64 gr] 23)).cell? ⟨w.heap.size, 0, none⟩ = some (.int .i64 sg) := by first | (simp; done) | (rw [World.cell?_alloc_at _ _ _ _ (by simp)]; rfl) | (rw [World.cell?_alloc_past _ _ _ (by simp <;> omega), World.cell?_alloc_at _ _ _ _ (by simp)]; rfl) | (rw [World.cell?_alloc_past _ _ _ (by simp <;> omega), World.cell?_alloc_past _ _ _ (by simp <;> omega), World.cell?_alloc_at _ _ _ _ (by simp)]; rfl)
    have tt1 : (w.alloc (.cells #[.int .i64 sg, .int .i64 pc, .int .i64 am, .bool so, .int .i64 gr] 23)).cell? ⟨w.heap.size, 1, none⟩ = some (.int .i64 pc) := by first | (simp; done) | (rw [World.cell?_alloc_at _ _ _ _ (by simp)]; rfl) | (rw [World.cell?_alloc_past _ _ _ (by simp <;> omega), World.cell?_alloc_at _ _ _ _ (by simp)]; rfl) | (rw [World.cell?_alloc_past _ _ _ (by simp <;> omega), World.cell?_alloc_past _ _ _ (by simp <;> omega), World.cell?_alloc_at _ _ _ _ (by simp)]; rfl)
    have tt2 : (w.alloc (.cells #[.int .i64 sg, .int .i64 pc, .int .i64 am, .bool so, .int .i64 gr] 23)).cell? ⟨w.heap.size, 2, none⟩ = some (.int .i64 am) := by first | (simp; done) | (rw [World.cell?_alloc_at _ _ _ _ (by simp)]; rfl) | (rw [World.cell?_alloc_past _ _ _ (by simp <;> omega), World.cell?_alloc_at _ _ _ _ (by simp)]; rfl) | (rw [World.cell?_alloc_past _ _ _ (by simp <;> omega), World.cell?_alloc_past _ _ _ (by simp <;> omega), World.cell?_alloc_at _ _ _ _ (by simp)]; rfl)
    have tt3 : (w.alloc (.cells #[.int .i64 sg, .int .i64 pc, .int .i64 am, .bool so, .int .i64 gr] 23)).cell? ⟨w.heap.size, 3, none⟩ = some (.bool so) := by first | (simp; done) | (rw [World.cell?_alloc_at _ _ _ _ (by simp)]; rfl) | (rw [World.cell?_alloc_past _ _ _ (by simp <;> omega), World.cell?_alloc_at _ _ _ _ (by simp)]; rfl) | (rw [World.cell?_alloc_past _ _ _ (by simp <;> omega), World.cell?_alloc_past _ _ _ (by simp <;> omega), World.cell?_alloc_at _ _ _ _ (by simp)]; rfl)
    have tt4 : (w.alloc (.cells #[.int .i64 sg, .int .i64 pc, .int .i64 am, .bool so, .int .i64 gr] 23)).cell? ⟨w.heap.size, 4, none⟩ = some (.int .i64 gr) := by first | (simp; done) | (rw [World.cell?_alloc_at _ _ _ _ (by simp)]; rfl) | (rw [World.cell?_alloc_past _ _ _ (by simp <;> omega), World.cell?_alloc_at _ _ _ _ (by simp)]; rfl) | (rw [World.cell?_alloc_past _ _ _ (by simp <;> omega), World.cell?_alloc_past _ _ _ (by simp <;> omega), World.cell?_alloc_at _ _ _ _ (by simp)]; rfl)
    have hb2 := (by repeat (first | exact hbel | refine belAlloc ?_ _ | refine belDrew ?_ | refine belSet ?_ _ _ (by simp)) : Below w.heap.size w (w.alloc (.cells #[.int .i64 sg, .int .i64 pc, .int .i64 am, .bool so, .int .i64 gr] 23)))
    replace hw := belStep hw hb2
    clear hb2 hbel
    generalize w.alloc (.cells #[.int .i64 sg, .int .i64 pc, .int .i64 am, .bool so, .int .i64 gr] 23) = W1 at *
    replace tt0 := keep tt0
    replace tt1 := keep tt1
    replace tt2 := keep tt2
    replace tt3 := keep tt3
    replace tt4 := keep tt4
    have hbel : Below W1.heap.size W1 W1 := Below.refl _ _
    skip
    go_wp2
    go_ret
    exact ⟨by rw [HR.out]; rfl, belStep hw hbel⟩
  · have HR := Lib.hid (rt_false (sg := sg) (so := so) (gr := gr) (show sg < 0 ∨ 2 < sg ∨ pc < 0 ∨ 100 < pc ∨ am < 0 ∨ (pc = 0 ∧ am = 0) ∨ (pc ≠ 0 ∧ am ≠ 0) by omega))
    clear k1 k2
    go_enter Tryd.func6, Tryd.ntmps6
    go_upto_region 1 with fail
    have tt0 : (w.alloc (.cells #[.int .i64 sg, .int .i64 pc, .int .i64 am, .bool so, .int .i64 gr] 23)).cell? ⟨w.heap.size, 0, none⟩ = some (.int .i64 sg) := by first | (simp; done) | (rw [World.cell?_alloc_at _ _ _ _ (by simp)]; rfl) | (rw [World.cell?_alloc_past _ _ _ (by simp <;> omega), World.cell?_alloc_at _ _ _ _ (by simp)]; rfl) | (rw [World.cell?_alloc_past _ _ _ (by simp <;> omega), World.cell?_alloc_past _ _ _ (by simp <;> omega), World.cell?_alloc_at _ _ _ _ (by simp)]; rfl)
    have tt1 : (w.alloc (.cells #[.int .i64 sg, .int .i64 pc, .int .i64 am, .bool so, .int .i64 gr] 23)).cell? ⟨w.heap.size, 1, none⟩ = some (.int .i64 pc) := by first | (simp; done) | (rw [World.cell?_alloc_at _ _ _ _ (by simp)]; rfl) | (rw [World.cell?_alloc_past _ _ _ (by simp <;> omega), World.cell?_alloc_at _ _ _ _ (by simp)]; rfl) | (rw [World.cell?_alloc_past _ _ _ (by simp <;> omega), World.cell?_alloc_past _ _ _ (by simp <;> omega), World.cell?_alloc_at _ _ _ _ (by simp)]; rfl)
    have tt2 : (w.alloc (.cells #[.int .i64 sg, .int .i64 pc, .int .i64 am, .bool so, .int .i64 gr] 23)).cell? ⟨w.heap.size, 2, none⟩ = some (.int .i64 am) := by first | (simp; done) | (rw [World.cell?_alloc_at _ _ _ _ (by simp)]; rfl) | (rw [World.cell?_alloc_past _ _ _ (by simp <;> omega), World.cell?_alloc_at _ _ _ _ (by simp)]; rfl) | (rw [World.cell?_alloc_past _ _ _ (by simp <;> omega), World.cell?_alloc_past _ _ _ (by simp <;> omega), World.cell?_alloc_at _ _ _ _ (by simp)]; rfl)
    have tt3 : (w.alloc (.cells #[.int .i64 sg, .int .i64 pc, .int .i64 am, .bool so, .int .i64 gr] 23)).cell? ⟨w.heap.size, 3, none⟩ = some (.bool so) := by first | (simp; done) | (rw [World.cell?_alloc_at _ _ _ _ (by simp)]; rfl) | (rw [World.cell?_alloc_past _ _ _ (by simp <;> omega), World.cell?_alloc_at _ _ _ _ (by simp)]; rfl) | (rw [World.cell?_alloc_past _ _ _ (by simp <;> omega), World.cell?_alloc_past _ _ _ (by simp <;> omega), World.cell?_alloc_at _ _ _ _ (by simp)]; rfl)
    have tt4 : (w.alloc (.cells #[.int .i64 sg, .int .i64 pc, .int .i64 am, .bool so, .int .i64 gr] 23)).cell? ⟨w.heap.size, 4, none⟩ = some (.int .i64 gr) := by first | (simp; done) | (rw [World.cell?_alloc_at _ _ _ _ (by simp)]; rfl) | (rw [World.cell?_alloc_past _ _ _ (by simp <;> omega), World.cell?_alloc_at _ _ _ _ (by simp)]; rfl) | (rw [World.cell?_alloc_past _ _ _ (by simp <;> omega), World.cell?_alloc_past _ _ _ (by simp <;> omega), World.cell?_alloc_at _ _ _ _ (by simp)]; rfl)
    have hb2 := (by repeat (first | exact hbel | refine belAlloc ?_ _ | refine belDrew ?_ | refine belSet ?_ _ _ (by simp)) : Below w.heap.size w (w.alloc (.cells #[.int .i64 sg, .int .i64 pc, .int .i64 am, .bool so, .int .i64 gr] 23)))
    replace hw := belStep hw hb2
    clear hb2 hbel
    generalize w.alloc (.cells #[.int .i64 sg, .int .i64 pc, .int .i64 am, .bool so, .int .i64 gr] 23) = W1 at *
    replace tt0 := keep tt0
    replace tt1 := keep tt1
    replace tt2 := keep tt2
    replace tt3 := keep tt3
    replace tt4 := keep tt4
    have hbel : Below W1.heap.size W1 W1 := Below.refl _ _
    skip
    go_wp2
    go_ret
    exact ⟨by rw [HR.out]; rfl, belStep hw hbel⟩
  · have hh := rt_so (sg := sg) (pc := pc) (am := am) (gr := gr) (by omega) (by omega) h5 (by omega)
    clear k1 k2
    cases so with
    | true =>
      have HR := Lib.hid hh.1
      clear hh
      rcases Int.lt_or_le gr 1 with g1 | g1
      · have HR := Lib.hid (show (⟨sg, pc, am, true, gr⟩ : ThrV).right = false by rw [HR.out, decide_eq_false (by omega)]; rfl)
        go_enter Tryd.func6, Tryd.ntmps6
        go_upto_region 1 with fail
        have tt0 : (w.alloc (.cells #[.int .i64 sg, .int .i64 pc, .int .i64 am, .bool true, .int .i64 gr] 23)).cell? ⟨w.heap.size, 0, none⟩ = some (.int .i64 sg) := by first | (simp; done) | (rw [World.cell?_alloc_at _ _ _ _ (by simp)]; rfl) | (rw [World.cell?_alloc_past _ _ _ (by simp <;> omega), World.cell?_alloc_at _ _ _ _ (by simp)]; rfl) | (rw [World.cell?_alloc_past _ _ _ (by simp <;> omega), World.cell?_alloc_past _ _ _ (by simp <;> omega), World.cell?_alloc_at _ _ _ _ (by simp)]; rfl)
        have tt1 : (w.alloc (.cells #[.int .i64 sg, .int .i64 pc, .int .i64 am, .bool true, .int .i64 gr] 23)).cell? ⟨w.heap.size, 1, none⟩ = some (.int .i64 pc) := by first | (simp; done) | (rw [World.cell?_alloc_at _ _ _ _ (by simp)]; rfl) | (rw [World.cell?_alloc_past _ _ _ (by simp <;> omega), World.cell?_alloc_at _ _ _ _ (by simp)]; rfl) | (rw [World.cell?_alloc_past _ _ _ (by simp <;> omega), World.cell?_alloc_past _ _ _ (by simp <;> omega), World.cell?_alloc_at _ _ _ _ (by simp)]; rfl)
        have tt2 : (w.alloc (.cells #[.int .i64 sg, .int .i64 pc, .int .i64 am, .bool true, .int .i64 gr] 23)).cell? ⟨w.heap.size, 2, none⟩ = some (.int .i64 am) := by first | (simp; done) | (rw [World.cell?_alloc_at _ _ _ _ (by simp)]; rfl) | (rw [World.cell?_alloc_past _ _ _ (by simp <;> omega), World.cell?_alloc_at _ _ _ _ (by simp)]; rfl) | (rw [World.cell?_alloc_past _ _ _ (by simp <;> omega), World.cell?_alloc_past _ _ _ (by simp <;> omega), World.cell?_alloc_at _ _ _ _ (by simp)]; rfl)
        have tt3 : (w.alloc (.cells #[.int .i64 sg, .int .i64 pc, .int .i64 am, .bool true, .int .i64 gr] 23)).cell? ⟨w.heap.size, 3, none⟩ = some (.bool true) := by first | (simp; done) | (rw [World.cell?_alloc_at _ _ _ _ (by simp)]; rfl) | (rw [World.cell?_alloc_past _ _ _ (by simp <;> omega), World.cell?_alloc_at _ _ _ _ (by simp)]; rfl) | (rw [World.cell?_alloc_past _ _ _ (by simp <;> omega), World.cell?_alloc_past _ _ _ (by simp <;> omega), World.cell?_alloc_at _ _ _ _ (by simp)]; rfl)
        have tt4 : (w.alloc (.cells #[.int .i64 sg, .int .i64 pc, .int .i64 am, .bool true, .int .i64 gr] 23)).cell? ⟨w.heap.size, 4, none⟩ = some (.int .i64 gr) := by first | (simp; done) | (rw [World.cell?_alloc_at _ _ _ _ (by simp)]; rfl) | (rw [World.cell?_alloc_past _ _ _ (by simp <;> omega), World.cell?_alloc_at _ _ _ _ (by simp)]; rfl) | (rw [World.cell?_alloc_past _ _ _ (by simp <;> omega), World.cell?_alloc_past _ _ _ (by simp <;> omega), World.cell?_alloc_at _ _ _ _ (by simp)]; rfl)
        have hb2 := (by repeat (first | exact hbel | refine belAlloc ?_ _ | refine belDrew ?_ | refine belSet ?_ _ _ (by simp)) : Below w.heap.size w (w.alloc (.cells #[.int .i64 sg, .int .i64 pc, .int .i64 am, .bool true, .int .i64 gr] 23)))
        replace hw := belStep hw hb2
        clear hb2 hbel
        generalize w.alloc (.cells #[.int .i64 sg, .int .i64 pc, .int .i64 am, .bool true, .int .i64 gr] 23) = W1 at *
        replace tt0 := keep tt0
        replace tt1 := keep tt1
        replace tt2 := keep tt2
        replace tt3 := keep tt3
        replace tt4 := keep tt4
        have hbel : Below W1.heap.size W1 W1 := Below.refl _ _
        skip
        go_wp2
        go_ret
        exact ⟨by rw [HR.out]; rfl, belStep hw hbel⟩
      · have HR := Lib.hid (show (⟨sg, pc, am, true, gr⟩ : ThrV).right = decide (gr ≤ 1000) by rw [HR.out, decide_eq_true (by omega)]; rfl)
        go_enter Tryd.func6, Tryd.ntmps6
        go_upto_region 1 with fail
        have tt0 : (w.alloc (.cells #[.int .i64 sg, .int .i64 pc, .int .i64 am, .bool true, .int .i64 gr] 23)).cell? ⟨w.heap.size, 0, none⟩ = some (.int .i64 sg) := by first | (simp; done) | (rw [World.cell?_alloc_at _ _ _ _ (by simp)]; rfl) | (rw [World.cell?_alloc_past _ _ _ (by simp <;> omega), World.cell?_alloc_at _ _ _ _ (by simp)]; rfl) | (rw [World.cell?_alloc_past _ _ _ (by simp <;> omega), World.cell?_alloc_past _ _ _ (by simp <;> omega), World.cell?_alloc_at _ _ _ _ (by simp)]; rfl)
        have tt1 : (w.alloc (.cells #[.int .i64 sg, .int .i64 pc, .int .i64 am, .bool true, .int .i64 gr] 23)).cell? ⟨w.heap.size, 1, none⟩ = some (.int .i64 pc) := by first | (simp; done) | (rw [World.cell?_alloc_at _ _ _ _ (by simp)]; rfl) | (rw [World.cell?_alloc_past _ _ _ (by simp <;> omega), World.cell?_alloc_at _ _ _ _ (by simp)]; rfl) | (rw [World.cell?_alloc_past _ _ _ (by simp <;> omega), World.cell?_alloc_past _ _ _ (by simp <;> omega), World.cell?_alloc_at _ _ _ _ (by simp)]; rfl)
        have tt2 : (w.alloc (.cells #[.int .i64 sg, .int .i64 pc, .int .i64 am, .bool true, .int .i64 gr] 23)).cell? ⟨w.heap.size, 2, none⟩ = some (.int .i64 am) := by first | (simp; done) | (rw [World.cell?_alloc_at _ _ _ _ (by simp)]; rfl) | (rw [World.cell?_alloc_past _ _ _ (by simp <;> omega), World.cell?_alloc_at _ _ _ _ (by simp)]; rfl) | (rw [World.cell?_alloc_past _ _ _ (by simp <;> omega), World.cell?_alloc_past _ _ _ (by simp <;> omega), World.cell?_alloc_at _ _ _ _ (by simp)]; rfl)
        have tt3 : (w.alloc (.cells #[.int .i64 sg, .int .i64 pc, .int .i64 am, .bool true, .int .i64 gr] 23)).cell? ⟨w.heap.size, 3, none⟩ = some (.bool true) := by first | (simp; done) | (rw [World.cell?_alloc_at _ _ _ _ (by simp)]; rfl) | (rw [World.cell?_alloc_past _ _ _ (by simp <;> omega), World.cell?_alloc_at _ _ _ _ (by simp)]; rfl) | (rw [World.cell?_alloc_past _ _ _ (by simp <;> omega), World.cell?_alloc_past _ _ _ (by simp <;> omega), World.cell?_alloc_at _ _ _ _ (by simp)]; rfl)
        have tt4 : (w.alloc (.cells #[.int .i64 sg, .int .i64 pc, .int .i64 am, .bool true, .int .i64 gr] 23)).cell? ⟨w.heap.size, 4, none⟩ = some (.int .i64 gr) := by first | (simp; done) | (rw [World.cell?_alloc_at _ _ _ _ (by simp)]; rfl) | (rw [World.cell?_alloc_past _ _ _ (by simp <;> omega), World.cell?_alloc_at _ _ _ _ (by simp)]; rfl) | (rw [World.cell?_alloc_past _ _ _ (by simp <;> omega), World.cell?_alloc_past _ _ _ (by simp <;> omega), World.cell?_alloc_at _ _ _ _ (by simp)]; rfl)
        have hb2 := (by repeat (first | exact hbel | refine belAlloc ?_ _ | refine belDrew ?_ | refine belSet ?_ _ _ (by simp)) : Below w.heap.size w (w.alloc (.cells #[.int .i64 sg, .int .i64 pc, .int .i64 am, .bool true, .int .i64 gr] 23)))
        replace hw := belStep hw hb2
        clear hb2 hbel
        generalize w.alloc (.cells #[.int .i64 sg, .int .i64 pc, .int .i64 am, .bool true, .int .i64 gr] 23) = W1 at *
        replace tt0 := keep tt0
        replace tt1 := keep tt1
        replace tt2 := keep tt2
        replace tt3 := keep tt3
        replace tt4 := keep tt4
        have hbel : Below W1.heap.size W1 W1 := Below.refl _ _
        skip
        go_wp2
        go_ret
        exact ⟨by rw [HR.out]; rfl, belStep hw hbel⟩
    | false =>
      have HR := Lib.hid hh.2
      clear hh
      go_enter Tryd.func6, Tryd.ntmps6
      go_upto_region 1 with fail
      have tt0 : (w.alloc (.cells #[.int .i64 sg, .int .i64 pc, .int .i64 am, .bool false, .int .i64 gr] 23)).cell? ⟨w.heap.size, 0, none⟩ = some (.int .i64 sg) := by first | (simp; done) | (rw [World.cell?_alloc_at _ _ _ _ (by simp)]; rfl) | (rw [World.cell?_alloc_past _ _ _ (by simp <;> omega), World.cell?_alloc_at _ _ _ _ (by simp)]; rfl) | (rw [World.cell?_alloc_past _ _ _ (by simp <;> omega), World.cell?_alloc_past _ _ _ (by simp <;> omega), World.cell?_alloc_at _ _ _ _ (by simp)]; rfl)
      have tt1 : (w.alloc (.cells #[.int .i64 sg, .int .i64 pc, .int .i64 am, .bool false, .int .i64 gr] 23)).cell? ⟨w.heap.size, 1, none⟩ = some (.int .i64 pc) := by first | (simp; done) | (rw [World.cell?_alloc_at _ _ _ _ (by simp)]; rfl) | (rw [World.cell?_alloc_past _ _ _ (by simp <;> omega), World.cell?_alloc_at _ _ _ _ (by simp)]; rfl) | (rw [World.cell?_alloc_past _ _ _ (by simp <;> omega), World.cell?_alloc_past _ _ _ (by simp <;> omega), World.cell?_alloc_at _ _ _ _ (by simp)]; rfl)
      have tt2 : (w.alloc (.cells #[.int .i64 sg, .int .i64 pc, .int .i64 am, .bool false, .int .i64 gr] 23)).cell? ⟨w.heap.size, 2, none⟩ = some (.int .i64 am) := by first | (simp; done) | (rw [World.cell?_alloc_at _ _ _ _ (by simp)]; rfl) | (rw [World.cell?_alloc_past _ _ _ (by simp <;> omega), World.cell?_alloc_at _ _ _ _ (by simp)]; rfl) | (rw [World.cell?_alloc_past _ _ _ (by simp <;> omega), World.cell?_alloc_past _ _ _ (by simp <;> omega), World.cell?_alloc_at _ _ _ _ (by simp)]; rfl)
      have tt3 : (w.alloc (.cells #[.int .i64 sg, .int .i64 pc, .int .i64 am, .bool false, .int .i64 gr] 23)).cell? ⟨w.heap.size, 3, none⟩ = some (.bool false) := by first | (simp; done) | (rw [World.cell?_alloc_at _ _ _ _ (by simp)]; rfl) | (rw [World.cell?_alloc_past _ _ _ (by simp <;> omega), World.cell?_alloc_at _ _ _ _ (by simp)]; rfl) | (rw [World.cell?_alloc_past _ _ _ (by simp <;> omega), World.cell?_alloc_past _ _ _ (by simp <;> omega), World.cell?_alloc_at _ _ _ _ (by simp)]; rfl)
      have tt4 : (w.alloc (.cells #[.int .i64 sg, .int .i64 pc, .int .i64 am, .bool false, .int .i64 gr] 23)).cell? ⟨w.heap.size, 4, none⟩ = some (.int .i64 gr) := by first | (simp; done) | (rw [World.cell?_alloc_at _ _ _ _ (by simp)]; rfl) | (rw [World.cell?_alloc_past _ _ _ (by simp <;> omega), World.cell?_alloc_at _ _ _ _ (by simp)]; rfl) | (rw [World.cell?_alloc_past _ _ _ (by simp <;> omega), World.cell?_alloc_past _ _ _ (by simp <;> omega), World.cell?_alloc_at _ _ _ _ (by simp)]; rfl)
      have hb2 := (by repeat (first | exact hbel | refine belAlloc ?_ _ | refine belDrew ?_ | refine belSet ?_ _ _ (by simp)) : Below w.heap.size w (w.alloc (.cells #[.int .i64 sg, .int .i64 pc, .int .i64 am, .bool false, .int .i64 gr] 23)))
      replace hw := belStep hw hb2
      clear hb2 hbel
      generalize w.alloc (.cells #[.int .i64 sg, .int .i64 pc, .int .i64 am, .bool false, .int .i64 gr] 23) = W1 at *
      replace tt0 := keep tt0
      replace tt1 := keep tt1
      replace tt2 := keep tt2
      replace tt3 := keep tt3
      replace tt4 := keep tt4
      have hbel : Below W1.heap.size W1 W1 := Below.refl _ _
      skip
      go_wp2
      go_ret
      exact ⟨by rw [HR.out]; rfl, belStep hw hbel⟩
  · have hh := rt_so (sg := sg) (pc := pc) (am := am) (gr := gr) (by omega) (by omega) h5 (by omega)
    clear k1 k2
    cases so with
    | true =>
      have HR := Lib.hid hh.1
      clear hh
      rcases Int.lt_or_le gr 1 with g1 | g1
      · have HR := Lib.hid (show (⟨sg, pc, am, true, gr⟩ : ThrV).right = false by rw [HR.out, decide_eq_false (by omega)]; rfl)
        go_enter Tryd.func6, Tryd.ntmps6
        go_upto_region 1 with fail
        have tt0 : (w.alloc (.cells #[.int .i64 sg, .int .i64 pc, .int .i64 am, .bool true, .int .i64 gr] 23)).cell? ⟨w.heap.size, 0, none⟩ = some (.int .i64 sg) := by first | (simp; done) | (rw [World.cell?_alloc_at _ _ _ _ (by simp)]; rfl) | (rw [World.cell?_alloc_past _ _ _ (by simp <;> omega), World.cell?_alloc_at _ _ _ _ (by simp)]; rfl) | (rw [World.cell?_alloc_past _ _ _ (by simp <;> omega), World.cell?_alloc_past _ _ _ (by simp <;> omega), World.cell?_alloc_at _ _ _ _ (by simp)]; rfl)
        have tt1 : (w.alloc (.cells #[.int .i64 sg, .int .i64 pc, .int .i64 am, .bool true, .int .i64 gr] 23)).cell? ⟨w.heap.size, 1, none⟩ = some (.int .i64 pc) := by first | (simp; done) | (rw [World.cell?_alloc_at _ _ _ _ (by simp)]; rfl) | (rw [World.cell?_alloc_past _ _ _ (by simp <;> omega), World.cell?_alloc_at _ _ _ _ (by simp)]; rfl) | (rw [World.cell?_alloc_past _ _ _ (by simp <;> omega), World.cell?_alloc_past _ _ _ (by simp <;> omega), World.cell?_alloc_at _ _ _ _ (by simp)]; rfl)
        have tt2 : (w.alloc (.cells #[.int .i64 sg, .int .i64 pc, .int .i64 am, .bool true, .int .i64 gr] 23)).cell? ⟨w.heap.size, 2, none⟩ = some (.int .i64 am) := by first | (simp; done) | (rw [World.cell?_alloc_at _ _ _ _ (by simp)]; rfl) | (rw [World.cell?_alloc_past _ _ _ (by simp <;> omega), World.cell?_alloc_at _ _ _ _ (by simp)]; rfl) | (rw [World.cell?_alloc_past _ _ _ (by simp <;> omega), World.cell?_alloc_past _ _ _ (by simp <;> omega), World.cell?_alloc_at _ _ _ _ (by simp)]; rfl)
        have tt3 : (w.alloc (.cells #[.int .i64 sg, .int .i64 pc, .int .i64 am, .bool true, .int .i64 gr] 23)).cell? ⟨w.heap.size, 3, none⟩ = some (.bool true) := by first | (simp; done) | (rw [World.cell?_alloc_at _ _ _ _ (by simp)]; rfl) | (rw [World.cell?_alloc_past _ _ _ (by simp <;> omega), World.cell?_alloc_at _ _ _ _ (by simp)]; rfl) | (rw [World.cell?_alloc_past _ _ _ (by simp <;> omega), World.cell?_alloc_past _ _ _ (by simp <;> omega), World.cell?_alloc_at _ _ _ _ (by simp)]; rfl)
        have tt4 : (w.alloc (.cells #[.int .i64 sg, .int .i64 pc, .int .i64 am, .bool true, .int .i64 gr] 23)).cell? ⟨w.heap.size, 4, none⟩ = some (.int .i64 gr) := by first | (simp; done) | (rw [World.cell?_alloc_at _ _ _ _ (by simp)]; rfl) | (rw [World.cell?_alloc_past _ _ _ (by simp <;> omega), World.cell?_alloc_at _ _ _ _ (by simp)]; rfl) | (rw [World.cell?_alloc_past _ _ _ (by simp <;> omega), World.cell?_alloc_past _ _ _ (by simp <;> omega), World.cell?_alloc_at _ _ _ _ (by simp)]; rfl)
        have hb2 := (by repeat (first | exact hbel | refine belAlloc ?_ _ | refine belDrew ?_ | refine belSet ?_ _ _ (by simp)) : Below w.heap.size w (w.alloc (.cells #[.int .i64 sg, .int .i64 pc, .int .i64 am, .bool true, .int .i64 gr] 23)))
        replace hw := belStep hw hb2
        clear hb2 hbel
        generalize w.alloc (.cells #[.int .i64 sg, .int .i64 pc, .int .i64 am, .bool true, .int .i64 gr] 23) = W1 at *
        replace tt0 := keep tt0
        replace tt1 := keep tt1
        replace tt2 := keep tt2
        replace tt3 := keep tt3
        replace tt4 := keep tt4
        have hbel : Below W1.heap.size W1 W1 := Below.refl _ _
        skip
        go_wp2
        go_ret
        exact ⟨by rw [HR.out]; rfl, belStep hw hbel⟩
      · have HR := Lib.hid (show (⟨sg, pc, am, true, gr⟩ : ThrV).right = decide (gr ≤ 1000) by rw [HR.out, decide_eq_true (by omega)]; rfl)
        go_enter Tryd.func6, Tryd.ntmps6
        go_upto_region 1 with fail
        have tt0 : (w.alloc (.cells #[.int .i64 sg, .int .i64 pc, .int .i64 am, .bool true, .int .i64 gr] 23)).cell? ⟨w.heap.size, 0, none⟩ = some (.int .i64 sg) := by first | (simp; done) | (rw [World.cell?_alloc_at _ _ _ _ (by simp)]; rfl) | (rw [World.cell?_alloc_past _ _ _ (by simp <;> omega), World.cell?_alloc_at _ _ _ _ (by simp)]; rfl) | (rw [World.cell?_alloc_past _ _ _ (by simp <;> omega), World.cell?_alloc_past _ _ _ (by simp <;> omega), World.cell?_alloc_at _ _ _ _ (by simp)]; rfl)
        have tt1 : (w.alloc (.cells #[.int .i64 sg, .int .i64 pc, .int .i64 am, .bool true, .int .i64 gr] 23)).cell? ⟨w.heap.size, 1, none⟩ = some (.int .i64 pc) := by first | (simp; done) | (rw [World.cell?_alloc_at _ _ _ _ (by simp)]; rfl) | (rw [World.cell?_alloc_past _ _ _ (by simp <;> omega), World.cell?_alloc_at _ _ _ _ (by simp)]; rfl) | (rw [World.cell?_alloc_past _ _ _ (by simp <;> omega), World.cell?_alloc_past _ _ _ (by simp <;> omega), World.cell?_alloc_at _ _ _ _ (by simp)]; rfl)
        have tt2 : (w.alloc (.cells #[.int .i64 sg, .int .i64 pc, .int .i64 am, .bool true, .int .i64 gr] 23)).cell? ⟨w.heap.size, 2, none⟩ = some (.int .i64 am) := by first | (simp; done) | (rw [World.cell?_alloc_at _ _ _ _ (by simp)]; rfl) | (rw [World.cell?_alloc_past _ _ _ (by simp <;> omega), World.cell?_alloc_at _ _ _ _ (by simp)]; rfl) | (rw [World.cell?_alloc_past _ _ _ (by simp <;> omega), World.cell?_alloc_past _ _ _ (by simp <;> omega), World.cell?_alloc_at _ _ _ _ (by simp)]; rfl)
        have tt3 : (w.alloc (.cells #[.int .i64 sg, .int .i64 pc, .int .i64 am, .bool true, .int .i64 gr] 23)).cell? ⟨w.heap.size, 3, none⟩ = some (.bool true) := by first | (simp; done) | (rw [World.cell?_alloc_at _ _ _ _ (by simp)]; rfl) | (rw [World.cell?_alloc_past _ _ _ (by simp <;> omega), World.cell?_alloc_at _ _ _ _ (by simp)]; rfl) | (rw [World.cell?_alloc_past _ _ _ (by simp <;> omega), World.cell?_alloc_past _ _ _ (by simp <;> omega), World.cell?_alloc_at _ _ _ _ (by simp)]; rfl)
        have tt4 : (w.alloc (.cells #[.int .i64 sg, .int .i64 pc, .int .i64 am, .bool true, .int .i64 gr] 23)).cell? ⟨w.heap.size, 4, none⟩ = some (.int .i64 gr) := by first | (simp; done) | (rw [World.cell?_alloc_at _ _ _ _ (by simp)]; rfl) | (rw [World.cell?_alloc_past _ _ _ (by simp <;> omega), World.cell?_alloc_at _ _ _ _ (by simp)]; rfl) | (rw [World.cell?_alloc_past _ _ _ (by simp <;> omega), World.cell?_alloc_past _ _ _ (by simp <;> omega), World.cell?_alloc_at _ _ _ _ (by simp)]; rfl)
        have hb2 := (by repeat (first | exact hbel | refine belAlloc ?_ _ | refine belDrew ?_ | refine belSet ?_ _ _ (by simp)) : Below w.heap.size w (w.alloc (.cells #[.int .i64 sg, .int .i64 pc, .int .i64 am, .bool true, .int .i64 gr] 23)))
        replace hw := belStep hw hb2
        clear hb2 hbel
        generalize w.alloc (.cells #[.int .i64 sg, .int .i64 pc, .int .i64 am, .bool true, .int .i64 gr] 23) = W1 at *
        replace tt0 := keep tt0
        replace tt1 := keep tt1
        replace tt2 := keep tt2
        replace tt3 := keep tt3
        replace tt4 := keep tt4
        have hbel : Below W1.heap.size W1 W1 := Below.refl _ _
        skip
        go_wp2
        go_ret
        exact ⟨by rw [HR.out]; rfl, belStep hw hbel⟩
    | false =>
      have HR := Lib.hid hh.2
      clear hh
      go_enter Tryd.func6, Tryd.ntmps6
      go_upto_region 1 with fail
      have tt0 : (w.alloc (.cells #[.int .i64 sg, .int .i64 pc, .int .i64 am, .bool false, .int .i64 gr] 23)).cell? ⟨w.heap.size, 0, none⟩ = some (.int .i64 sg) := by first | (simp; done) | (rw [World.cell?_alloc_at _ _ _ _ (by simp)]; rfl) | (rw [World.cell?_alloc_past _ _ _ (by simp <;> omega), World.cell?_alloc_at _ _ _ _ (by simp)]; rfl) | (rw [World.cell?_alloc_past _ _ _ (by simp <;> omega), World.cell?_alloc_past _ _ _ (by simp <;> omega), World.cell?_alloc_at _ _ _ _ (by simp)]; rfl)
      have tt1 : (w.alloc (.cells #[.int .i64 sg, .int .i64 pc, .int .i64 am, .bool false, .int .i64 gr] 23)).cell? ⟨w.heap.size, 1, none⟩ = some (.int .i64 pc) := by first | (simp; done) | (rw [World.cell?_alloc_at _ _ _ _ (by simp)]; rfl) | (rw [World.cell?_alloc_past _ _ _ (by simp <;> omega), World.cell?_alloc_at _ _ _ _ (by simp)]; rfl) | (rw [World.cell?_alloc_past _ _ _ (by simp <;> omega), World.cell?_alloc_past _ _ _ (by simp <;> omega), World.cell?_alloc_at _ _ _ _ (by simp)]; rfl)
      have tt2 : (w.alloc (.cells #[.int .i64 sg, .int .i64 pc, .int .i64 am, .bool false, .int .i64 gr] 23)).cell? ⟨w.heap.size, 2, none⟩ = some (.int .i64 am) := by first | (simp; done) | (rw [World.cell?_alloc_at _ _ _ _ (by simp)]; rfl) | (rw [World.cell?_alloc_past _ _ _ (by simp <;> omega), World.cell?_alloc_at _ _ _ _ (by simp)]; rfl) | (rw [World.cell?_alloc_past _ _ _ (by simp <;> omega), World.cell?_alloc_past _ _ _ (by simp <;> omega), World.cell?_alloc_at _ _ _ _ (by simp)]; rfl)
      have tt3 : (w.alloc (.cells #[.int .i64 sg, .int .i64 pc, .int .i64 am, .bool false, .int .i64 gr] 23)).cell? ⟨w.heap.size, 3, none⟩ = some (.bool false) := by first | (simp; done) | (rw [World.cell?_alloc_at _ _ _ _ (by simp)]; rfl) | (rw [World.cell?_alloc_past _ _ _ (by simp <;> omega), World.cell?_alloc_at _ _ _ _ (by simp)]; rfl) | (rw [World.cell?_alloc_past _ _ _ (by simp <;> omega), World.cell?_alloc_past _ _ _ (by simp <;> omega), World.cell?_alloc_at _ _ _ _ (by simp)]; rfl)
      have tt4 : (w.alloc (.cells #[.int .i64 sg, .int .i64 pc, .int .i64 am, .bool false, .int .i64 gr] 23)).cell? ⟨w.heap.size, 4, none⟩ = some (.int .i64 gr) := by first | (simp; done) | (rw [World.cell?_alloc_at _ _ _ _ (by simp)]; rfl) | (rw [World.cell?_alloc_past _ _ _ (by simp <;> omega), World.cell?_alloc_at _ _ _ _ (by simp)]; rfl) | (rw [World.cell?_alloc_past _ _ _ (by simp <;> omega), World.cell?_alloc_past _ _ _ (by simp <;> omega), World.cell?_alloc_at _ _ _ _ (by simp)]; rfl)
      have hb2 := (by repeat (first | exact hbel | refine belAlloc ?_ _ | refine belDrew ?_ | refine belSet ?_ _ _ (by simp)) : Below w.heap.size w (w.alloc (.cells #[.int .i64 sg, .int .i64 pc, .int .i64 am, .bool false, .int .i64 gr] 23)))
      replace hw := belStep hw hb2
      clear hb2 hbel
      generalize w.alloc (.cells #[.int .i64 sg, .int .i64 pc, .int .i64 am, .bool false, .int .i64 gr] 23) = W1 at *
      replace tt0 := keep tt0
      replace tt1 := keep tt1
      replace tt2 := keep tt2
      replace tt3 := keep tt3
      replace tt4 := keep tt4
      have hbel : Below W1.heap.size W1 W1 := Below.refl _ _
      skip
      go_wp2
      go_ret
      exact ⟨by rw [HR.out]; rfl, belStep hw hbel⟩
