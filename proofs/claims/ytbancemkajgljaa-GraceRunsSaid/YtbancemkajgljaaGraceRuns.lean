/- GraceRuns holds for every config and samples: a hard threshold holds just if the last one meets it; a soft one, if all from one on meet it that is its grace back, or further. No conditions. -/
import Derived.Test.YtbancemkajgljaaGrRows
namespace Go.Proofs.Ytbancemkajgljaa.graceRuns
open Go.ChangeShapes Go.WideShapes Go.ChangeAt Go.RowKit
open Go.ChangeMaps (open_string shut_string)
set_option linter.unusedVariables false
set_option linter.unusedSimpArgs false

set_option maxRecDepth 100000 in
set_option maxHeartbeats 8000000 in
theorem walk (c : CfgV) (la : Option Addr) (n lc : Nat) (L : List RowV) (w : World) (hc : c.ok w) (hL : L.length = n) (hok : ∀ r ∈ L, r.ok) (hR : Row w la n lc 4 (L.flatMap RowV.cells)) : Calls Try.prog 5 #[.agg #[.int .i64 c.k0, .int .i64 c.k1, .int .i64 c.k2, .int .i64 c.a0, .int .i64 c.a1, .int .i64 c.a2, .slice c.ta c.tl c.tc, .int .i64 c.per, .int .i64 c.ret, .int .i64 c.age, .int .i64 c.dead], .slice la n lc] w fun e w' => e = .returned (.bool true) ∧ Below w.heap.size w w' := by
  have hw : Below w.heap.size w w := Below.refl _ _
  have hbel := hw
  have hbd : n ≤ lc ∧ lc ≤ 9223372036854775807 := by obtain ⟨_, h1, h2, _⟩ := hR; unfold maxLen at h2; exact ⟨h1, h2⟩
  obtain ⟨hbd1, hbd2⟩ := hbd
  have CR := Lib.hid (fun u (h : Below w.heap.size w u) => ref7_Right c u (hc.later h))
  have HC := Lib.hid hc
  have HR := Lib.hid hR
  have HL := Lib.hid hL
  have HOK := Lib.hid hok
  clear hc hR hL hok
  by_cases q1 : 60 < n
  · have q2 : (60 : Int) < n := by omega
    go_enter Try.func5, Try.ntmps5
    go_upto_region 1 with fail
    have cc0 : (w.alloc (.cells #[.int .i64 c.k0, .int .i64 c.k1, .int .i64 c.k2, .int .i64 c.a0, .int .i64 c.a1, .int .i64 c.a2, .slice c.ta c.tl c.tc, .int .i64 c.per, .int .i64 c.ret, .int .i64 c.age, .int .i64 c.dead] 25)).cell? ⟨w.heap.size, 0, none⟩ = some (.int .i64 c.k0) := by first | (simp; done) | (rw [World.cell?_alloc_at _ _ _ _ (by simp)]; rfl) | (rw [World.cell?_alloc_past _ _ _ (by simp <;> omega), World.cell?_alloc_at _ _ _ _ (by simp)]; rfl) | (rw [World.cell?_alloc_past _ _ _ (by simp <;> omega), World.cell?_alloc_past _ _ _ (by simp <;> omega), World.cell?_alloc_at _ _ _ _ (by simp)]; rfl)
    have cc1 : (w.alloc (.cells #[.int .i64 c.k0, .int .i64 c.k1, .int .i64 c.k2, .int .i64 c.a0, .int .i64 c.a1, .int .i64 c.a2, .slice c.ta c.tl c.tc, .int .i64 c.per, .int .i64 c.ret, .int .i64 c.age, .int .i64 c.dead] 25)).cell? ⟨w.heap.size, 1, none⟩ = some (.int .i64 c.k1) := by first | (simp; done) | (rw [World.cell?_alloc_at _ _ _ _ (by simp)]; rfl) | (rw [World.cell?_alloc_past _ _ _ (by simp <;> omega), World.cell?_alloc_at _ _ _ _ (by simp)]; rfl) | (rw [World.cell?_alloc_past _ _ _ (by simp <;> omega), World.cell?_alloc_past _ _ _ (by simp <;> omega), World.cell?_alloc_at _ _ _ _ (by simp)]; rfl)
    have cc2 : (w.alloc (.cells #[.int .i64 c.k0, .int .i64 c.k1, .int .i64 c.k2, .int .i64 c.a0, .int .i64 c.a1, .int .i64 c.a2, .slice c.ta c.tl c.tc, .int .i64 c.per, .int .i64 c.ret, .int .i64 c.age, .int .i64 c.dead] 25)).cell? ⟨w.heap.size, 2, none⟩ = some (.int .i64 c.k2) := by first | (simp; done) | (rw [World.cell?_alloc_at _ _ _ _ (by simp)]; rfl) | (rw [World.cell?_alloc_past _ _ _ (by simp <;> omega), World.cell?_alloc_at _ _ _ _ (by simp)]; rfl) | (rw [World.cell?_alloc_past _ _ _ (by simp <;> omega), World.cell?_alloc_past _ _ _ (by simp <;> omega), World.cell?_alloc_at _ _ _ _ (by simp)]; rfl)
    have cc3 : (w.alloc (.cells #[.int .i64 c.k0, .int .i64 c.k1, .int .i64 c.k2, .int .i64 c.a0, .int .i64 c.a1, .int .i64 c.a2, .slice c.ta c.tl c.tc, .int .i64 c.per, .int .i64 c.ret, .int .i64 c.age, .int .i64 c.dead] 25)).cell? ⟨w.heap.size, 3, none⟩ = some (.int .i64 c.a0) := by first | (simp; done) | (rw [World.cell?_alloc_at _ _ _ _ (by simp)]; rfl) | (rw [World.cell?_alloc_past _ _ _ (by simp <;> omega), World.cell?_alloc_at _ _ _ _ (by simp)]; rfl) | (rw [World.cell?_alloc_past _ _ _ (by simp <;> omega), World.cell?_alloc_past _ _ _ (by simp <;> omega), World.cell?_alloc_at _ _ _ _ (by simp)]; rfl)
    have cc4 : (w.alloc (.cells #[.int .i64 c.k0, .int .i64 c.k1, .int .i64 c.k2, .int .i64 c.a0, .int .i64 c.a1, .int .i64 c.a2, .slice c.ta c.tl c.tc, .int .i64 c.per, .int .i64 c.ret, .int .i64 c.age, .int .i64 c.dead] 25)).cell? ⟨w.heap.size, 4, none⟩ = some (.int .i64 c.a1) := by first | (simp; done) | (rw [World.cell?_alloc_at _ _ _ _ (by simp)]; rfl) | (rw [World.cell?_alloc_past _ _ _ (by simp <;> omega), World.cell?_alloc_at _ _ _ _ (by simp)]; rfl) | (rw [World.cell?_alloc_past _ _ _ (by simp <;> omega), World.cell?_alloc_past _ _ _ (by simp <;> omega), World.cell?_alloc_at _ _ _ _ (by simp)]; rfl)
    have cc5 : (w.alloc (.cells #[.int .i64 c.k0, .int .i64 c.k1, .int .i64 c.k2, .int .i64 c.a0, .int .i64 c.a1, .int .i64 c.a2, .slice c.ta c.tl c.tc, .int .i64 c.per, .int .i64 c.ret, .int .i64 c.age, .int .i64 c.dead] 25)).cell? ⟨w.heap.size, 5, none⟩ = some (.int .i64 c.a2) := by first | (simp; done) | (rw [World.cell?_alloc_at _ _ _ _ (by simp)]; rfl) | (rw [World.cell?_alloc_past _ _ _ (by simp <;> omega), World.cell?_alloc_at _ _ _ _ (by simp)]; rfl) | (rw [World.cell?_alloc_past _ _ _ (by simp <;> omega), World.cell?_alloc_past _ _ _ (by simp <;> omega), World.cell?_alloc_at _ _ _ _ (by simp)]; rfl)
    have cc6 : (w.alloc (.cells #[.int .i64 c.k0, .int .i64 c.k1, .int .i64 c.k2, .int .i64 c.a0, .int .i64 c.a1, .int .i64 c.a2, .slice c.ta c.tl c.tc, .int .i64 c.per, .int .i64 c.ret, .int .i64 c.age, .int .i64 c.dead] 25)).cell? ⟨w.heap.size, 6, none⟩ = some (.slice c.ta c.tl c.tc) := by first | (simp; done) | (rw [World.cell?_alloc_at _ _ _ _ (by simp)]; rfl) | (rw [World.cell?_alloc_past _ _ _ (by simp <;> omega), World.cell?_alloc_at _ _ _ _ (by simp)]; rfl) | (rw [World.cell?_alloc_past _ _ _ (by simp <;> omega), World.cell?_alloc_past _ _ _ (by simp <;> omega), World.cell?_alloc_at _ _ _ _ (by simp)]; rfl)
    have cc7 : (w.alloc (.cells #[.int .i64 c.k0, .int .i64 c.k1, .int .i64 c.k2, .int .i64 c.a0, .int .i64 c.a1, .int .i64 c.a2, .slice c.ta c.tl c.tc, .int .i64 c.per, .int .i64 c.ret, .int .i64 c.age, .int .i64 c.dead] 25)).cell? ⟨w.heap.size, 7, none⟩ = some (.int .i64 c.per) := by first | (simp; done) | (rw [World.cell?_alloc_at _ _ _ _ (by simp)]; rfl) | (rw [World.cell?_alloc_past _ _ _ (by simp <;> omega), World.cell?_alloc_at _ _ _ _ (by simp)]; rfl) | (rw [World.cell?_alloc_past _ _ _ (by simp <;> omega), World.cell?_alloc_past _ _ _ (by simp <;> omega), World.cell?_alloc_at _ _ _ _ (by simp)]; rfl)
    have cc8 : (w.alloc (.cells #[.int .i64 c.k0, .int .i64 c.k1, .int .i64 c.k2, .int .i64 c.a0, .int .i64 c.a1, .int .i64 c.a2, .slice c.ta c.tl c.tc, .int .i64 c.per, .int .i64 c.ret, .int .i64 c.age, .int .i64 c.dead] 25)).cell? ⟨w.heap.size, 8, none⟩ = some (.int .i64 c.ret) := by first | (simp; done) | (rw [World.cell?_alloc_at _ _ _ _ (by simp)]; rfl) | (rw [World.cell?_alloc_past _ _ _ (by simp <;> omega), World.cell?_alloc_at _ _ _ _ (by simp)]; rfl) | (rw [World.cell?_alloc_past _ _ _ (by simp <;> omega), World.cell?_alloc_past _ _ _ (by simp <;> omega), World.cell?_alloc_at _ _ _ _ (by simp)]; rfl)
    have cc9 : (w.alloc (.cells #[.int .i64 c.k0, .int .i64 c.k1, .int .i64 c.k2, .int .i64 c.a0, .int .i64 c.a1, .int .i64 c.a2, .slice c.ta c.tl c.tc, .int .i64 c.per, .int .i64 c.ret, .int .i64 c.age, .int .i64 c.dead] 25)).cell? ⟨w.heap.size, 9, none⟩ = some (.int .i64 c.age) := by first | (simp; done) | (rw [World.cell?_alloc_at _ _ _ _ (by simp)]; rfl) | (rw [World.cell?_alloc_past _ _ _ (by simp <;> omega), World.cell?_alloc_at _ _ _ _ (by simp)]; rfl) | (rw [World.cell?_alloc_past _ _ _ (by simp <;> omega), World.cell?_alloc_past _ _ _ (by simp <;> omega), World.cell?_alloc_at _ _ _ _ (by simp)]; rfl)
    have cc10 : (w.alloc (.cells #[.int .i64 c.k0, .int .i64 c.k1, .int .i64 c.k2, .int .i64 c.a0, .int .i64 c.a1, .int .i64 c.a2, .slice c.ta c.tl c.tc, .int .i64 c.per, .int .i64 c.ret, .int .i64 c.age, .int .i64 c.dead] 25)).cell? ⟨w.heap.size, 10, none⟩ = some (.int .i64 c.dead) := by first | (simp; done) | (rw [World.cell?_alloc_at _ _ _ _ (by simp)]; rfl) | (rw [World.cell?_alloc_past _ _ _ (by simp <;> omega), World.cell?_alloc_at _ _ _ _ (by simp)]; rfl) | (rw [World.cell?_alloc_past _ _ _ (by simp <;> omega), World.cell?_alloc_past _ _ _ (by simp <;> omega), World.cell?_alloc_at _ _ _ _ (by simp)]; rfl)
    have hb2 := (by repeat (first | exact hbel | refine belAlloc ?_ _ | refine belDrew ?_ | refine belSet ?_ _ _ (by simp)) : Below w.heap.size w (w.alloc (.cells #[.int .i64 c.k0, .int .i64 c.k1, .int .i64 c.k2, .int .i64 c.a0, .int .i64 c.a1, .int .i64 c.a2, .slice c.ta c.tl c.tc, .int .i64 c.per, .int .i64 c.ret, .int .i64 c.age, .int .i64 c.dead] 25)))
    replace hw := belStep hw hb2
    clear hb2 hbel
    generalize w.alloc (.cells #[.int .i64 c.k0, .int .i64 c.k1, .int .i64 c.k2, .int .i64 c.a0, .int .i64 c.a1, .int .i64 c.a2, .slice c.ta c.tl c.tc, .int .i64 c.per, .int .i64 c.ret, .int .i64 c.age, .int .i64 c.dead] 25) = W1 at *
    replace cc0 := keep cc0
    replace cc1 := keep cc1
    replace cc2 := keep cc2
    replace cc3 := keep cc3
    replace cc4 := keep cc4
    replace cc5 := keep cc5
    replace cc6 := keep cc6
    replace cc7 := keep cc7
    replace cc8 := keep cc8
    replace cc9 := keep cc9
    replace cc10 := keep cc10
    have hbel : Below W1.heap.size W1 W1 := Below.refl _ _
    skip
    have HW := Lib.hid hw
    go_wp2_with (first | (go_at_call 9; (with_reducible refine (awake18 _).mono ?_); rintro e w1 ⟨rfl, hb1⟩; replace hbel := belStep hbel hb1; clear hb1) | (go_at_call 21; (with_reducible refine (CR.out _ (belStep HW.out hbel)).mono ?_); rintro e w2 ⟨⟨b, rfl, hT⟩, hb2⟩; replace hbel := belStep hbel hb2; have HTT := Lib.hid hT; clear hb2 hT; rcases Bool.eq_false_or_eq_true b with rfl | rfl))
    all_goals
      go_ret
      exact ⟨rfl, belStep HW.out hbel⟩
  · have q2 : ¬ (60 : Int) < n := by omega
    go_enter Try.func5, Try.ntmps5
    go_upto_region 1 with fail
    have cc0 : (w.alloc (.cells #[.int .i64 c.k0, .int .i64 c.k1, .int .i64 c.k2, .int .i64 c.a0, .int .i64 c.a1, .int .i64 c.a2, .slice c.ta c.tl c.tc, .int .i64 c.per, .int .i64 c.ret, .int .i64 c.age, .int .i64 c.dead] 25)).cell? ⟨w.heap.size, 0, none⟩ = some (.int .i64 c.k0) := by first | (simp; done) | (rw [World.cell?_alloc_at _ _ _ _ (by simp)]; rfl) | (rw [World.cell?_alloc_past _ _ _ (by simp <;> omega), World.cell?_alloc_at _ _ _ _ (by simp)]; rfl) | (rw [World.cell?_alloc_past _ _ _ (by simp <;> omega), World.cell?_alloc_past _ _ _ (by simp <;> omega), World.cell?_alloc_at _ _ _ _ (by simp)]; rfl)
    have cc1 : (w.alloc (.cells #[.int .i64 c.k0, .int .i64 c.k1, .int .i64 c.k2, .int .i64 c.a0, .int .i64 c.a1, .int .i64 c.a2, .slice c.ta c.tl c.tc, .int .i64 c.per, .int .i64 c.ret, .int .i64 c.age, .int .i64 c.dead] 25)).cell? ⟨w.heap.size, 1, none⟩ = some (.int .i64 c.k1) := by first | (simp; done) | (rw [World.cell?_alloc_at _ _ _ _ (by simp)]; rfl) | (rw [World.cell?_alloc_past _ _ _ (by simp <;> omega), World.cell?_alloc_at _ _ _ _ (by simp)]; rfl) | (rw [World.cell?_alloc_past _ _ _ (by simp <;> omega), World.cell?_alloc_past _ _ _ (by simp <;> omega), World.cell?_alloc_at _ _ _ _ (by simp)]; rfl)
    have cc2 : (w.alloc (.cells #[.int .i64 c.k0, .int .i64 c.k1, .int .i64 c.k2, .int .i64 c.a0, .int .i64 c.a1, .int .i64 c.a2, .slice c.ta c.tl c.tc, .int .i64 c.per, .int .i64 c.ret, .int .i64 c.age, .int .i64 c.dead] 25)).cell? ⟨w.heap.size, 2, none⟩ = some (.int .i64 c.k2) := by first | (simp; done) | (rw [World.cell?_alloc_at _ _ _ _ (by simp)]; rfl) | (rw [World.cell?_alloc_past _ _ _ (by simp <;> omega), World.cell?_alloc_at _ _ _ _ (by simp)]; rfl) | (rw [World.cell?_alloc_past _ _ _ (by simp <;> omega), World.cell?_alloc_past _ _ _ (by simp <;> omega), World.cell?_alloc_at _ _ _ _ (by simp)]; rfl)
    have cc3 : (w.alloc (.cells #[.int .i64 c.k0, .int .i64 c.k1, .int .i64 c.k2, .int .i64 c.a0, .int .i64 c.a1, .int .i64 c.a2, .slice c.ta c.tl c.tc, .int .i64 c.per, .int .i64 c.ret, .int .i64 c.age, .int .i64 c.dead] 25)).cell? ⟨w.heap.size, 3, none⟩ = some (.int .i64 c.a0) := by first | (simp; done) | (rw [World.cell?_alloc_at _ _ _ _ (by simp)]; rfl) | (rw [World.cell?_alloc_past _ _ _ (by simp <;> omega), World.cell?_alloc_at _ _ _ _ (by simp)]; rfl) | (rw [World.cell?_alloc_past _ _ _ (by simp <;> omega), World.cell?_alloc_past _ _ _ (by simp <;> omega), World.cell?_alloc_at _ _ _ _ (by simp)]; rfl)
    have cc4 : (w.alloc (.cells #[.int .i64 c.k0, .int .i64 c.k1, .int .i64 c.k2, .int .i64 c.a0, .int .i64 c.a1, .int .i64 c.a2, .slice c.ta c.tl c.tc, .int .i64 c.per, .int .i64 c.ret, .int .i64 c.age, .int .i64 c.dead] 25)).cell? ⟨w.heap.size, 4, none⟩ = some (.int .i64 c.a1) := by first | (simp; done) | (rw [World.cell?_alloc_at _ _ _ _ (by simp)]; rfl) | (rw [World.cell?_alloc_past _ _ _ (by simp <;> omega), World.cell?_alloc_at _ _ _ _ (by simp)]; rfl) | (rw [World.cell?_alloc_past _ _ _ (by simp <;> omega), World.cell?_alloc_past _ _ _ (by simp <;> omega), World.cell?_alloc_at _ _ _ _ (by simp)]; rfl)
    have cc5 : (w.alloc (.cells #[.int .i64 c.k0, .int .i64 c.k1, .int .i64 c.k2, .int .i64 c.a0, .int .i64 c.a1, .int .i64 c.a2, .slice c.ta c.tl c.tc, .int .i64 c.per, .int .i64 c.ret, .int .i64 c.age, .int .i64 c.dead] 25)).cell? ⟨w.heap.size, 5, none⟩ = some (.int .i64 c.a2) := by first | (simp; done) | (rw [World.cell?_alloc_at _ _ _ _ (by simp)]; rfl) | (rw [World.cell?_alloc_past _ _ _ (by simp <;> omega), World.cell?_alloc_at _ _ _ _ (by simp)]; rfl) | (rw [World.cell?_alloc_past _ _ _ (by simp <;> omega), World.cell?_alloc_past _ _ _ (by simp <;> omega), World.cell?_alloc_at _ _ _ _ (by simp)]; rfl)
    have cc6 : (w.alloc (.cells #[.int .i64 c.k0, .int .i64 c.k1, .int .i64 c.k2, .int .i64 c.a0, .int .i64 c.a1, .int .i64 c.a2, .slice c.ta c.tl c.tc, .int .i64 c.per, .int .i64 c.ret, .int .i64 c.age, .int .i64 c.dead] 25)).cell? ⟨w.heap.size, 6, none⟩ = some (.slice c.ta c.tl c.tc) := by first | (simp; done) | (rw [World.cell?_alloc_at _ _ _ _ (by simp)]; rfl) | (rw [World.cell?_alloc_past _ _ _ (by simp <;> omega), World.cell?_alloc_at _ _ _ _ (by simp)]; rfl) | (rw [World.cell?_alloc_past _ _ _ (by simp <;> omega), World.cell?_alloc_past _ _ _ (by simp <;> omega), World.cell?_alloc_at _ _ _ _ (by simp)]; rfl)
    have cc7 : (w.alloc (.cells #[.int .i64 c.k0, .int .i64 c.k1, .int .i64 c.k2, .int .i64 c.a0, .int .i64 c.a1, .int .i64 c.a2, .slice c.ta c.tl c.tc, .int .i64 c.per, .int .i64 c.ret, .int .i64 c.age, .int .i64 c.dead] 25)).cell? ⟨w.heap.size, 7, none⟩ = some (.int .i64 c.per) := by first | (simp; done) | (rw [World.cell?_alloc_at _ _ _ _ (by simp)]; rfl) | (rw [World.cell?_alloc_past _ _ _ (by simp <;> omega), World.cell?_alloc_at _ _ _ _ (by simp)]; rfl) | (rw [World.cell?_alloc_past _ _ _ (by simp <;> omega), World.cell?_alloc_past _ _ _ (by simp <;> omega), World.cell?_alloc_at _ _ _ _ (by simp)]; rfl)
    have cc8 : (w.alloc (.cells #[.int .i64 c.k0, .int .i64 c.k1, .int .i64 c.k2, .int .i64 c.a0, .int .i64 c.a1, .int .i64 c.a2, .slice c.ta c.tl c.tc, .int .i64 c.per, .int .i64 c.ret, .int .i64 c.age, .int .i64 c.dead] 25)).cell? ⟨w.heap.size, 8, none⟩ = some (.int .i64 c.ret) := by first | (simp; done) | (rw [World.cell?_alloc_at _ _ _ _ (by simp)]; rfl) | (rw [World.cell?_alloc_past _ _ _ (by simp <;> omega), World.cell?_alloc_at _ _ _ _ (by simp)]; rfl) | (rw [World.cell?_alloc_past _ _ _ (by simp <;> omega), World.cell?_alloc_past _ _ _ (by simp <;> omega), World.cell?_alloc_at _ _ _ _ (by simp)]; rfl)
    have cc9 : (w.alloc (.cells #[.int .i64 c.k0, .int .i64 c.k1, .int .i64 c.k2, .int .i64 c.a0, .int .i64 c.a1, .int .i64 c.a2, .slice c.ta c.tl c.tc, .int .i64 c.per, .int .i64 c.ret, .int .i64 c.age, .int .i64 c.dead] 25)).cell? ⟨w.heap.size, 9, none⟩ = some (.int .i64 c.age) := by first | (simp; done) | (rw [World.cell?_alloc_at _ _ _ _ (by simp)]; rfl) | (rw [World.cell?_alloc_past _ _ _ (by simp <;> omega), World.cell?_alloc_at _ _ _ _ (by simp)]; rfl) | (rw [World.cell?_alloc_past _ _ _ (by simp <;> omega), World.cell?_alloc_past _ _ _ (by simp <;> omega), World.cell?_alloc_at _ _ _ _ (by simp)]; rfl)
    have cc10 : (w.alloc (.cells #[.int .i64 c.k0, .int .i64 c.k1, .int .i64 c.k2, .int .i64 c.a0, .int .i64 c.a1, .int .i64 c.a2, .slice c.ta c.tl c.tc, .int .i64 c.per, .int .i64 c.ret, .int .i64 c.age, .int .i64 c.dead] 25)).cell? ⟨w.heap.size, 10, none⟩ = some (.int .i64 c.dead) := by first | (simp; done) | (rw [World.cell?_alloc_at _ _ _ _ (by simp)]; rfl) | (rw [World.cell?_alloc_past _ _ _ (by simp <;> omega), World.cell?_alloc_at _ _ _ _ (by simp)]; rfl) | (rw [World.cell?_alloc_past _ _ _ (by simp <;> omega), World.cell?_alloc_past _ _ _ (by simp <;> omega), World.cell?_alloc_at _ _ _ _ (by simp)]; rfl)
    have hb2 := (by repeat (first | exact hbel | refine belAlloc ?_ _ | refine belDrew ?_ | refine belSet ?_ _ _ (by simp)) : Below w.heap.size w (w.alloc (.cells #[.int .i64 c.k0, .int .i64 c.k1, .int .i64 c.k2, .int .i64 c.a0, .int .i64 c.a1, .int .i64 c.a2, .slice c.ta c.tl c.tc, .int .i64 c.per, .int .i64 c.ret, .int .i64 c.age, .int .i64 c.dead] 25)))
    replace hw := belStep hw hb2
    clear hb2 hbel
    generalize w.alloc (.cells #[.int .i64 c.k0, .int .i64 c.k1, .int .i64 c.k2, .int .i64 c.a0, .int .i64 c.a1, .int .i64 c.a2, .slice c.ta c.tl c.tc, .int .i64 c.per, .int .i64 c.ret, .int .i64 c.age, .int .i64 c.dead] 25) = W1 at *
    replace cc0 := keep cc0
    replace cc1 := keep cc1
    replace cc2 := keep cc2
    replace cc3 := keep cc3
    replace cc4 := keep cc4
    replace cc5 := keep cc5
    replace cc6 := keep cc6
    replace cc7 := keep cc7
    replace cc8 := keep cc8
    replace cc9 := keep cc9
    replace cc10 := keep cc10
    have hbel : Below W1.heap.size W1 W1 := Below.refl _ _
    skip
    have HW := Lib.hid hw
    go_upto_region 3 with (first | (go_at_call 9; (with_reducible refine (awake18 _).mono ?_); rintro e w1 ⟨rfl, hb1⟩; replace hbel := belStep hbel hb1; clear hb1) | (go_at_call 21; (with_reducible refine (CR.out _ (belStep HW.out hbel)).mono ?_); rintro e w2 ⟨⟨b, rfl, hT⟩, hb2⟩; replace hbel := belStep hbel hb2; have HTT := Lib.hid hT; clear hb2 hT; rcases Bool.eq_false_or_eq_true b with rfl | rfl))
    rotate_left 1
    · go_wp2_with (first | (go_at_call 9; (with_reducible refine (awake18 _).mono ?_); rintro e w1 ⟨rfl, hb1⟩; replace hbel := belStep hbel hb1; clear hb1))
      go_ret
      exact ⟨rfl, belStep HW.out hbel⟩
    have HG := Lib.hid (show ∀ u, Below w.heap.size w u → Good c u from fun u hu => ⟨HC.out.later hu, (HTT.out (by simp)).few, (HTT.out (by simp)).right⟩)
    have hfew := (HTT.out (by simp)).few
    have hlen := HC.out.len
    have HLEN := Lib.hid hlen
    have HRR := Lib.hid (fun u (hu : Below w.heap.size w u) => HR.out.later hu)
    clear HC HTT CR hlen
    replace cc0 := keepOnP cc0 hbel
    replace cc1 := keepOnP cc1 hbel
    replace cc2 := keepOnP cc2 hbel
    replace cc3 := keepOnP cc3 hbel
    replace cc4 := keepOnP cc4 hbel
    replace cc5 := keepOnP cc5 hbel
    replace cc6 := keepOnP cc6 hbel
    replace cc7 := keepOnP cc7 hbel
    replace cc8 := keepOnP cc8 hbel
    replace cc9 := keepOnP cc9 hbel
    replace cc10 := keepOnP cc10 hbel
    replace hw := belStep hw hbel
    clear hbel
    generalize w2 = W2 at *
    have hbel : Below W2.heap.size W2 W2 := Below.refl _ _
    have HW2 := Lib.hid hw
    clear HW hw
    have hw : Below W2.heap.size W2 W2 := Below.refl _ _
    have CB := Lib.hid (fun u (hu : Below W2.heap.size W2 u) => gr_Begin c u (HG.out u (belStep HW2.out hu)))
    have CQ := Lib.hid (fun u (hu : Below W2.heap.size W2 u) => law_rounds la n lc L u HL.out (by omega) HOK.out (HRR.out u (belStep HW2.out hu)))
    go_upto_region 5 with (first | (go_at_call 26; (with_reducible refine (CQ.out _ hbel).mono ?_); rintro e w3 ⟨v3, rfl, ho3, hb3⟩; have HO3 := Lib.hid ho3; replace hbel := belStep hbel hb3; clear ho3 hb3) | (go_at_call 13; (with_reducible refine (CB.out _ hbel).mono ?_); rintro e w4 ⟨g4, rfl, ho4, hg4, hb4⟩; have HO4 := Lib.hid ho4; replace HO3 := Lib.hid (HO3.out.later hb4); replace hbel := belStep hbel hb4; clear ho4 hb4 hg4))
    obtain ⟨ra, rc, e3, hrow3⟩ := HO3.out.row
    rw [atL_len, HL.out] at e3 hrow3
    subst e3
    have hI3 : Ints .i64 w4 ra n rc (atL L) := ⟨hrow3, fun x hx => by
      unfold atL at hx
      obtain ⟨i, hi, rfl⟩ := List.mem_map.1 hx
      have := atR_bd HOK.out (by rw [HL.out]; omega) i (by simpa using hi)
      exact wfI64 (by omega) (by omega)⟩
    have hI4 : Ints .i64 w4 (some ⟨g4, 0, none⟩) c.tl c.tl (svL c L 0) := by
      rw [svL_zero, HLEN.out]
      exact ints_ownG HO4.out (fun x hx => by rw [List.eq_of_mem_replicate hx]; decide)
    have HI3 := Lib.hid hI3
    have HI4 := Lib.hid hI4
    have HG4 := Lib.hid (show ∀ u, Below w4.heap.size w4 u → Good c u from fun u hu => HG.out u (belStep HW2.out (belStep hbel hu)))
    have HR4 := Lib.hid (fun u (hu : Below w4.heap.size w4 u) => HRR.out u (belStep HW2.out (belStep hbel hu)))
    clear HO3 HO4 hrow3 hI3 hI4 CB CQ HRR HG HR
    replace cc0 := keepOnP cc0 hbel
    replace cc1 := keepOnP cc1 hbel
    replace cc2 := keepOnP cc2 hbel
    replace cc3 := keepOnP cc3 hbel
    replace cc4 := keepOnP cc4 hbel
    replace cc5 := keepOnP cc5 hbel
    replace cc6 := keepOnP cc6 hbel
    replace cc7 := keepOnP cc7 hbel
    replace cc8 := keepOnP cc8 hbel
    replace cc9 := keepOnP cc9 hbel
    replace cc10 := keepOnP cc10 hbel
    replace hw := belStep hw hbel
    clear hbel
    generalize w4 = W4 at *
    have hbel : Below W4.heap.size W4 W4 := Below.refl _ _
    have HW4 := Lib.hid (belStep HW2.out hw)
    clear hw HW2
    have hAT := Lib.hid (fun i (hi : i < n) => atR_bd HOK.out (by rw [HL.out]; omega) i (by rw [HL.out]; exact hi))
    go_wp2
    clear hbel
    go_loopw [6, 7] (fun v i wr => ∃ k : Nat, k ≤ n ∧ i = .int .i64 k ∧ (∃ g, v = .slice (some ⟨g, 0, none⟩) c.tl c.tl ∧ Ints .i64 wr (some ⟨g, 0, none⟩) c.tl c.tl (svL c L k)) ∧ Below W4.heap.size W4 wr) (fun _ i _ => n - (intOf i).toNat)
    case atStart => exact ⟨0, by omega, rfl, ⟨g4, rfl, HI4.out⟩, Below.refl _ _⟩
    case round =>
      obtain ⟨i, hi, rfl, ⟨g, rfl, hS⟩, hbel⟩ := hrel
      have HB := Lib.hid hbel
      have HS := Lib.hid hS
      clear hS HI4
      by_cases hin : i < n
      · obtain ⟨r, hr⟩ : ∃ r, L[i]? = some r := ⟨_, List.getElem?_eq_getElem (by rw [HL.out]; exact hin)⟩
        obtain ⟨b, off, rfl, _, hcl⟩ := (HR4.out _ (Below.refl _ _)).elem RowV.cells_len (by omega) hr
        have y1 := keep (hcl 1 _ rfl)
        have y2 := keep (hcl 2 _ rfl)
        have y3 := keep (hcl 3 _ rfl)
        obtain ⟨rb, ro, rfl, _, hrx⟩ := HI3.out.opened (by omega)
        have a0 := keep (hrx i hin)
        rw [atL_el (by rw [HL.out]; exact hin)] at a0
        have hrok := HOK.out r (List.mem_of_getElem? hr)
        have hini : (i : Int) < (n : Int) := by omega
        have hai := hAT.out i hin
        have hne : ∀ q, q ≤ i → atR L q ≠ -1 := fun q hq => by have := hAT.out q (by omega); omega
        have hsn := svL_next c L i r hr hne
        have CS := Lib.hid (fun u (hu : Below W4.heap.size W4 u) (hS : Ints .i64 u (some ⟨g, 0, none⟩) c.tl c.tl (svL c L i)) => gr_Step c (some ⟨g, 0, none⟩) c.tl (svL c L i) r.v0 r.v1 r.v2 (atR L i) u (HG4.out u hu) hrok.2 hS)
        rw [hsn] at CS
        have CH := Lib.hid (fun g2 u (hu : Below W4.heap.size W4 u) (hS : Ints .i64 u (some ⟨g2, 0, none⟩) c.tl c.tl (svL c L (i + 1))) => gr_Hold c (some ⟨g2, 0, none⟩) c.tl (svL c L (i + 1)) (atR L i) u (HG4.out u hu) hS (by omega) (fun k hk => by
          obtain ⟨t, hti⟩ : ∃ t, c.L[k]? = some t := ⟨_, List.getElem?_eq_getElem (by rw [HLEN.out]; exact hk)⟩
          rw [svL_el hti]
          have := sv_bd (fR c L t) (atR L) (i + 1) (fun q hq => hAT.out q (by omega))
          omega))
        have HWF := Lib.hid (show ∀ x ∈ svL c L (i + 1), (Lit.int .i64 x).wf = true from fun x hx => by
          unfold svL at hx
          obtain ⟨t, _, rfl⟩ := List.mem_map.1 hx
          have := sv_bd (fR c L t) (atR L) (i + 1) (fun q hq => hAT.out q (by omega))
          exact wfI64 (by omega) (by omega))
        have HNE := Lib.hid hne
        have HRI := Lib.hid hr
        have HSL := Lib.hid hsn
        clear hcl hrx hr hrok hsn hne
        generalize hA : atR L i = ai at *
        have HAI := Lib.hid hA
        clear hA
        have hw : Below W4.heap.size W4 W4 := Below.refl _ _
        replace cc0 := keepOnP cc0 hbel
        replace cc1 := keepOnP cc1 hbel
        replace cc2 := keepOnP cc2 hbel
        replace cc3 := keepOnP cc3 hbel
        replace cc4 := keepOnP cc4 hbel
        replace cc5 := keepOnP cc5 hbel
        replace cc6 := keepOnP cc6 hbel
        replace cc7 := keepOnP cc7 hbel
        replace cc8 := keepOnP cc8 hbel
        replace cc9 := keepOnP cc9 hbel
        replace cc10 := keepOnP cc10 hbel
        replace y1 := keepOnP y1 hbel
        replace y2 := keepOnP y2 hbel
        replace y3 := keepOnP y3 hbel
        replace a0 := keepOnP a0 hbel
        replace hw := belStep hw hbel
        clear hbel
        generalize wr = W5 at *
        have hbel : Below W5.heap.size W5 W5 := Below.refl _ _
        have HW5 := Lib.hid hw
        clear hw
        have hw : Below W5.heap.size W5 W5 := Below.refl _ _
        go_upto_region 8 with fail
        have kk := fun d os => belStep hbel (below_regrown _ d os)
        refine wp_region_below_tail 11 (by kernel_rfl) (by kernel_rfl) ?_
        simp only [List.take_succ_cons, List.take_zero, List.drop_succ_cons, List.drop_zero]
        repeat ((with_reducible refine wpQuiet_step (fun K hK => ?_)); go_simp; (try (rw [if_neg]; rotate_left; · decide)); first | ((with_reducible refine hK _ ?_); clear hK K) | (apply Exists.intro; refine ⟨fun _ => ?_, hK _ ?_⟩; (fail); clear hK K))
        refine wpQuiet_nil (fun w1 hw1 => ?_)
        replace hbel := belStep hbel (bel_of_class hw1)
        clear hw1 kk
        have HS1 := Lib.hid (HS.out.later hbel)
        go_upto_region 9 with (first | (go_at_call 11; (with_reducible refine (CS.out _ (belStep HW5.out hbel) HS1.out).mono ?_); rintro e w3 ⟨g3, rfl, ho3, hg3, hb3⟩; have HS3 := Lib.hid (ints_ownG ho3 HWF.out); replace hbel := belStep hbel hb3; clear ho3 hg3 hb3))
        clear HS1
        replace cc0 := keepOnP cc0 hbel
        replace cc1 := keepOnP cc1 hbel
        replace cc2 := keepOnP cc2 hbel
        replace cc3 := keepOnP cc3 hbel
        replace cc4 := keepOnP cc4 hbel
        replace cc5 := keepOnP cc5 hbel
        replace cc6 := keepOnP cc6 hbel
        replace cc7 := keepOnP cc7 hbel
        replace cc8 := keepOnP cc8 hbel
        replace cc9 := keepOnP cc9 hbel
        replace cc10 := keepOnP cc10 hbel
        replace y1 := keepOnP y1 hbel
        replace y2 := keepOnP y2 hbel
        replace y3 := keepOnP y3 hbel
        replace a0 := keepOnP a0 hbel
        replace hw := belStep hw hbel
        clear hbel
        generalize w3 = W6 at *
        have hbel : Below W6.heap.size W6 W6 := Below.refl _ _
        have HW6 := Lib.hid (belStep HW5.out hw)
        clear hw HW5
        have hw : Below W6.heap.size W6 W6 := Below.refl _ _
        go_upto_region 9 with fail
        have kk := fun d os => belStep hbel (below_regrown _ d os)
        refine wp_region_below_tail 6 (by kernel_rfl) (by kernel_rfl) ?_
        simp only [List.take_succ_cons, List.take_zero, List.drop_succ_cons, List.drop_zero]
        repeat ((with_reducible refine wpQuiet_step (fun K hK => ?_)); go_simp; (try (rw [if_neg]; rotate_left; · decide)); first | ((with_reducible refine hK _ ?_); clear hK K) | (apply Exists.intro; refine ⟨fun _ => ?_, hK _ ?_⟩; (fail); clear hK K))
        refine wpQuiet_nil (fun w1 hw1 => ?_)
        replace hbel := belStep hbel (bel_of_class hw1)
        clear hw1 kk
        have HS4 := Lib.hid (HS3.out.later hbel)
        go_upto_region 10 with (first | (go_at_call 19; (with_reducible refine (CH.out _ _ (belStep HW6.out hbel) HS4.out).mono ?_); rintro e w5 ⟨g5, rfl, ho5, hg5, hb5⟩; have HH := Lib.hid ho5; have HS5 := Lib.hid (HS4.out.later hb5); replace hbel := belStep hbel hb5; clear ho5 hg5 hb5))
        clear HS3 HS4
        replace cc0 := keepOnP cc0 hbel
        replace cc1 := keepOnP cc1 hbel
        replace cc2 := keepOnP cc2 hbel
        replace cc3 := keepOnP cc3 hbel
        replace cc4 := keepOnP cc4 hbel
        replace cc5 := keepOnP cc5 hbel
        replace cc6 := keepOnP cc6 hbel
        replace cc7 := keepOnP cc7 hbel
        replace cc8 := keepOnP cc8 hbel
        replace cc9 := keepOnP cc9 hbel
        replace cc10 := keepOnP cc10 hbel
        replace y1 := keepOnP y1 hbel
        replace y2 := keepOnP y2 hbel
        replace y3 := keepOnP y3 hbel
        replace a0 := keepOnP a0 hbel
        replace hw := belStep hw hbel
        clear hbel
        generalize w5 = W7 at *
        have hbel : Below W7.heap.size W7 W7 := Below.refl _ _
        have HW7 := Lib.hid (belStep HW6.out hw)
        clear hw HW6
        go_wp2
        clear hbel
        go_loopw [9] (fun v wr => ∃ k : Nat, k ≤ c.tl ∧ v = .int .i64 k ∧ Below W7.heap.size W7 wr) (fun v _ => c.tl - (intOf v).toNat)
        case atStart => exact ⟨0, by omega, rfl, Below.refl _ _⟩
        case round =>
          obtain ⟨k, hk, rfl, hbel⟩ := hrel
          have HB7 := Lib.hid hbel
          by_cases hkt : k < c.tl
          · obtain ⟨t, hti, htr, hto, bt, ot, hta, _, x0, x1, x2, x3, x4⟩ := (HG4.out _ HW7.out).at hkt
            replace x0 := keep x0
            replace x1 := keep x1
            replace x2 := keep x2
            replace x3 := keep x3
            replace x4 := keep x4
            have hlenH : (holdL c (svL c L (i + 1)) ai).length = c.tl := by rw [holdL_len (svL_len c L (i + 1)), HLEN.out]
            have hz := HH.out.cellAt hlenH.symm (holdL_get (r := ai) hti (by rw [svL_len, HLEN.out]; exact hkt))
            rw [svL_el hti, ← HAI.out, sv_hold (fR c L t) (atR L) i t HNE.out, HAI.out] at hz
            have CO := Lib.hid (fun (q : Nat) (r' : RowV) u (hr' : L[q]? = some r') (hu : Below W4.heap.size W4 u) => gr_One c k t r'.v0 r'.v1 r'.v2 u (HG4.out u hu).took hti htr (HOK.out r' (List.mem_of_getElem? hr')).2)
            have hki : (k : Int) < (c.tl : Int) := by omega
            obtain ⟨z, ez⟩ : ∃ z, (decide (js (fR c L t) (i + 1) ≤ i) && (!t.soft || decide (t.grace ≤ ai - atR L (js (fR c L t) (i + 1))))) = z := ⟨_, rfl⟩
            rw [ez] at hz
            have EZ := Lib.hid ez
            replace hz := keep hz
            have hgf := (ThrV.facts htr).2.2
            simp only [hta] at cc6 CO ⊢
            obtain ⟨f, hf⟩ : ∃ f : Nat → Bool, fR c L t = f := ⟨_, rfl⟩
            have HF := Lib.hid hf
            rw [hf] at EZ
            have hfm : ∀ (q : Nat) (r' : RowV), L[q]? = some r' → met3 c t r'.v0 r'.v1 r'.v2 = f q := fun q r' h => by rw [← HF.out]; unfold fR; rw [h]
            have HFM := Lib.hid hfm
            clear hti htr hto hlenH ez hf hfm HF
            obtain ⟨tg, tp, tm, ts, tgr⟩ := t
            simp only at x0 x1 x2 x3 x4 hgf EZ
            have HGF := Lib.hid hgf
            clear hgf
            have hw : Below W7.heap.size W7 W7 := Below.refl _ _
            replace cc0 := keepOnP cc0 hbel
            replace cc1 := keepOnP cc1 hbel
            replace cc2 := keepOnP cc2 hbel
            replace cc3 := keepOnP cc3 hbel
            replace cc4 := keepOnP cc4 hbel
            replace cc5 := keepOnP cc5 hbel
            replace cc6 := keepOnP cc6 hbel
            replace cc7 := keepOnP cc7 hbel
            replace cc8 := keepOnP cc8 hbel
            replace cc9 := keepOnP cc9 hbel
            replace cc10 := keepOnP cc10 hbel
            replace a0 := keepOnP a0 hbel
            replace x0 := keepOnP x0 hbel
            replace x1 := keepOnP x1 hbel
            replace x2 := keepOnP x2 hbel
            replace x3 := keepOnP x3 hbel
            replace x4 := keepOnP x4 hbel
            replace hz := keepOnP hz hbel
            replace hw := belStep hw hbel
            clear hbel
            generalize wr = W8 at *
            have hbel : Below W8.heap.size W8 W8 := Below.refl _ _
            go_upto_region 16 with fail
            have tt0 : (W8.alloc (.cells #[.int .i64 tg, .int .i64 tp, .int .i64 tm, .bool ts, .int .i64 tgr] 47)).cell? ⟨W8.heap.size, 0, none⟩ = some (.int .i64 tg) := by first | (simp; done) | (rw [World.cell?_alloc_at _ _ _ _ (by simp)]; rfl) | (rw [World.cell?_alloc_past _ _ _ (by simp <;> omega), World.cell?_alloc_at _ _ _ _ (by simp)]; rfl) | (rw [World.cell?_alloc_past _ _ _ (by simp <;> omega), World.cell?_alloc_past _ _ _ (by simp <;> omega), World.cell?_alloc_at _ _ _ _ (by simp)]; rfl)
            have tt1 : (W8.alloc (.cells #[.int .i64 tg, .int .i64 tp, .int .i64 tm, .bool ts, .int .i64 tgr] 47)).cell? ⟨W8.heap.size, 1, none⟩ = some (.int .i64 tp) := by first | (simp; done) | (rw [World.cell?_alloc_at _ _ _ _ (by simp)]; rfl) | (rw [World.cell?_alloc_past _ _ _ (by simp <;> omega), World.cell?_alloc_at _ _ _ _ (by simp)]; rfl) | (rw [World.cell?_alloc_past _ _ _ (by simp <;> omega), World.cell?_alloc_past _ _ _ (by simp <;> omega), World.cell?_alloc_at _ _ _ _ (by simp)]; rfl)
            have tt2 : (W8.alloc (.cells #[.int .i64 tg, .int .i64 tp, .int .i64 tm, .bool ts, .int .i64 tgr] 47)).cell? ⟨W8.heap.size, 2, none⟩ = some (.int .i64 tm) := by first | (simp; done) | (rw [World.cell?_alloc_at _ _ _ _ (by simp)]; rfl) | (rw [World.cell?_alloc_past _ _ _ (by simp <;> omega), World.cell?_alloc_at _ _ _ _ (by simp)]; rfl) | (rw [World.cell?_alloc_past _ _ _ (by simp <;> omega), World.cell?_alloc_past _ _ _ (by simp <;> omega), World.cell?_alloc_at _ _ _ _ (by simp)]; rfl)
            have tt3 : (W8.alloc (.cells #[.int .i64 tg, .int .i64 tp, .int .i64 tm, .bool ts, .int .i64 tgr] 47)).cell? ⟨W8.heap.size, 3, none⟩ = some (.bool ts) := by first | (simp; done) | (rw [World.cell?_alloc_at _ _ _ _ (by simp)]; rfl) | (rw [World.cell?_alloc_past _ _ _ (by simp <;> omega), World.cell?_alloc_at _ _ _ _ (by simp)]; rfl) | (rw [World.cell?_alloc_past _ _ _ (by simp <;> omega), World.cell?_alloc_past _ _ _ (by simp <;> omega), World.cell?_alloc_at _ _ _ _ (by simp)]; rfl)
            have tt4 : (W8.alloc (.cells #[.int .i64 tg, .int .i64 tp, .int .i64 tm, .bool ts, .int .i64 tgr] 47)).cell? ⟨W8.heap.size, 4, none⟩ = some (.int .i64 tgr) := by first | (simp; done) | (rw [World.cell?_alloc_at _ _ _ _ (by simp)]; rfl) | (rw [World.cell?_alloc_past _ _ _ (by simp <;> omega), World.cell?_alloc_at _ _ _ _ (by simp)]; rfl) | (rw [World.cell?_alloc_past _ _ _ (by simp <;> omega), World.cell?_alloc_past _ _ _ (by simp <;> omega), World.cell?_alloc_at _ _ _ _ (by simp)]; rfl)
            have hb2 := (by repeat (first | exact hbel | refine belAlloc ?_ _ | refine belDrew ?_ | refine belSet ?_ _ _ (by simp)) : Below W8.heap.size W8 (W8.alloc (.cells #[.int .i64 tg, .int .i64 tp, .int .i64 tm, .bool ts, .int .i64 tgr] 47)))
            replace cc0 := keepOnP cc0 hb2
            replace cc1 := keepOnP cc1 hb2
            replace cc2 := keepOnP cc2 hb2
            replace cc3 := keepOnP cc3 hb2
            replace cc4 := keepOnP cc4 hb2
            replace cc5 := keepOnP cc5 hb2
            replace cc6 := keepOnP cc6 hb2
            replace cc7 := keepOnP cc7 hb2
            replace cc8 := keepOnP cc8 hb2
            replace cc9 := keepOnP cc9 hb2
            replace cc10 := keepOnP cc10 hb2
            replace a0 := keepOnP a0 hb2
            replace x0 := keepOnP x0 hb2
            replace x1 := keepOnP x1 hb2
            replace x2 := keepOnP x2 hb2
            replace x3 := keepOnP x3 hb2
            replace x4 := keepOnP x4 hb2
            replace hz := keepOnP hz hb2
            replace hw := belStep hw hb2
            clear hb2 hbel
            generalize W8.alloc (.cells #[.int .i64 tg, .int .i64 tp, .int .i64 tm, .bool ts, .int .i64 tgr] 47) = W9 at *
            replace tt0 := keep tt0
            replace tt1 := keep tt1
            replace tt2 := keep tt2
            replace tt3 := keep tt3
            replace tt4 := keep tt4
            generalize W8.heap.size = N9 at *
            have hbel : Below W9.heap.size W9 W9 := Below.refl _ _
            skip
            have HW9 := Lib.hid hw
            clear hw x0 x1 x2 x3 x4
            have HI3R := Lib.hid (show ∀ q, q < n → W9.cell? ⟨rb, ro + q, none⟩ = some (.int .i64 (atR L q)) from fun q hq => by
              obtain ⟨rb', ro', e', _, hrx⟩ := (HI3.out.later (belStep HW7.out HW9.out)).opened (by omega)
              simp at e'
              obtain ⟨rfl, rfl⟩ := e'
              have := hrx q hq
              rwa [atL_el (by rw [HL.out]; exact hq)] at this)
            go_wp2
            clear hbel
            go_loopw [11] (fun v wr => ∃ j : Nat, j ≤ i + 1 ∧ v = .int .i64 j ∧ js f (i + 1) = js f j ∧ Below W9.heap.size W9 wr) (fun v _ => (intOf v).toNat)
            case atStart => exact ⟨i + 1, by omega, by push_cast; rfl, rfl, Below.refl _ _⟩
            case round =>
              obtain ⟨j, hj, rfl, hjs, hbel⟩ := hrel
              have HJS := Lib.hid hjs
              have HB9 := Lib.hid hbel
              clear hjs
              rcases Nat.eq_zero_or_pos j with h0 | h0
              · subst h0
                go_wp2
                have kk := fun d os => belStep hbel (below_regrown _ d os)
                refine wp_region_quiet_below (by kernel_rfl) (by kernel_rfl) ?_
                repeat ((with_reducible refine wpQuiet_step (fun K hK => ?_)); go_simp; (try (rw [if_neg]; rotate_left; · decide)); first | ((with_reducible refine hK _ ?_); clear hK K) | (apply Exists.intro; refine ⟨fun _ => ?_, hK _ ?_⟩; (fail); clear hK K))
                refine wpQuiet_nil (fun w1 hw1 => ?_)
                replace hbel := belStep hbel (bel_of_class hw1)
                clear hw1 kk
                have hfin : js f (i + 1) = 0 := by rw [HJS.out]; rfl
                rw [hfin] at EZ
                clear hfin
                by_cases hji : 0 ≤ i
                · have hjiI : (0 : Int) ≤ (i : Int) := by omega
                  have hn0 : 0 < n := by omega
                  have aj := keep (HI3R.out 0 (by omega))
                  rw [Nat.add_zero] at aj
                  rw [decide_eq_true hji, Bool.true_and] at EZ
                  rcases HGF.out with ⟨rfl, g1, g2⟩ | ⟨rfl, g1⟩
                  · simp only [Bool.not_true, Bool.false_or] at EZ
                    have hb1 := hAT.out i (by omega)
                    rw [HAI.out] at hb1
                    have hb2 := hAT.out 0 (by omega)
                    obtain ⟨aJ, eJ⟩ : ∃ x, atR L 0 = x := ⟨_, rfl⟩
                    rw [eJ] at aj EZ hb2
                    clear eJ
                    have hwj : wrap64 (ai - aJ) = ai - aJ := by unfold wrap64; omega
                    have hwk : IntKind.i64.wrap (ai - aJ) = ai - aJ := by simp only [IntKind.wrap_i64]; omega
                    by_cases hg : tgr ≤ ai - aJ
                    · rw [decide_eq_true hg] at EZ
                      have ez := EZ.out
                      subst ez
                      clear g1 g2 hb1 hb2
                      go_wp2
                      have kk := fun d os => belStep hbel (below_regrown _ d os)
                      refine wp_region_quiet_below (by kernel_rfl) (by kernel_rfl) ?_
                      repeat ((with_reducible refine wpQuiet_step (fun K hK => ?_)); go_simp; (try (rw [if_neg]; rotate_left; · decide)); first | ((with_reducible refine hK _ ?_); clear hK K) | (apply Exists.intro; refine ⟨fun _ => ?_, hK _ ?_⟩; (fail); clear hK K))
                      refine wpQuiet_nil (fun w1 hw1 => ?_)
                      replace hbel := belStep hbel (bel_of_class hw1)
                      clear hw1 kk
                      go_wp2
                      go_roundw
                      case rel => exact ⟨k + 1, by omega, by push_cast; rfl, belStep HW9.out hbel⟩
                      case measure => simp [intOf] <;> omega
                    · rw [decide_eq_false hg] at EZ
                      have ez := EZ.out
                      subst ez
                      clear g1 g2 hb1 hb2
                      go_wp2
                      have kk := fun d os => belStep hbel (below_regrown _ d os)
                      refine wp_region_quiet_below (by kernel_rfl) (by kernel_rfl) ?_
                      repeat ((with_reducible refine wpQuiet_step (fun K hK => ?_)); go_simp; (try (rw [if_neg]; rotate_left; · decide)); first | ((with_reducible refine hK _ ?_); clear hK K) | (apply Exists.intro; refine ⟨fun _ => ?_, hK _ ?_⟩; (fail); clear hK K))
                      refine wpQuiet_nil (fun w1 hw1 => ?_)
                      replace hbel := belStep hbel (bel_of_class hw1)
                      clear hw1 kk
                      go_wp2
                      go_roundw
                      case rel => exact ⟨k + 1, by omega, by push_cast; rfl, belStep HW9.out hbel⟩
                      case measure => simp [intOf] <;> omega
                  · simp only [Bool.not_false, Bool.true_or] at EZ
                    have ez := EZ.out
                    subst ez
                    clear g1
                    go_wp2
                    have kk := fun d os => belStep hbel (below_regrown _ d os)
                    refine wp_region_quiet_below (by kernel_rfl) (by kernel_rfl) ?_
                    repeat ((with_reducible refine wpQuiet_step (fun K hK => ?_)); go_simp; (try (rw [if_neg]; rotate_left; · decide)); first | ((with_reducible refine hK _ ?_); clear hK K) | (apply Exists.intro; refine ⟨fun _ => ?_, hK _ ?_⟩; (fail); clear hK K))
                    refine wpQuiet_nil (fun w1 hw1 => ?_)
                    replace hbel := belStep hbel (bel_of_class hw1)
                    clear hw1 kk
                    go_wp2
                    go_roundw
                    case rel => exact ⟨k + 1, by omega, by push_cast; rfl, belStep HW9.out hbel⟩
                    case measure => simp [intOf] <;> omega
                · exact absurd (Nat.zero_le i) hji
              · have h0' : (0 : Int) < j := by omega
                obtain ⟨r', hr'⟩ : ∃ r', L[j - 1]? = some r' := ⟨_, List.getElem?_eq_getElem (by rw [HL.out]; omega)⟩
                have hrow9 := HR4.out _ (belStep HW7.out HW9.out)
                obtain ⟨b', off', e', _, hcl'⟩ := hrow9.elem RowV.cells_len (by omega) hr'
                simp at e'
                obtain ⟨rfl, rfl⟩ := e'
                have y1 := keep (hcl' 1 _ rfl)
                have y2 := keep (hcl' 2 _ rfl)
                have y3 := keep (hcl' 3 _ rfl)
                have CO1 := Lib.hid (fun u (hu : Below W9.heap.size W9 u) => CO.out (j - 1) r' u hr' (belStep HW7.out (belStep HW9.out hu)))
                rw [HFM.out (j - 1) r' hr'] at CO1
                have e1 : (j : Int) - 1 = ((j - 1 : Nat) : Int) := by omega
                have hwj1 : IntKind.i64.wrap ((j - 1 : Nat) : Int) = ((j - 1 : Nat) : Int) := by simp only [IntKind.wrap_i64]; omega
                have hjn : ((j - 1 : Nat) : Int) < (n : Int) := by omega
                clear hcl' hr' hrow9
                rcases Bool.eq_false_or_eq_true (f (j - 1)) with hm | hm
                · rw [hm] at CO1
                  have HM := Lib.hid (show js f (i + 1) = js f (j - 1) by rw [HJS.out]; have := js_yes hm; rw [show j - 1 + 1 = j by omega] at this; exact this)
                  clear hm
                  go_wp2
                  have kk := fun d os => belStep hbel (below_regrown _ d os)
                  refine wp_region_quiet_below (by kernel_rfl) (by kernel_rfl) ?_
                  repeat ((with_reducible refine wpQuiet_step (fun K hK => ?_)); go_simp; (try (rw [if_neg]; rotate_left; · decide)); first | ((with_reducible refine hK _ ?_); clear hK K) | (apply Exists.intro; refine ⟨fun _ => ?_, hK _ ?_⟩; (first | (go_at_call 27; with_reducible exact Calls.regrown_of (CO1.out _ (kk _ _)))); clear hK K))
                  refine wpQuiet_nil (fun w1 hw1 => ?_)
                  replace hbel := belStep hbel (bel_of_class hw1)
                  clear hw1 kk
                  go_wp2
                  go_roundw
                  case rel => exact ⟨j - 1, by omega, by first | rfl | congr 1, HM.out, hbel⟩
                  case measure => simp [intOf] <;> omega
                · rw [hm] at CO1
                  have hfin : js f (i + 1) = j := by rw [HJS.out]; have := js_no hm; rw [show j - 1 + 1 = j by omega] at this; exact this
                  clear hm
                  go_wp2
                  have kk := fun d os => belStep hbel (below_regrown _ d os)
                  refine wp_region_quiet_below (by kernel_rfl) (by kernel_rfl) ?_
                  repeat ((with_reducible refine wpQuiet_step (fun K hK => ?_)); go_simp; (try (rw [if_neg]; rotate_left; · decide)); first | ((with_reducible refine hK _ ?_); clear hK K) | (apply Exists.intro; refine ⟨fun _ => ?_, hK _ ?_⟩; (first | (go_at_call 27; with_reducible exact Calls.regrown_of (CO1.out _ (kk _ _)))); clear hK K))
                  refine wpQuiet_nil (fun w1 hw1 => ?_)
                  replace hbel := belStep hbel (bel_of_class hw1)
                  clear hw1 kk
                  rw [hfin] at EZ
                  clear hfin
                  by_cases hji : j ≤ i
                  · have hjiI : (j : Int) ≤ (i : Int) := by omega
                    have hjn2 : (j : Int) < (n : Int) := by omega
                    have aj := keep (HI3R.out j (by omega))
                    rw [decide_eq_true hji, Bool.true_and] at EZ
                    rcases HGF.out with ⟨rfl, g1, g2⟩ | ⟨rfl, g1⟩
                    · simp only [Bool.not_true, Bool.false_or] at EZ
                      have hb1 := hAT.out i (by omega)
                      rw [HAI.out] at hb1
                      have hb2 := hAT.out j (by omega)
                      obtain ⟨aJ, eJ⟩ : ∃ x, atR L j = x := ⟨_, rfl⟩
                      rw [eJ] at aj EZ hb2
                      clear eJ
                      have hwj : wrap64 (ai - aJ) = ai - aJ := by unfold wrap64; omega
                      have hwk : IntKind.i64.wrap (ai - aJ) = ai - aJ := by simp only [IntKind.wrap_i64]; omega
                      by_cases hg : tgr ≤ ai - aJ
                      · rw [decide_eq_true hg] at EZ
                        have ez := EZ.out
                        subst ez
                        clear g1 g2 hb1 hb2
                        go_wp2
                        have kk := fun d os => belStep hbel (below_regrown _ d os)
                        refine wp_region_quiet_below (by kernel_rfl) (by kernel_rfl) ?_
                        repeat ((with_reducible refine wpQuiet_step (fun K hK => ?_)); go_simp; (try (rw [if_neg]; rotate_left; · decide)); first | ((with_reducible refine hK _ ?_); clear hK K) | (apply Exists.intro; refine ⟨fun _ => ?_, hK _ ?_⟩; (fail); clear hK K))
                        refine wpQuiet_nil (fun w1 hw1 => ?_)
                        replace hbel := belStep hbel (bel_of_class hw1)
                        clear hw1 kk
                        go_wp2
                        go_roundw
                        case rel => exact ⟨k + 1, by omega, by push_cast; rfl, belStep HW9.out hbel⟩
                        case measure => simp [intOf] <;> omega
                      · rw [decide_eq_false hg] at EZ
                        have ez := EZ.out
                        subst ez
                        clear g1 g2 hb1 hb2
                        go_wp2
                        have kk := fun d os => belStep hbel (below_regrown _ d os)
                        refine wp_region_quiet_below (by kernel_rfl) (by kernel_rfl) ?_
                        repeat ((with_reducible refine wpQuiet_step (fun K hK => ?_)); go_simp; (try (rw [if_neg]; rotate_left; · decide)); first | ((with_reducible refine hK _ ?_); clear hK K) | (apply Exists.intro; refine ⟨fun _ => ?_, hK _ ?_⟩; (fail); clear hK K))
                        refine wpQuiet_nil (fun w1 hw1 => ?_)
                        replace hbel := belStep hbel (bel_of_class hw1)
                        clear hw1 kk
                        go_wp2
                        go_roundw
                        case rel => exact ⟨k + 1, by omega, by push_cast; rfl, belStep HW9.out hbel⟩
                        case measure => simp [intOf] <;> omega
                    · simp only [Bool.not_false, Bool.true_or] at EZ
                      have ez := EZ.out
                      subst ez
                      clear g1
                      go_wp2
                      have kk := fun d os => belStep hbel (below_regrown _ d os)
                      refine wp_region_quiet_below (by kernel_rfl) (by kernel_rfl) ?_
                      repeat ((with_reducible refine wpQuiet_step (fun K hK => ?_)); go_simp; (try (rw [if_neg]; rotate_left; · decide)); first | ((with_reducible refine hK _ ?_); clear hK K) | (apply Exists.intro; refine ⟨fun _ => ?_, hK _ ?_⟩; (fail); clear hK K))
                      refine wpQuiet_nil (fun w1 hw1 => ?_)
                      replace hbel := belStep hbel (bel_of_class hw1)
                      clear hw1 kk
                      go_wp2
                      go_roundw
                      case rel => exact ⟨k + 1, by omega, by push_cast; rfl, belStep HW9.out hbel⟩
                      case measure => simp [intOf] <;> omega
                  · have hjiD : decide ((j : Int) ≤ (i : Int)) = false := decide_eq_false (by omega)
                    rw [decide_eq_false hji, Bool.false_and] at EZ
                    have ez := EZ.out
                    subst ez
                    go_wp2
                    have kk := fun d os => belStep hbel (below_regrown _ d os)
                    refine wp_region_quiet_below (by kernel_rfl) (by kernel_rfl) ?_
                    repeat ((with_reducible refine wpQuiet_step (fun K hK => ?_)); go_simp; (try (rw [if_neg]; rotate_left; · decide)); first | ((with_reducible refine hK _ ?_); clear hK K) | (apply Exists.intro; refine ⟨fun _ => ?_, hK _ ?_⟩; (fail); clear hK K))
                    refine wpQuiet_nil (fun w1 hw1 => ?_)
                    replace hbel := belStep hbel (bel_of_class hw1)
                    clear hw1 kk
                    go_wp2
                    go_roundw
                    case rel => exact ⟨k + 1, by omega, by push_cast; rfl, belStep HW9.out hbel⟩
                    case measure => simp [intOf] <;> omega
          · obtain rfl : k = c.tl := by omega
            have hki : ¬ (c.tl : Int) < (c.tl : Int) := by omega
            go_wp2
            go_roundw
            case rel => exact ⟨i + 1, by omega, by push_cast; rfl, ⟨g3, rfl, HS5.out.later HB7.out⟩, belStep HW7.out HB7.out⟩
            case measure => simp [intOf] <;> omega
      · obtain rfl : i = n := by omega
        have hini : ¬ (i : Int) < (i : Int) := by omega
        go_wp2
        go_ret
        exact ⟨rfl, belStep HW4.out hbel⟩

set_option maxRecDepth 100000 in
theorem lifted (os : Os) (started : os.Started) (H : Type) (enc : TypeId × Value → H) :
    ReturnsInHanded {} Try.checked os 5 .any (Rows.graceRunsSpec.pre6 enc Try.prog Try.f5 Rows.graceRunsRow.domain false) (Rows.graceRunsSpec.post enc Try.prog Try.f5 false true false false) := by
  refine returnsInHanded_of_change (C := Try.checked) own started (by kernel_rfl) Try.func5
    (ChangeSpec.witness6 (enc := enc) (C := Try.checked) false ⟨#[], #[.agg #[.int .i64 0, .int .i64 0, .int .i64 0, .int .i64 0, .int .i64 0, .int .i64 0, .slice none 0 0, .int .i64 0, .int .i64 0, .int .i64 0, .int .i64 0], .slice none 0 0], []⟩ 8 (by kernel_rfl) (by kernel_rfl) (by kernel_rfl) (by kernel_rfl)) ?_
  intro W base args ds gs before hval0 hW hcnd _
  have hval : ∀ (j : Nat) t v, Try.f5.params[j]? = some t → args[j]? = some v → Value.okWide Try.prog W .any base t v := hval0
  have hW' := hW
  obtain ⟨p, q, hA0, hV, rfl, hfz, hnd⟩ := hW
  have hA : DataW.TrodAll enc Try.prog W 0 (fun _ => true) true Try.f5.params.toList args.toList ds p := hA0
  rw [Try.params5] at hA hval
  obtain ⟨v0, vs0, d0, ds0, p0, q0, hargs, rfl, rfl, h0, r0⟩ := trodAll_cons hA
  obtain ⟨v1, vs1, d1, ds1, p1, q1, rfl, rfl, rfl, h1, r1⟩ := trodAll_cons r0
  obtain ⟨rfl, rfl, rfl⟩ := trodAll_nil r1
  obtain rfl : args = #[v0, v1] := by cases args; simp_all
  obtain ⟨rfl, rfl⟩ := trodVars_none hV
  have k0 := h0
  have lt0 : ∀ x ∈ p0, x.block < W.heap.size := by obtain ⟨m, hm⟩ := k0; exact DataW.trod_lt m _ _ _ hm
  have o0 : Value.okWide Try.prog W .any base 25 v0 := hval 0 25 v0 rfl rfl
  obtain ⟨c0, rfl, hc0⟩ := open_cfg o0 h0
  have k1 := h1
  have lt1 : ∀ x ∈ p1, x.block < W.heap.size := by obtain ⟨m, hm⟩ := k1; exact DataW.trod_lt m _ _ _ hm
  have o1 : Value.okWide Try.prog W .any base 42 v1 := hval 1 42 v1 rfl rfl
  obtain ⟨a1, n1, lc1, L1, rfl, hL1, hok1, hR1⟩ := open_rows o1 h1
  clear hA0 hval0
  refine (walk c0 a1 n1 lc1 L1 W hc0 hL1 hok1 hR1).mono fun e W' ⟨he, bel⟩ => ?_
  subst he
  exact ⟨_, rfl, _, _, _, [], _, [], hW', trodAll_mk1 (shut_bool Try.underlying4 _), (trodAll_cons_mk (Below.trod laidOut (by kernel_rfl) (of_decide_eq_true (by kernel_rfl)) k0 bel lt0) (trodAll_cons_mk (Below.trod laidOut (by kernel_rfl) (of_decide_eq_true (by kernel_rfl)) k1 bel lt1) trodAll_mk0)), rfl, bel.frame _, fun h => by cases h⟩

theorem over : Rows.graceRunsRow.holds Try.pinned (OpenSpec.ofChange Rows.graceRunsSpec) :=
  OpenClaim.holds_of_wide 5 Try.f5 rfl rfl rfl rfl rfl rfl rfl ⟨rfl, rfl, rfl, rfl, rfl⟩ rfl rfl rfl rfl rfl (by kernel_rfl) Try.func5 (by kernel_rfl)
    (of_decide_eq_true (by kernel_rfl)) (by unfold Func.isWrapper; first | (rw [if_pos (by decide +kernel)]; kernel_rfl) | (rw [if_neg (by decide +kernel)]; exact ⟨rfl, rfl⟩))
    (fun os started H enc _ => lifted os started H enc)

/-- The statement. -/
theorem proved : Rows.GraceRunsSaid := over
#print axioms proved

end Go.Proofs.Ytbancemkajgljaa.graceRuns
