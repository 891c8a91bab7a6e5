/- bilgeref18.Fit, SameInts, SameBools: contracts. -/
import Derived.Test.YtbancemkajgljaaGr5
namespace Go.Proofs.Ytbancemkajgljaa
open Go.RowKit
set_option linter.unusedVariables false
set_option linter.unusedSimpArgs false

structure FitC (c : CfgV) (sl : Nat) (S : List Int) (r : Int) : Prop where
  rc : RightC c
  len : sl = c.tl
  r0 : 0 ≤ r
  r1 : r ≤ 1099511627776
  S0 : ∀ k, k < c.tl → -1 ≤ el S k ∧ el S k ≤ r
set_option maxRecDepth 100000 in
set_option maxHeartbeats 8000000 in
theorem ref_Fit (c : CfgV) (sa : Option Addr) (sl sc : Nat) (S : List Int) (r : Int) (w : World) (hc : c.ok w) (hS : Ints .i64 w sa sl sc S) : Calls Try.prog 10 #[.agg #[.int .i64 c.k0, .int .i64 c.k1, .int .i64 c.k2, .int .i64 c.a0, .int .i64 c.a1, .int .i64 c.a2, .slice c.ta c.tl c.tc, .int .i64 c.per, .int .i64 c.ret, .int .i64 c.age, .int .i64 c.dead], .slice sa sl sc, .int .i64 r] w fun e w' => Tells (FitC c sl S r) e ∧ Below w.heap.size w w' := by
  have hw : Below w.heap.size w w := Below.refl _ _
  have hbel := hw
  obtain ⟨hsl, hsc1, hsc2⟩ := hS.bounds
  have CR := Lib.hid (fun u (h : Below w.heap.size w u) => ref7_Right c u (hc.later h))
  have HS := Lib.hid hS
  have HT := Lib.hid (show c.tl ≤ 9223372036854775807 by obtain ⟨_, h1, h2, _⟩ := hc.row; unfold maxLen at h2; omega)
  clear hc hS
  have key : (¬ sl = c.tl) ∨ (sl = c.tl ∧ r < 0) ∨ (sl = c.tl ∧ ¬ r < 0 ∧ 1099511627776 < r) ∨ (sl = c.tl ∧ ¬ r < 0 ∧ ¬ 1099511627776 < r) := by omega
  rcases key with q1 | ⟨q1, q2⟩ | ⟨q1, q2, q3⟩ | ⟨q1, q2, q3⟩
  · have q4 : ((sl : Int) == (c.tl : Int)) = false := by simp; omega
    go_enter Try.func10, Try.ntmps10
    go_upto_region 1 with fail
    have cc0 : (w.alloc (.cells #[.int .i64 c.k0, .int .i64 c.k1, .int .i64 c.k2, .int .i64 c.a0, .int .i64 c.a1, .int .i64 c.a2, .slice c.ta c.tl c.tc, .int .i64 c.per, .int .i64 c.ret, .int .i64 c.age, .int .i64 c.dead] 25)).cell? ⟨w.heap.size, 0, none⟩ = some (.int .i64 c.k0) := by first | (simp; done) | (rw [World.cell?_alloc_at _ _ _ _ (by simp)]; rfl) | (rw [World.cell?_alloc_past _ _ _ (by simp <;> omega), World.cell?_alloc_at _ _ _ _ (by simp)]; rfl) | (rw [World.cell?_alloc_past _ _ _ (by simp <;> omega), World.cell?_alloc_past _ _ _ (by simp <;> omega), World.cell?_alloc_at _ _ _ _ (by simp)]; rfl)
    have cc1 : (w.alloc (.cells #[.int .i64 c.k0, .int .i64 c.k1, .int .i64 c.k2, .int .i64 c.a0, .int .i64 c.a1, .int .i64 c.a2, .slice c.ta c.tl c.tc, .int .i64 c.per, .int .i64 c.ret, .int .i64 c.age, .int .i64 c.dead] 25)).cell? ⟨w.heap.size, 1, none⟩ = some (.int .i64 c.k1) := by first | (simp; done) | (rw [World.cell?_alloc_at _ _ _ _ (by simp)]; rfl) | (rw [World.cell?_alloc_past _ _ _ (by simp <;> omega), World.cell?_alloc_at _ _ _ _ (by simp)]; rfl) | (rw [World.cell?_alloc_past _ _ _ (by simp <;> omega), World.cell?_alloc_past _ _ _ (by simp <;> omega), World.cell?_alloc_at _ _ _ _ (by simp)]; rfl)
    have cc2 : (w.alloc (.cells #[.int .i64 c.k0, .int .i64 c.k1, .int .i64 c.k2, .int .i64 c.a0, .int .i64 c.a1, .int .i64 c.a2, .slice c.ta c.tl c.tc, .int .i64 c.per, .int .i64 c.ret, .int .i64 c.age, .int .i64 c.dead] 25)).cell? ⟨w.heap.size, 2, none⟩ = some (.int .i64 c.k2) := by first | (simp; done) | (rw [World.cell?_alloc_at _ _ _ _ (by simp)]; rfl) | (rw [World.cell?_alloc_past _ _ _ (by simp <;> omega), World.cell?_alloc_at _ _ _ _ (by simp)]; rfl) | (rw [World.cell?_alloc_past _ _ _ (by simp <;> omega), World.cell?_alloc_past _ _ _ (by simp <;> omega), World.cell?_alloc_at _ _ _ _ (by simp)]; rfl)
    have cc3 : (w.alloc (.cells #[.int .i64 c.k0, .int .i64 c.k1, .int .i64 c.k2, .int .i64 c.a0, .int .i64 c.a1, .int .i64 c.a2, .slice c.ta c.tl c.tc, .int .i64 c.per, .int .i64 c.ret, .int .i64 c.age, .int .i64 c.dead] 25)).cell? ⟨w.heap.size, 3, none⟩ = some (.int .i64 c.a0) := by first | (simp; done) | (rw [World.cell?_alloc_at _ _ _ _ (by simp)]; rfl) | (rw [World.cell?_alloc_past _ _ _ (by simp <;> omega), World.cell?_alloc_at _ _ _ _ (by simp)]; rfl) | (rw [World.cell?_alloc_past _ _ _ (by simp <;> omega), World.cell?_alloc_past _ _ _ (by simp <;> omega), World.cell?_alloc_at _ _ _ _ (by simp)]; rfl)
    have cc4 : (w.alloc (.cells #[.int .i64 c.k0, .int .i64 c.k1, .int .i64 c.k2, .int .i64 c.a0, .int .i64 c.a1, .int .i64 c.a2, .slice c.ta c.tl c.tc, .int .i64 c.per, .int .i64 c.ret, .int .i64 c.age, .int .i64 c.dead] 25)).cell? ⟨w.heap.size, 4, none⟩ = some (.int .i64 c.a1) := by first | (simp; done) | (rw [World.cell?_alloc_at _ _ _ _ (by simp)]; rfl) | (rw [World.cell?_alloc_past _ _ _ (by simp <;> omega), World.cell?_alloc_at _ _ _ _ (by simp)]; rfl) | (rw [World.cell?_alloc_past _ _ _ (by simp <;> omega), World.cell?_alloc_past _ _ _ (by simp <;> omega), World.cell?_alloc_at _ _ _ _ (by simp)]; rfl)
    have cc5 : (w.alloc (.cells #[.int .i64 c.k0, .int .i64 c.k1, .int .i64 c.k2, .int .i64 c.a0, .int .i64 c.a1, .int .i64 c.a2, .slice c.ta c.tl c.tc, .int .i64 c.per, .int .i64 c.ret, .int .i64 c.age, .int .i64 c.dead] 25)).cell? ⟨w.heap.size, 5, none⟩ = some (.int .i64 c.a2) := by first | (simp; done) | (rw [World.cell?_alloc_at _ _ _ _ (by simp)]; rfl) | (rw [World.cell?_alloc_past _ _ _ (by simp <;> omega), World.cell?_alloc_at _ _ _ _ (by simp)]; rfl) | (rw [World.cell?_alloc_past _ _ _ (by simp <;> omega), World.cell?_alloc_past _ _ _ (by simp <;> omega), World.cell?_alloc_at _ _ _ _ (by simp)]; rfl)
    have cc6 : (w.alloc (.cells #[.int .i64 c.k0, .int .i64 c.k1, .int .i64 c.k2, .int .i64 c.a0, .int .i64 c.a1, .int .i64 c.a2, .slice c.ta c.tl c.tc, .int .i64 c.per, .int .i64 c.ret, .int .i64 c.age, .int .i64 c.dead] 25)).cell? ⟨w.heap.size, 6, none⟩ = some (.slice c.ta c.tl c.tc) := by first | (simp; done) | (rw [World.cell?_alloc_at _ _ _ _ (by simp)]; rfl) | (rw [World.cell?_alloc_past _ _ _ (by simp <;> omega), World.cell?_alloc_at _ _ _ _ (by simp)]; rfl) | (rw [World.cell?_alloc_past _ _ _ (by simp <;> omega), World.cell?_alloc_past _ _ _ (by simp <;> omega), World.cell?_alloc_at _ _ _ _ (by simp)]; rfl)
    have cc7 : (w.alloc (.cells #[.int .i64 c.k0, .int .i64 c.k1, .int .i64 c.k2, .int .i64 c.a0, .int .i64 c.a1, .int .i64 c.a2, .slice c.ta c.tl c.tc, .int .i64 c.per, .int .i64 c.ret, .int .i64 c.age, .int .i64 c.dead] 25)).cell? ⟨w.heap.size, 7, none⟩ = some (.int .i64 c.per) := by first | (simp; done) | (rw [World.cell?_alloc_at _ _ _ _ (by simp)]; rfl) | (rw [World.cell?_alloc_past _ _ _ (by simp <;> omega), World.cell?_alloc_at _ _ _ _ (by simp)]; rfl) | (rw [World.cell?_alloc_past _ _ _ (by simp <;> omega), World.cell?_alloc_past _ _ _ (by simp <;> omega), World.cell?_alloc_at _ _ _ _ (by simp)]; rfl)
    have cc8 : (w.alloc (.cells #[.int .i64 c.k0, .int .i64 c.k1, .int .i64 c.k2, .int .i64 c.a0, .int .i64 c.a1, .int .i64 c.a2, .slice c.ta c.tl c.tc, .int .i64 c.per, .int .i64 c.ret, .int .i64 c.age, .int .i64 c.dead] 25)).cell? ⟨w.heap.size, 8, none⟩ = some (.int .i64 c.ret) := by first | (simp; done) | (rw [World.cell?_alloc_at _ _ _ _ (by simp)]; rfl) | (rw [World.cell?_alloc_past _ _ _ (by simp <;> omega), World.cell?_alloc_at _ _ _ _ (by simp)]; rfl) | (rw [World.cell?_alloc_past _ _ _ (by simp <;> omega), World.cell?_alloc_past _ _ _ (by simp <;> omega), World.cell?_alloc_at _ _ _ _ (by simp)]; rfl)
    have cc9 : (w.alloc (.cells #[.int .i64 c.k0, .int .i64 c.k1, .int .i64 c.k2, .int .i64 c.a0, .int .i64 c.a1, .int .i64 c.a2, .slice c.ta c.tl c.tc, .int .i64 c.per, .int .i64 c.ret, .int .i64 c.age, .int .i64 c.dead] 25)).cell? ⟨w.heap.size, 9, none⟩ = some (.int .i64 c.age) := by first | (simp; done) | (rw [World.cell?_alloc_at _ _ _ _ (by simp)]; rfl) | (rw [World.cell?_alloc_past _ _ _ (by simp <;> omega), World.cell?_alloc_at _ _ _ _ (by simp)]; rfl) | (rw [World.cell?_alloc_past _ _ _ (by simp <;> omega), World.cell?_alloc_past _ _ _ (by simp <;> omega), World.cell?_alloc_at _ _ _ _ (by simp)]; rfl)
    have cc10 : (w.alloc (.cells #[.int .i64 c.k0, .int .i64 c.k1, .int .i64 c.k2, .int .i64 c.a0, .int .i64 c.a1, .int .i64 c.a2, .slice c.ta c.tl c.tc, .int .i64 c.per, .int .i64 c.ret, .int .i64 c.age, .int .i64 c.dead] 25)).cell? ⟨w.heap.size, 10, none⟩ = some (.int .i64 c.dead) := by first | (simp; done) | (rw [World.cell?_alloc_at _ _ _ _ (by simp)]; rfl) | (rw [World.cell?_alloc_past _ _ _ (by simp <;> omega), World.cell?_alloc_at _ _ _ _ (by simp)]; rfl) | (rw [World.cell?_alloc_past _ _ _ (by simp <;> omega), World.cell?_alloc_past _ _ _ (by simp <;> omega), World.cell?_alloc_at _ _ _ _ (by simp)]; rfl)
    have hb2 := (by repeat (first | exact hbel | refine belAlloc ?_ _ | refine belDrew ?_ | refine belSet ?_ _ _ (by simp)) : Below w.heap.size w (w.alloc (.cells #[.int .i64 c.k0, .int .i64 c.k1, .int .i64 c.k2, .int .i64 c.a0, .int .i64 c.a1, .int .i64 c.a2, .slice c.ta c.tl c.tc, .int .i64 c.per, .int .i64 c.ret, .int .i64 c.age, .int .i64 c.dead] 25)))
    replace hw := belStep hw hb2
    clear hb2 hbel
    generalize w.alloc (.cells #[.int .i64 c.k0, .int .i64 c.k1, .int .i64 c.k2, .int .i64 c.a0, .int .i64 c.a1, .int .i64 c.a2, .slice c.ta c.tl c.tc, .int .i64 c.per, .int .i64 c.ret, .int .i64 c.age, .int .i64 c.dead] 25) = W1 at *
    replace cc0 := keep cc0
    replace cc1 := keep cc1
    replace cc2 := keep cc2
    replace cc3 := keep cc3
    replace cc4 := keep cc4
    replace cc5 := keep cc5
    replace cc6 := keep cc6
    replace cc7 := keep cc7
    replace cc8 := keep cc8
    replace cc9 := keep cc9
    replace cc10 := keep cc10
    have hbel : Below W1.heap.size W1 W1 := Below.refl _ _
    skip
    have HW := Lib.hid hw
    clear hw
    go_wp2_with (first | (go_at_call 21; (with_reducible refine (CR.out _ HW.out).mono ?_); rintro e w2 ⟨⟨b, rfl, hT⟩, hb2⟩; have HB2 := Lib.hid hb2; have HTT := Lib.hid hT; replace hbel := hb2; clear hb2 hT; rcases Bool.eq_false_or_eq_true b with rfl | rfl))
    all_goals
      go_ret
      exact ⟨Tells.no, HW.out.trans (HB2.out.mono HW.out.size)⟩
  · have q4 : ((sl : Int) == (c.tl : Int)) = true := by simp; omega
    go_enter Try.func10, Try.ntmps10
    go_upto_region 1 with fail
    have cc0 : (w.alloc (.cells #[.int .i64 c.k0, .int .i64 c.k1, .int .i64 c.k2, .int .i64 c.a0, .int .i64 c.a1, .int .i64 c.a2, .slice c.ta c.tl c.tc, .int .i64 c.per, .int .i64 c.ret, .int .i64 c.age, .int .i64 c.dead] 25)).cell? ⟨w.heap.size, 0, none⟩ = some (.int .i64 c.k0) := by first | (simp; done) | (rw [World.cell?_alloc_at _ _ _ _ (by simp)]; rfl) | (rw [World.cell?_alloc_past _ _ _ (by simp <;> omega), World.cell?_alloc_at _ _ _ _ (by simp)]; rfl) | (rw [World.cell?_alloc_past _ _ _ (by simp <;> omega), World.cell?_alloc_past _ _ _ (by simp <;> omega), World.cell?_alloc_at _ _ _ _ (by simp)]; rfl)
    have cc1 : (w.alloc (.cells #[.int .i64 c.k0, .int .i64 c.k1, .int .i64 c.k2, .int .i64 c.a0, .int .i64 c.a1, .int .i64 c.a2, .slice c.ta c.tl c.tc, .int .i64 c.per, .int .i64 c.ret, .int .i64 c.age, .int .i64 c.dead] 25)).cell? ⟨w.heap.size, 1, none⟩ = some (.int .i64 c.k1) := by first | (simp; done) | (rw [World.cell?_alloc_at _ _ _ _ (by simp)]; rfl) | (rw [World.cell?_alloc_past _ _ _ (by simp <;> omega), World.cell?_alloc_at _ _ _ _ (by simp)]; rfl) | (rw [World.cell?_alloc_past _ _ _ (by simp <;> omega), World.cell?_alloc_past _ _ _ (by simp <;> omega), World.cell?_alloc_at _ _ _ _ (by simp)]; rfl)
    have cc2 : (w.alloc (.cells #[.int .i64 c.k0, .int .i64 c.k1, .int .i64 c.k2, .int .i64 c.a0, .int .i64 c.a1, .int .i64 c.a2, .slice c.ta c.tl c.tc, .int .i64 c.per, .int .i64 c.ret, .int .i64 c.age, .int .i64 c.dead] 25)).cell? ⟨w.heap.size, 2, none⟩ = some (.int .i64 c.k2) := by first | (simp; done) | (rw [World.cell?_alloc_at _ _ _ _ (by simp)]; rfl) | (rw [World.cell?_alloc_past _ _ _ (by simp <;> omega), World.cell?_alloc_at _ _ _ _ (by simp)]; rfl) | (rw [World.cell?_alloc_past _ _ _ (by simp <;> omega), World.cell?_alloc_past _ _ _ (by simp <;> omega), World.cell?_alloc_at _ _ _ _ (by simp)]; rfl)
    have cc3 : (w.alloc (.cells #[.int .i64 c.k0, .int .i64 c.k1, .int .i64 c.k2, .int .i64 c.a0, .int .i64 c.a1, .int .i64 c.a2, .slice c.ta c.tl c.tc, .int .i64 c.per, .int .i64 c.ret, .int .i64 c.age, .int .i64 c.dead] 25)).cell? ⟨w.heap.size, 3, none⟩ = some (.int .i64 c.a0) := by first | (simp; done) | (rw [World.cell?_alloc_at _ _ _ _ (by simp)]; rfl) | (rw [World.cell?_alloc_past _ _ _ (by simp <;> omega), World.cell?_alloc_at _ _ _ _ (by simp)]; rfl) | (rw [World.cell?_alloc_past _ _ _ (by simp <;> omega), World.cell?_alloc_past _ _ _ (by simp <;> omega), World.cell?_alloc_at _ _ _ _ (by simp)]; rfl)
    have cc4 : (w.alloc (.cells #[.int .i64 c.k0, .int .i64 c.k1, .int .i64 c.k2, .int .i64 c.a0, .int .i64 c.a1, .int .i64 c.a2, .slice c.ta c.tl c.tc, .int .i64 c.per, .int .i64 c.ret, .int .i64 c.age, .int .i64 c.dead] 25)).cell? ⟨w.heap.size, 4, none⟩ = some (.int .i64 c.a1) := by first | (simp; done) | (rw [World.cell?_alloc_at _ _ _ _ (by simp)]; rfl) | (rw [World.cell?_alloc_past _ _ _ (by simp <;> omega), World.cell?_alloc_at _ _ _ _ (by simp)]; rfl) | (rw [World.cell?_alloc_past _ _ _ (by simp <;> omega), World.cell?_alloc_past _ _ _ (by simp <;> omega), World.cell?_alloc_at _ _ _ _ (by simp)]; rfl)
    have cc5 : (w.alloc (.cells #[.int .i64 c.k0, .int .i64 c.k1, .int .i64 c.k2, .int .i64 c.a0, .int .i64 c.a1, .int .i64 c.a2, .slice c.ta c.tl c.tc, .int .i64 c.per, .int .i64 c.ret, .int .i64 c.age, .int .i64 c.dead] 25)).cell? ⟨w.heap.size, 5, none⟩ = some (.int .i64 c.a2) := by first | (simp; done) | (rw [World.cell?_alloc_at _ _ _ _ (by simp)]; rfl) | (rw [World.cell?_alloc_past _ _ _ (by simp <;> omega), World.cell?_alloc_at _ _ _ _ (by simp)]; rfl) | (rw [World.cell?_alloc_past _ _ _ (by simp <;> omega), World.cell?_alloc_past _ _ _ (by simp <;> omega), World.cell?_alloc_at _ _ _ _ (by simp)]; rfl)
    have cc6 : (w.alloc (.cells #[.int .i64 c.k0, .int .i64 c.k1, .int .i64 c.k2, .int .i64 c.a0, .int .i64 c.a1, .int .i64 c.a2, .slice c.ta c.tl c.tc, .int .i64 c.per, .int .i64 c.ret, .int .i64 c.age, .int .i64 c.dead] 25)).cell? ⟨w.heap.size, 6, none⟩ = some (.slice c.ta c.tl c.tc) := by first | (simp; done) | (rw [World.cell?_alloc_at _ _ _ _ (by simp)]; rfl) | (rw [World.cell?_alloc_past _ _ _ (by simp <;> omega), World.cell?_alloc_at _ _ _ _ (by simp)]; rfl) | (rw [World.cell?_alloc_past _ _ _ (by simp <;> omega), World.cell?_alloc_past _ _ _ (by simp <;> omega), World.cell?_alloc_at _ _ _ _ (by simp)]; rfl)
    have cc7 : (w.alloc (.cells #[.int .i64 c.k0, .int .i64 c.k1, .int .i64 c.k2, .int .i64 c.a0, .int .i64 c.a1, .int .i64 c.a2, .slice c.ta c.tl c.tc, .int .i64 c.per, .int .i64 c.ret, .int .i64 c.age, .int .i64 c.dead] 25)).cell? ⟨w.heap.size, 7, none⟩ = some (.int .i64 c.per) := by first | (simp; done) | (rw [World.cell?_alloc_at _ _ _ _ (by simp)]; rfl) | (rw [World.cell?_alloc_past _ _ _ (by simp <;> omega), World.cell?_alloc_at _ _ _ _ (by simp)]; rfl) | (rw [World.cell?_alloc_past _ _ _ (by simp <;> omega), World.cell?_alloc_past _ _ _ (by simp <;> omega), World.cell?_alloc_at _ _ _ _ (by simp)]; rfl)
    have cc8 : (w.alloc (.cells #[.int .i64 c.k0, .int .i64 c.k1, .int .i64 c.k2, .int .i64 c.a0, .int .i64 c.a1, .int .i64 c.a2, .slice c.ta c.tl c.tc, .int .i64 c.per, .int .i64 c.ret, .int .i64 c.age, .int .i64 c.dead] 25)).cell? ⟨w.heap.size, 8, none⟩ = some (.int .i64 c.ret) := by first | (simp; done) | (rw [World.cell?_alloc_at _ _ _ _ (by simp)]; rfl) | (rw [World.cell?_alloc_past _ _ _ (by simp <;> omega), World.cell?_alloc_at _ _ _ _ (by simp)]; rfl) | (rw [World.cell?_alloc_past _ _ _ (by simp <;> omega), World.cell?_alloc_past _ _ _ (by simp <;> omega), World.cell?_alloc_at _ _ _ _ (by simp)]; rfl)
    have cc9 : (w.alloc (.cells #[.int .i64 c.k0, .int .i64 c.k1, .int .i64 c.k2, .int .i64 c.a0, .int .i64 c.a1, .int .i64 c.a2, .slice c.ta c.tl c.tc, .int .i64 c.per, .int .i64 c.ret, .int .i64 c.age, .int .i64 c.dead] 25)).cell? ⟨w.heap.size, 9, none⟩ = some (.int .i64 c.age) := by first | (simp; done) | (rw [World.cell?_alloc_at _ _ _ _ (by simp)]; rfl) | (rw [World.cell?_alloc_past _ _ _ (by simp <;> omega), World.cell?_alloc_at _ _ _ _ (by simp)]; rfl) | (rw [World.cell?_alloc_past _ _ _ (by simp <;> omega), World.cell?_alloc_past _ _ _ (by simp <;> omega), World.cell?_alloc_at _ _ _ _ (by simp)]; rfl)
    have cc10 : (w.alloc (.cells #[.int .i64 c.k0, .int .i64 c.k1, .int .i64 c.k2, .int .i64 c.a0, .int .i64 c.a1, .int .i64 c.a2, .slice c.ta c.tl c.tc, .int .i64 c.per, .int .i64 c.ret, .int .i64 c.age, .int .i64 c.dead] 25)).cell? ⟨w.heap.size, 10, none⟩ = some (.int .i64 c.dead) := by first | (simp; done) | (rw [World.cell?_alloc_at _ _ _ _ (by simp)]; rfl) | (rw [World.cell?_alloc_past _ _ _ (by simp <;> omega), World.cell?_alloc_at _ _ _ _ (by simp)]; rfl) | (rw [World.cell?_alloc_past _ _ _ (by simp <;> omega), World.cell?_alloc_past _ _ _ (by simp <;> omega), World.cell?_alloc_at _ _ _ _ (by simp)]; rfl)
    have hb2 := (by repeat (first | exact hbel | refine belAlloc ?_ _ | refine belDrew ?_ | refine belSet ?_ _ _ (by simp)) : Below w.heap.size w (w.alloc (.cells #[.int .i64 c.k0, .int .i64 c.k1, .int .i64 c.k2, .int .i64 c.a0, .int .i64 c.a1, .int .i64 c.a2, .slice c.ta c.tl c.tc, .int .i64 c.per, .int .i64 c.ret, .int .i64 c.age, .int .i64 c.dead] 25)))
    replace hw := belStep hw hb2
    clear hb2 hbel
    generalize w.alloc (.cells #[.int .i64 c.k0, .int .i64 c.k1, .int .i64 c.k2, .int .i64 c.a0, .int .i64 c.a1, .int .i64 c.a2, .slice c.ta c.tl c.tc, .int .i64 c.per, .int .i64 c.ret, .int .i64 c.age, .int .i64 c.dead] 25) = W1 at *
    replace cc0 := keep cc0
    replace cc1 := keep cc1
    replace cc2 := keep cc2
    replace cc3 := keep cc3
    replace cc4 := keep cc4
    replace cc5 := keep cc5
    replace cc6 := keep cc6
    replace cc7 := keep cc7
    replace cc8 := keep cc8
    replace cc9 := keep cc9
    replace cc10 := keep cc10
    have hbel : Below W1.heap.size W1 W1 := Below.refl _ _
    skip
    have HW := Lib.hid hw
    clear hw
    go_wp2_with (first | (go_at_call 21; (with_reducible refine (CR.out _ HW.out).mono ?_); rintro e w2 ⟨⟨b, rfl, hT⟩, hb2⟩; have HB2 := Lib.hid hb2; have HTT := Lib.hid hT; replace hbel := hb2; clear hb2 hT; rcases Bool.eq_false_or_eq_true b with rfl | rfl))
    all_goals
      go_ret
      exact ⟨Tells.no, HW.out.trans (HB2.out.mono HW.out.size)⟩
  · have q4 : ((sl : Int) == (c.tl : Int)) = true := by simp; omega
    go_enter Try.func10, Try.ntmps10
    go_upto_region 1 with fail
    have cc0 : (w.alloc (.cells #[.int .i64 c.k0, .int .i64 c.k1, .int .i64 c.k2, .int .i64 c.a0, .int .i64 c.a1, .int .i64 c.a2, .slice c.ta c.tl c.tc, .int .i64 c.per, .int .i64 c.ret, .int .i64 c.age, .int .i64 c.dead] 25)).cell? ⟨w.heap.size, 0, none⟩ = some (.int .i64 c.k0) := by first | (simp; done) | (rw [World.cell?_alloc_at _ _ _ _ (by simp)]; rfl) | (rw [World.cell?_alloc_past _ _ _ (by simp <;> omega), World.cell?_alloc_at _ _ _ _ (by simp)]; rfl) | (rw [World.cell?_alloc_past _ _ _ (by simp <;> omega), World.cell?_alloc_past _ _ _ (by simp <;> omega), World.cell?_alloc_at _ _ _ _ (by simp)]; rfl)
    have cc1 : (w.alloc (.cells #[.int .i64 c.k0, .int .i64 c.k1, .int .i64 c.k2, .int .i64 c.a0, .int .i64 c.a1, .int .i64 c.a2, .slice c.ta c.tl c.tc, .int .i64 c.per, .int .i64 c.ret, .int .i64 c.age, .int .i64 c.dead] 25)).cell? ⟨w.heap.size, 1, none⟩ = some (.int .i64 c.k1) := by first | (simp; done) | (rw [World.cell?_alloc_at _ _ _ _ (by simp)]; rfl) | (rw [World.cell?_alloc_past _ _ _ (by simp <;> omega), World.cell?_alloc_at _ _ _ _ (by simp)]; rfl) | (rw [World.cell?_alloc_past _ _ _ (by simp <;> omega), World.cell?_alloc_past _ _ _ (by simp <;> omega), World.cell?_alloc_at _ _ _ _ (by simp)]; rfl)
    have cc2 : (w.alloc (.cells #[.int .i64 c.k0, .int .i64 c.k1, .int .i64 c.k2, .int .i64 c.a0, .int .i64 c.a1, .int .i64 c.a2, .slice c.ta c.tl c.tc, .int .i64 c.per, .int .i64 c.ret, .int .i64 c.age, .int .i64 c.dead] 25)).cell? ⟨w.heap.size, 2, none⟩ = some (.int .i64 c.k2) := by first | (simp; done) | (rw [World.cell?_alloc_at _ _ _ _ (by simp)]; rfl) | (rw [World.cell?_alloc_past _ _ _ (by simp <;> omega), World.cell?_alloc_at _ _ _ _ (by simp)]; rfl) | (rw [World.cell?_alloc_past _ _ _ (by simp <;> omega), World.cell?_alloc_past _ _ _ (by simp <;> omega), World.cell?_alloc_at _ _ _ _ (by simp)]; rfl)
    have cc3 : (w.alloc (.cells #[.int .i64 c.k0, .int .i64 c.k1, .int .i64 c.k2, .int .i64 c.a0, .int .i64 c.a1, .int .i64 c.a2, .slice c.ta c.tl c.tc, .int .i64 c.per, .int .i64 c.ret, .int .i64 c.age, .int .i64 c.dead] 25)).cell? ⟨w.heap.size, 3, none⟩ = some (.int .i64 c.a0) := by first | (simp; done) | (rw [World.cell?_alloc_at _ _ _ _ (by simp)]; rfl) | (rw [World.cell?_alloc_past _ _ _ (by simp <;> omega), World.cell?_alloc_at _ _ _ _ (by simp)]; rfl) | (rw [World.cell?_alloc_past _ _ _ (by simp <;> omega), World.cell?_alloc_past _ _ _ (by simp <;> omega), World.cell?_alloc_at _ _ _ _ (by simp)]; rfl)
    have cc4 : (w.alloc (.cells #[.int .i64 c.k0, .int .i64 c.k1, .int .i64 c.k2, .int .i64 c.a0, .int .i64 c.a1, .int .i64 c.a2, .slice c.ta c.tl c.tc, .int .i64 c.per, .int .i64 c.ret, .int .i64 c.age, .int .i64 c.dead] 25)).cell? ⟨w.heap.size, 4, none⟩ = some (.int .i64 c.a1) := by first | (simp; done) | (rw [World.cell?_alloc_at _ _ _ _ (by simp)]; rfl) | (rw [World.cell?_alloc_past _ _ _ (by simp <;> omega), World.cell?_alloc_at _ _ _ _ (by simp)]; rfl) | (rw [World.cell?_alloc_past _ _ _ (by simp <;> omega), World.cell?_alloc_past _ _ _ (by simp <;> omega), World.cell?_alloc_at _ _ _ _ (by simp)]; rfl)
    have cc5 : (w.alloc (.cells #[.int .i64 c.k0, .int .i64 c.k1, .int .i64 c.k2, .int .i64 c.a0, .int .i64 c.a1, .int .i64 c.a2, .slice c.ta c.tl c.tc, .int .i64 c.per, .int .i64 c.ret, .int .i64 c.age, .int .i64 c.dead] 25)).cell? ⟨w.heap.size, 5, none⟩ = some (.int .i64 c.a2) := by first | (simp; done) | (rw [World.cell?_alloc_at _ _ _ _ (by simp)]; rfl) | (rw [World.cell?_alloc_past _ _ _ (by simp <;> omega), World.cell?_alloc_at _ _ _ _ (by simp)]; rfl) | (rw [World.cell?_alloc_past _ _ _ (by simp <;> omega), World.cell?_alloc_past _ _ _ (by simp <;> omega), World.cell?_alloc_at _ _ _ _ (by simp)]; rfl)
    have cc6 : (w.alloc (.cells #[.int .i64 c.k0, .int .i64 c.k1, .int .i64 c.k2, .int .i64 c.a0, .int .i64 c.a1, .int .i64 c.a2, .slice c.ta c.tl c.tc, .int .i64 c.per, .int .i64 c.ret, .int .i64 c.age, .int .i64 c.dead] 25)).cell? ⟨w.heap.size, 6, none⟩ = some (.slice c.ta c.tl c.tc) := by first | (simp; done) | (rw [World.cell?_alloc_at _ _ _ _ (by simp)]; rfl) | (rw [World.cell?_alloc_past _ _ _ (by simp <;> omega), World.cell?_alloc_at _ _ _ _ (by simp)]; rfl) | (rw [World.cell?_alloc_past _ _ _ (by simp <;> omega), World.cell?_alloc_past _ _ _ (by simp <;> omega), World.cell?_alloc_at _ _ _ _ (by simp)]; rfl)
    have cc7 : (w.alloc (.cells #[.int .i64 c.k0, .int .i64 c.k1, .int .i64 c.k2, .int .i64 c.a0, .int .i64 c.a1, .int .i64 c.a2, .slice c.ta c.tl c.tc, .int .i64 c.per, .int .i64 c.ret, .int .i64 c.age, .int .i64 c.dead] 25)).cell? ⟨w.heap.size, 7, none⟩ = some (.int .i64 c.per) := by first | (simp; done) | (rw [World.cell?_alloc_at _ _ _ _ (by simp)]; rfl) | (rw [World.cell?_alloc_past _ _ _ (by simp <;> omega), World.cell?_alloc_at _ _ _ _ (by simp)]; rfl) | (rw [World.cell?_alloc_past _ _ _ (by simp <;> omega), World.cell?_alloc_past _ _ _ (by simp <;> omega), World.cell?_alloc_at _ _ _ _ (by simp)]; rfl)
    have cc8 : (w.alloc (.cells #[.int .i64 c.k0, .int .i64 c.k1, .int .i64 c.k2, .int .i64 c.a0, .int .i64 c.a1, .int .i64 c.a2, .slice c.ta c.tl c.tc, .int .i64 c.per, .int .i64 c.ret, .int .i64 c.age, .int .i64 c.dead] 25)).cell? ⟨w.heap.size, 8, none⟩ = some (.int .i64 c.ret) := by first | (simp; done) | (rw [World.cell?_alloc_at _ _ _ _ (by simp)]; rfl) | (rw [World.cell?_alloc_past _ _ _ (by simp <;> omega), World.cell?_alloc_at _ _ _ _ (by simp)]; rfl) | (rw [World.cell?_alloc_past _ _ _ (by simp <;> omega), World.cell?_alloc_past _ _ _ (by simp <;> omega), World.cell?_alloc_at _ _ _ _ (by simp)]; rfl)
    have cc9 : (w.alloc (.cells #[.int .i64 c.k0, .int .i64 c.k1, .int .i64 c.k2, .int .i64 c.a0, .int .i64 c.a1, .int .i64 c.a2, .slice c.ta c.tl c.tc, .int .i64 c.per, .int .i64 c.ret, .int .i64 c.age, .int .i64 c.dead] 25)).cell? ⟨w.heap.size, 9, none⟩ = some (.int .i64 c.age) := by first | (simp; done) | (rw [World.cell?_alloc_at _ _ _ _ (by simp)]; rfl) | (rw [World.cell?_alloc_past _ _ _ (by simp <;> omega), World.cell?_alloc_at _ _ _ _ (by simp)]; rfl) | (rw [World.cell?_alloc_past _ _ _ (by simp <;> omega), World.cell?_alloc_past _ _ _ (by simp <;> omega), World.cell?_alloc_at _ _ _ _ (by simp)]; rfl)
    have cc10 : (w.alloc (.cells #[.int .i64 c.k0, .int .i64 c.k1, .int .i64 c.k2, .int .i64 c.a0, .int .i64 c.a1, .int .i64 c.a2, .slice c.ta c.tl c.tc, .int .i64 c.per, .int .i64 c.ret, .int .i64 c.age, .int .i64 c.dead] 25)).cell? ⟨w.heap.size, 10, none⟩ = some (.int .i64 c.dead) := by first | (simp; done) | (rw [World.cell?_alloc_at _ _ _ _ (by simp)]; rfl) | (rw [World.cell?_alloc_past _ _ _ (by simp <;> omega), World.cell?_alloc_at _ _ _ _ (by simp)]; rfl) | (rw [World.cell?_alloc_past _ _ _ (by simp <;> omega), World.cell?_alloc_past _ _ _ (by simp <;> omega), World.cell?_alloc_at _ _ _ _ (by simp)]; rfl)
    have hb2 := (by repeat (first | exact hbel | refine belAlloc ?_ _ | refine belDrew ?_ | refine belSet ?_ _ _ (by simp)) : Below w.heap.size w (w.alloc (.cells #[.int .i64 c.k0, .int .i64 c.k1, .int .i64 c.k2, .int .i64 c.a0, .int .i64 c.a1, .int .i64 c.a2, .slice c.ta c.tl c.tc, .int .i64 c.per, .int .i64 c.ret, .int .i64 c.age, .int .i64 c.dead] 25)))
    replace hw := belStep hw hb2
    clear hb2 hbel
    generalize w.alloc (.cells #[.int .i64 c.k0, .int .i64 c.k1, .int .i64 c.k2, .int .i64 c.a0, .int .i64 c.a1, .int .i64 c.a2, .slice c.ta c.tl c.tc, .int .i64 c.per, .int .i64 c.ret, .int .i64 c.age, .int .i64 c.dead] 25) = W1 at *
    replace cc0 := keep cc0
    replace cc1 := keep cc1
    replace cc2 := keep cc2
    replace cc3 := keep cc3
    replace cc4 := keep cc4
    replace cc5 := keep cc5
    replace cc6 := keep cc6
    replace cc7 := keep cc7
    replace cc8 := keep cc8
    replace cc9 := keep cc9
    replace cc10 := keep cc10
    have hbel : Below W1.heap.size W1 W1 := Below.refl _ _
    skip
    have HW := Lib.hid hw
    clear hw
    go_wp2_with (first | (go_at_call 21; (with_reducible refine (CR.out _ HW.out).mono ?_); rintro e w2 ⟨⟨b, rfl, hT⟩, hb2⟩; have HB2 := Lib.hid hb2; have HTT := Lib.hid hT; replace hbel := hb2; clear hb2 hT; rcases Bool.eq_false_or_eq_true b with rfl | rfl))
    all_goals
      go_ret
      exact ⟨Tells.no, HW.out.trans (HB2.out.mono HW.out.size)⟩
  · have q4 : ((sl : Int) == (c.tl : Int)) = true := by simp; omega
    subst q1
    go_enter Try.func10, Try.ntmps10
    go_upto_region 1 with fail
    have cc0 : (w.alloc (.cells #[.int .i64 c.k0, .int .i64 c.k1, .int .i64 c.k2, .int .i64 c.a0, .int .i64 c.a1, .int .i64 c.a2, .slice c.ta c.tl c.tc, .int .i64 c.per, .int .i64 c.ret, .int .i64 c.age, .int .i64 c.dead] 25)).cell? ⟨w.heap.size, 0, none⟩ = some (.int .i64 c.k0) := by first | (simp; done) | (rw [World.cell?_alloc_at _ _ _ _ (by simp)]; rfl) | (rw [World.cell?_alloc_past _ _ _ (by simp <;> omega), World.cell?_alloc_at _ _ _ _ (by simp)]; rfl) | (rw [World.cell?_alloc_past _ _ _ (by simp <;> omega), World.cell?_alloc_past _ _ _ (by simp <;> omega), World.cell?_alloc_at _ _ _ _ (by simp)]; rfl)
    have cc1 : (w.alloc (.cells #[.int .i64 c.k0, .int .i64 c.k1, .int .i64 c.k2, .int .i64 c.a0, .int .i64 c.a1, .int .i64 c.a2, .slice c.ta c.tl c.tc, .int .i64 c.per, .int .i64 c.ret, .int .i64 c.age, .int .i64 c.dead] 25)).cell? ⟨w.heap.size, 1, none⟩ = some (.int .i64 c.k1) := by first | (simp; done) | (rw [World.cell?_alloc_at _ _ _ _ (by simp)]; rfl) | (rw [World.cell?_alloc_past _ _ _ (by simp <;> omega), World.cell?_alloc_at _ _ _ _ (by simp)]; rfl) | (rw [World.cell?_alloc_past _ _ _ (by simp <;> omega), World.cell?_alloc_past _ _ _ (by simp <;> omega), World.cell?_alloc_at _ _ _ _ (by simp)]; rfl)
    have cc2 : (w.alloc (.cells #[.int .i64 c.k0, .int .i64 c.k1, .int .i64 c.k2, .int .i64 c.a0, .int .i64 c.a1, .int .i64 c.a2, .slice c.ta c.tl c.tc, .int .i64 c.per, .int .i64 c.ret, .int .i64 c.age, .int .i64 c.dead] 25)).cell? ⟨w.heap.size, 2, none⟩ = some (.int .i64 c.k2) := by first | (simp; done) | (rw [World.cell?_alloc_at _ _ _ _ (by simp)]; rfl) | (rw [World.cell?_alloc_past _ _ _ (by simp <;> omega), World.cell?_alloc_at _ _ _ _ (by simp)]; rfl) | (rw [World.cell?_alloc_past _ _ _ (by simp <;> omega), World.cell?_alloc_past _ _ _ (by simp <;> omega), World.cell?_alloc_at _ _ _ _ (by simp)]; rfl)
    have cc3 : (w.alloc (.cells #[.int .i64 c.k0, .int .i64 c.k1, .int .i64 c.k2, .int .i64 c.a0, .int .i64 c.a1, .int .i64 c.a2, .slice c.ta c.tl c.tc, .int .i64 c.per, .int .i64 c.ret, .int .i64 c.age, .int .i64 c.dead] 25)).cell? ⟨w.heap.size, 3, none⟩ = some (.int .i64 c.a0) := by first | (simp; done) | (rw [World.cell?_alloc_at _ _ _ _ (by simp)]; rfl) | (rw [World.cell?_alloc_past _ _ _ (by simp <;> omega), World.cell?_alloc_at _ _ _ _ (by simp)]; rfl) | (rw [World.cell?_alloc_past _ _ _ (by simp <;> omega), World.cell?_alloc_past _ _ _ (by simp <;> omega), World.cell?_alloc_at _ _ _ _ (by simp)]; rfl)
    have cc4 : (w.alloc (.cells #[.int .i64 c.k0, .int .i64 c.k1, .int .i64 c.k2, .int .i64 c.a0, .int .i64 c.a1, .int .i64 c.a2, .slice c.ta c.tl c.tc, .int .i64 c.per, .int .i64 c.ret, .int .i64 c.age, .int .i64 c.dead] 25)).cell? ⟨w.heap.size, 4, none⟩ = some (.int .i64 c.a1) := by first | (simp; done) | (rw [World.cell?_alloc_at _ _ _ _ (by simp)]; rfl) | (rw [World.cell?_alloc_past _ _ _ (by simp <;> omega), World.cell?_alloc_at _ _ _ _ (by simp)]; rfl) | (rw [World.cell?_alloc_past _ _ _ (by simp <;> omega), World.cell?_alloc_past _ _ _ (by simp <;> omega), World.cell?_alloc_at _ _ _ _ (by simp)]; rfl)
    have cc5 : (w.alloc (.cells #[.int .i64 c.k0, .int .i64 c.k1, .int .i64 c.k2, .int .i64 c.a0, .int .i64 c.a1, .int .i64 c.a2, .slice c.ta c.tl c.tc, .int .i64 c.per, .int .i64 c.ret, .int .i64 c.age, .int .i64 c.dead] 25)).cell? ⟨w.heap.size, 5, none⟩ = some (.int .i64 c.a2) := by first | (simp; done) | (rw [World.cell?_alloc_at _ _ _ _ (by simp)]; rfl) | (rw [World.cell?_alloc_past _ _ _ (by simp <;> omega), World.cell?_alloc_at _ _ _ _ (by simp)]; rfl) | (rw [World.cell?_alloc_past _ _ _ (by simp <;> omega), World.cell?_alloc_past _ _ _ (by simp <;> omega), World.cell?_alloc_at _ _ _ _ (by simp)]; rfl)
    have cc6 : (w.alloc (.cells #[.int .i64 c.k0, .int .i64 c.k1, .int .i64 c.k2, .int .i64 c.a0, .int .i64 c.a1, .int .i64 c.a2, .slice c.ta c.tl c.tc, .int .i64 c.per, .int .i64 c.ret, .int .i64 c.age, .int .i64 c.dead] 25)).cell? ⟨w.heap.size, 6, none⟩ = some (.slice c.ta c.tl c.tc) := by first | (simp; done) | (rw [World.cell?_alloc_at _ _ _ _ (by simp)]; rfl) | (rw [World.cell?_alloc_past _ _ _ (by simp <;> omega), World.cell?_alloc_at _ _ _ _ (by simp)]; rfl) | (rw [World.cell?_alloc_past _ _ _ (by simp <;> omega), World.cell?_alloc_past _ _ _ (by simp <;> omega), World.cell?_alloc_at _ _ _ _ (by simp)]; rfl)
    have cc7 : (w.alloc (.cells #[.int .i64 c.k0, .int .i64 c.k1, .int .i64 c.k2, .int .i64 c.a0, .int .i64 c.a1, .int .i64 c.a2, .slice c.ta c.tl c.tc, .int .i64 c.per, .int .i64 c.ret, .int .i64 c.age, .int .i64 c.dead] 25)).cell? ⟨w.heap.size, 7, none⟩ = some (.int .i64 c.per) := by first | (simp; done) | (rw [World.cell?_alloc_at _ _ _ _ (by simp)]; rfl) | (rw [World.cell?_alloc_past _ _ _ (by simp <;> omega), World.cell?_alloc_at _ _ _ _ (by simp)]; rfl) | (rw [World.cell?_alloc_past _ _ _ (by simp <;> omega), World.cell?_alloc_past _ _ _ (by simp <;> omega), World.cell?_alloc_at _ _ _ _ (by simp)]; rfl)
    have cc8 : (w.alloc (.cells #[.int .i64 c.k0, .int .i64 c.k1, .int .i64 c.k2, .int .i64 c.a0, .int .i64 c.a1, .int .i64 c.a2, .slice c.ta c.tl c.tc, .int .i64 c.per, .int .i64 c.ret, .int .i64 c.age, .int .i64 c.dead] 25)).cell? ⟨w.heap.size, 8, none⟩ = some (.int .i64 c.ret) := by first | (simp; done) | (rw [World.cell?_alloc_at _ _ _ _ (by simp)]; rfl) | (rw [World.cell?_alloc_past _ _ _ (by simp <;> omega), World.cell?_alloc_at _ _ _ _ (by simp)]; rfl) | (rw [World.cell?_alloc_past _ _ _ (by simp <;> omega), World.cell?_alloc_past _ _ _ (by simp <;> omega), World.cell?_alloc_at _ _ _ _ (by simp)]; rfl)
    have cc9 : (w.alloc (.cells #[.int .i64 c.k0, .int .i64 c.k1, .int .i64 c.k2, .int .i64 c.a0, .int .i64 c.a1, .int .i64 c.a2, .slice c.ta c.tl c.tc, .int .i64 c.per, .int .i64 c.ret, .int .i64 c.age, .int .i64 c.dead] 25)).cell? ⟨w.heap.size, 9, none⟩ = some (.int .i64 c.age) := by first | (simp; done) | (rw [World.cell?_alloc_at _ _ _ _ (by simp)]; rfl) | (rw [World.cell?_alloc_past _ _ _ (by simp <;> omega), World.cell?_alloc_at _ _ _ _ (by simp)]; rfl) | (rw [World.cell?_alloc_past _ _ _ (by simp <;> omega), World.cell?_alloc_past _ _ _ (by simp <;> omega), World.cell?_alloc_at _ _ _ _ (by simp)]; rfl)
    have cc10 : (w.alloc (.cells #[.int .i64 c.k0, .int .i64 c.k1, .int .i64 c.k2, .int .i64 c.a0, .int .i64 c.a1, .int .i64 c.a2, .slice c.ta c.tl c.tc, .int .i64 c.per, .int .i64 c.ret, .int .i64 c.age, .int .i64 c.dead] 25)).cell? ⟨w.heap.size, 10, none⟩ = some (.int .i64 c.dead) := by first | (simp; done) | (rw [World.cell?_alloc_at _ _ _ _ (by simp)]; rfl) | (rw [World.cell?_alloc_past _ _ _ (by simp <;> omega), World.cell?_alloc_at _ _ _ _ (by simp)]; rfl) | (rw [World.cell?_alloc_past _ _ _ (by simp <;> omega), World.cell?_alloc_past _ _ _ (by simp <;> omega), World.cell?_alloc_at _ _ _ _ (by simp)]; rfl)
    have hb2 := (by repeat (first | exact hbel | refine belAlloc ?_ _ | refine belDrew ?_ | refine belSet ?_ _ _ (by simp)) : Below w.heap.size w (w.alloc (.cells #[.int .i64 c.k0, .int .i64 c.k1, .int .i64 c.k2, .int .i64 c.a0, .int .i64 c.a1, .int .i64 c.a2, .slice c.ta c.tl c.tc, .int .i64 c.per, .int .i64 c.ret, .int .i64 c.age, .int .i64 c.dead] 25)))
    replace hw := belStep hw hb2
    clear hb2 hbel
    generalize w.alloc (.cells #[.int .i64 c.k0, .int .i64 c.k1, .int .i64 c.k2, .int .i64 c.a0, .int .i64 c.a1, .int .i64 c.a2, .slice c.ta c.tl c.tc, .int .i64 c.per, .int .i64 c.ret, .int .i64 c.age, .int .i64 c.dead] 25) = W1 at *
    replace cc0 := keep cc0
    replace cc1 := keep cc1
    replace cc2 := keep cc2
    replace cc3 := keep cc3
    replace cc4 := keep cc4
    replace cc5 := keep cc5
    replace cc6 := keep cc6
    replace cc7 := keep cc7
    replace cc8 := keep cc8
    replace cc9 := keep cc9
    replace cc10 := keep cc10
    have hbel : Below W1.heap.size W1 W1 := Below.refl _ _
    skip
    have HW := Lib.hid hw
    clear hw
    have hs1 : w.heap.size ≤ W1.heap.size := HW.out.size
    go_upto_region 3 with (first | (go_at_call 21; (with_reducible refine (CR.out _ HW.out).mono ?_); rintro e w2 ⟨⟨b, rfl, hT⟩, hb2⟩; have HB2 := Lib.hid hb2; have HTT := Lib.hid hT; replace hbel := hb2; clear hb2 hT; rcases Bool.eq_false_or_eq_true b with rfl | rfl))
    · have HW2 := Lib.hid (HW.out.trans (HB2.out.mono HW.out.size))
      have HSR := Lib.hid (HS.out.later HW2.out)
      clear hbel
      go_wp2
      go_loopw [7] (fun i wr => ∃ k : Nat, k ≤ c.tl ∧ i = .int .i64 k ∧ (∀ j, j < k → -1 ≤ el S j ∧ el S j ≤ r) ∧ w2 = wr) (fun i _ => c.tl - (intOf i).toNat)
      case atStart => exact ⟨0, by omega, rfl, fun j hj => by omega, rfl⟩
      case round =>
        obtain ⟨k, hk, rfl, hall, rfl⟩ := hrel
        have HA := Lib.hid hall
        clear hall
        by_cases hlt : k < c.tl
        · obtain ⟨sb, so, rfl, hsb, hsx⟩ := HSR.out.opened (by omega)
          have x := hsx k hlt
          have hki : (k : Int) < (c.tl : Int) := by omega
          obtain ⟨s, es⟩ : ∃ s, el S k = s := ⟨_, rfl⟩
          rw [es] at x
          have ES := Lib.hid es
          clear hsx es
          have key : s < -1 ∨ (¬ s < -1 ∧ r < s) ∨ (¬ s < -1 ∧ ¬ r < s) := by omega
          rcases key with g1 | ⟨g1, g2⟩ | ⟨g1, g2⟩
          · go_wp2
            go_ret
            exact ⟨Tells.no, HW2.out⟩
          · go_wp2
            go_ret
            exact ⟨Tells.no, HW2.out⟩
          · go_wp2
            go_roundw
            case rel =>
              refine ⟨k + 1, by omega, by push_cast; rfl, fun j hj => ?_, by first | rfl | trivial⟩
              rcases Nat.lt_or_ge j k with q | q
              · exact HA.out j q
              · obtain rfl : j = k := by omega
                rw [ES.out]; omega
            case measure => simp [intOf] <;> omega
        · obtain rfl : k = c.tl := by omega
          have hki : ¬ (c.tl : Int) < (c.tl : Int) := by omega
          have HF := Lib.hid (show FitC c c.tl S r from ⟨HTT.out (by simp), rfl, by omega, by omega, HA.out⟩)
          go_wp2
          go_ret
          exact ⟨Tells.any HF.out _, HW2.out⟩
    · go_wp2
      go_ret
      exact ⟨Tells.no, HW.out.trans (HB2.out.mono HW.out.size)⟩
set_option maxRecDepth 100000 in
set_option maxHeartbeats 8000000 in
theorem ref_SameInts (a b : Option Addr) (n ca cb : Nat) (A : List Int) (w : World) (ha : Row w a n ca 1 (A.map (Value.int .i64))) (hb : Row w b n cb 1 (A.map (Value.int .i64))) : Calls Try.prog 12 #[.slice a n ca, .slice b n cb] w fun e w' => e = .returned (.bool true) ∧ Below w.heap.size w w' := by
  have hla : A.length = n := by have := ha.1; simpa using this
  obtain ⟨_, ha2, ha3, _⟩ := id ha
  obtain ⟨_, hb2, hb3, _⟩ := id hb
  unfold maxLen at ha3 hb3
  have HL := Lib.hid hla
  have HA := Lib.hid ha
  have HB := Lib.hid hb
  clear ha hb hla
  go_enter Try.func12, Try.ntmps12
  go_wp2
  go_loopw [5] (fun i wr => ∃ k : Nat, k ≤ n ∧ i = .int .i64 k ∧ Below w.heap.size w wr) (fun i _ => n - (intOf i).toNat)
  case atStart => exact ⟨0, by omega, rfl, Below.refl _ _⟩
  case round =>
    obtain ⟨k, hk, rfl, hbw⟩ := hrel
    have HBW := Lib.hid hbw
    clear hbw
    by_cases hlt : k < n
    · have hx : (A.map (Value.int .i64))[k]? = some ((Value.int .i64) (A[k]'(by rw [HL.out]; exact hlt))) := by
        rw [List.getElem?_map, List.getElem?_eq_getElem (show k < A.length by rw [HL.out]; exact hlt)]; rfl
      have x : ∃ b1 o1, a = some ⟨b1, o1, none⟩ ∧ wr.cell? ⟨b1, o1 + k, none⟩ = some ((Value.int .i64) (A[k]'(by rw [HL.out]; exact hlt))) := by
        obtain ⟨_, _, _, _, h5⟩ := HA.out.later HBW.out
        rcases h5 with h5 | ⟨b1, o1, e1, hc⟩
        · rw [h5] at hx; simp at hx
        · exact ⟨b1, o1, e1, by rw [hc k (by simp; rw [HL.out]; exact hlt), hx]⟩
      have y : ∃ b1 o1, b = some ⟨b1, o1, none⟩ ∧ wr.cell? ⟨b1, o1 + k, none⟩ = some ((Value.int .i64) (A[k]'(by rw [HL.out]; exact hlt))) := by
        obtain ⟨_, _, _, _, h5⟩ := HB.out.later HBW.out
        rcases h5 with h5 | ⟨b1, o1, e1, hc⟩
        · rw [h5] at hx; simp at hx
        · exact ⟨b1, o1, e1, by rw [hc k (by simp; rw [HL.out]; exact hlt), hx]⟩
      obtain ⟨b1, o1, rfl, x⟩ := x
      obtain ⟨b2, o2, rfl, y⟩ := y
      clear hx
      generalize (A[k]'(by rw [HL.out]; exact hlt)) = z at *
      have hki : (k : Int) < (n : Int) := by omega
      have hbel : Below wr.heap.size wr wr := Below.refl _ _
      replace x := keep x
      replace y := keep y
      go_wp2
      have kk := fun d os => belStep hbel (below_regrown _ d os)
      refine wp_region_quiet_below (by kernel_rfl) (by kernel_rfl) ?_
      repeat ((with_reducible refine wpQuiet_step (fun K hK => ?_)); go_simp; (try (rw [if_neg]; rotate_left; · decide)); first | ((with_reducible refine hK _ ?_); clear hK K) | (apply Exists.intro; refine ⟨fun _ => ?_, hK _ ?_⟩; (fail); clear hK K))
      refine wpQuiet_nil (fun w1 hw1 => ?_)
      replace hbel := belStep hbel (bel_of_class hw1)
      clear hw1 kk
      go_wp2
      go_roundw
      case rel => exact ⟨k + 1, by omega, by push_cast; rfl, belStep HBW.out hbel⟩
      case measure => simp [intOf] <;> omega
    · have hki : ¬ (k : Int) < (n : Int) := by omega
      go_wp2
      go_ret
      exact ⟨rfl, HBW.out⟩
set_option maxRecDepth 100000 in
set_option maxHeartbeats 8000000 in
theorem ref_SameBools (a b : Option Addr) (n ca cb : Nat) (A : List Bool) (w : World) (ha : Row w a n ca 1 (A.map Value.bool)) (hb : Row w b n cb 1 (A.map Value.bool)) : Calls Try.prog 15 #[.slice a n ca, .slice b n cb] w fun e w' => e = .returned (.bool true) ∧ Below w.heap.size w w' := by
  have hla : A.length = n := by have := ha.1; simpa using this
  obtain ⟨_, ha2, ha3, _⟩ := id ha
  obtain ⟨_, hb2, hb3, _⟩ := id hb
  unfold maxLen at ha3 hb3
  have HL := Lib.hid hla
  have HA := Lib.hid ha
  have HB := Lib.hid hb
  clear ha hb hla
  go_enter Try.func15, Try.ntmps15
  go_wp2
  go_loopw [5] (fun i wr => ∃ k : Nat, k ≤ n ∧ i = .int .i64 k ∧ Below w.heap.size w wr) (fun i _ => n - (intOf i).toNat)
  case atStart => exact ⟨0, by omega, rfl, Below.refl _ _⟩
  case round =>
    obtain ⟨k, hk, rfl, hbw⟩ := hrel
    have HBW := Lib.hid hbw
    clear hbw
    by_cases hlt : k < n
    · have hx : (A.map Value.bool)[k]? = some (Value.bool (A[k]'(by rw [HL.out]; exact hlt))) := by
        rw [List.getElem?_map, List.getElem?_eq_getElem (show k < A.length by rw [HL.out]; exact hlt)]; rfl
      have x : ∃ b1 o1, a = some ⟨b1, o1, none⟩ ∧ wr.cell? ⟨b1, o1 + k, none⟩ = some (Value.bool (A[k]'(by rw [HL.out]; exact hlt))) := by
        obtain ⟨_, _, _, _, h5⟩ := HA.out.later HBW.out
        rcases h5 with h5 | ⟨b1, o1, e1, hc⟩
        · rw [h5] at hx; simp at hx
        · exact ⟨b1, o1, e1, by rw [hc k (by simp; rw [HL.out]; exact hlt), hx]⟩
      have y : ∃ b1 o1, b = some ⟨b1, o1, none⟩ ∧ wr.cell? ⟨b1, o1 + k, none⟩ = some (Value.bool (A[k]'(by rw [HL.out]; exact hlt))) := by
        obtain ⟨_, _, _, _, h5⟩ := HB.out.later HBW.out
        rcases h5 with h5 | ⟨b1, o1, e1, hc⟩
        · rw [h5] at hx; simp at hx
        · exact ⟨b1, o1, e1, by rw [hc k (by simp; rw [HL.out]; exact hlt), hx]⟩
      obtain ⟨b1, o1, rfl, x⟩ := x
      obtain ⟨b2, o2, rfl, y⟩ := y
      clear hx
      generalize (A[k]'(by rw [HL.out]; exact hlt)) = z at *
      have hki : (k : Int) < (n : Int) := by omega
      have hbel : Below wr.heap.size wr wr := Below.refl _ _
      replace x := keep x
      replace y := keep y
      go_wp2
      have kk := fun d os => belStep hbel (below_regrown _ d os)
      refine wp_region_quiet_below (by kernel_rfl) (by kernel_rfl) ?_
      repeat ((with_reducible refine wpQuiet_step (fun K hK => ?_)); go_simp; (try (rw [if_neg]; rotate_left; · decide)); first | ((with_reducible refine hK _ ?_); clear hK K) | (apply Exists.intro; refine ⟨fun _ => ?_, hK _ ?_⟩; (fail); clear hK K))
      refine wpQuiet_nil (fun w1 hw1 => ?_)
      replace hbel := belStep hbel (bel_of_class hw1)
      clear hw1 kk
      go_wp2
      go_roundw
      case rel => exact ⟨k + 1, by omega, by push_cast; rfl, belStep HBW.out hbel⟩
      case measure => simp [intOf] <;> omega
    · have hki : ¬ (k : Int) < (n : Int) := by omega
      go_wp2
      go_ret
      exact ⟨rfl, HBW.out⟩
end Go.Proofs.Ytbancemkajgljaa
