/- QosMore holds for every pod, whatever more is asked for, and every memory. No conditions. -/
import Derived.Test.YtnfblpiapendeaaAwake13
import Derived.Test.YtnfblpiapendeaaPodFew
namespace Go.Proofs.Ytnfblpiapendeaa.qosMore
open Go.ChangeShapes Go.WideShapes Go.ChangeAt Go.RowKit
open Go.ChangeMaps (open_string shut_string)
set_option linter.unusedVariables false

theorem thou_mono (a b m : Int) (h : a ≤ b) (hm : 1 ≤ m) : thouI a m ≤ thouI b m := by
  have : 1000 * a / m ≤ 1000 * b / m := Int.ediv_le_ediv (by omega) (by omega)
  unfold thouI; omega
theorem score_mono (crit : Bool) (a b m : Int) (h : a ≤ b) (hm : 1 ≤ m) : scoreI crit 2 b m ≤ scoreI crit 2 a m := by
  have := thou_mono a b m h hm
  unfold scoreI
  cases crit <;> simp <;> omega
theorem class_lim (r0 r1 r2 : Int) : classI r0 r1 r2 0 0 0 = 3 ∨ classI r0 r1 r2 0 0 0 = 2 := by
  unfold classI bnd; simp
theorem class_nz (r0 r1 r2 l : Int) (h : classI r0 r1 r2 0 0 0 = 2) : classI r0 r1 r2 0 0 l = 2 := by
  unfold classI bnd zeroes at *
  simp at *
  intro a b c
  exact (h a b c).elim
theorem class_more (r0 r1 r2 m : Int) (h : classI r0 r1 r2 0 0 0 = 2) (h1 : 0 ≤ r1) (hm : 0 ≤ m) : classI r0 (r1 + m) r2 0 0 0 = 2 := by
  unfold classI bnd zeroes at *
  simp at *
  intro a b c
  exact h a (by omega) c

set_option maxRecDepth 100000 in
set_option maxHeartbeats 8000000 in
theorem walk (p : PodV) (more mem : Int) (w : World) (hp : p.ok) (imo : InI more) (im : InI mem) :
    Calls Try.prog 11 #[p.v, .int .i64 more, .int .i64 mem] w fun e w' => e = .returned (.bool true) ∧ Below w.heap.size w w' := by
  unfold PodV.v
  have hw : Below w.heap.size w w := Below.refl _ _
  have hbel := hw
  have cs := fun v => pref_Small p v hp
  have cr := fun v => pref_Right p v hp
  have key : smallB p = false ∨ (smallB p = true ∧ rightB p = false) ∨ (smallB p = true ∧ rightB p = true ∧ mem < 1) ∨ (smallB p = true ∧ rightB p = true ∧ ¬ mem < 1 ∧ more < 0) ∨ (smallB p = true ∧ rightB p = true ∧ ¬ mem < 1 ∧ ¬ more < 0 ∧ 1000000000 < p.r1) ∨ (smallB p = true ∧ rightB p = true ∧ ¬ mem < 1 ∧ ¬ more < 0 ∧ ¬ 1000000000 < p.r1 ∧ 1000000000 < more) ∨ (smallB p = true ∧ rightB p = true ∧ ¬ mem < 1 ∧ ¬ more < 0 ∧ ¬ 1000000000 < p.r1 ∧ ¬ 1000000000 < more) := by
    cases smallB p <;> cases rightB p <;> simp <;> omega
  have CS := Lib.hid cs
  have CR := Lib.hid cr
  clear cs cr
  go_enter Try.func11, Try.ntmps11
  go_upto_region 1 with fail
  have a0 : (w.alloc (.cells #[.string p.id, .int .i64 p.prio, .bool p.crit, .int .i64 p.r0, .int .i64 p.r1, .int .i64 p.r2, .int .i64 p.l0, .int .i64 p.l1, .int .i64 p.l2, .string p.img, .int .i64 p.size] 24)).cell? ⟨w.heap.size, 0, none⟩ = some (.string p.id) := by first | (simp; done) | (rw [World.cell?_alloc_at _ _ _ _ (by simp)]; rfl) | (rw [World.cell?_alloc_past _ _ _ (by simp <;> omega), World.cell?_alloc_at _ _ _ _ (by simp)]; rfl) | (rw [World.cell?_alloc_past _ _ _ (by simp <;> omega), World.cell?_alloc_past _ _ _ (by simp <;> omega), World.cell?_alloc_at _ _ _ _ (by simp)]; rfl)
  have a1 : (w.alloc (.cells #[.string p.id, .int .i64 p.prio, .bool p.crit, .int .i64 p.r0, .int .i64 p.r1, .int .i64 p.r2, .int .i64 p.l0, .int .i64 p.l1, .int .i64 p.l2, .string p.img, .int .i64 p.size] 24)).cell? ⟨w.heap.size, 1, none⟩ = some (.int .i64 p.prio) := by first | (simp; done) | (rw [World.cell?_alloc_at _ _ _ _ (by simp)]; rfl) | (rw [World.cell?_alloc_past _ _ _ (by simp <;> omega), World.cell?_alloc_at _ _ _ _ (by simp)]; rfl) | (rw [World.cell?_alloc_past _ _ _ (by simp <;> omega), World.cell?_alloc_past _ _ _ (by simp <;> omega), World.cell?_alloc_at _ _ _ _ (by simp)]; rfl)
  have a2 : (w.alloc (.cells #[.string p.id, .int .i64 p.prio, .bool p.crit, .int .i64 p.r0, .int .i64 p.r1, .int .i64 p.r2, .int .i64 p.l0, .int .i64 p.l1, .int .i64 p.l2, .string p.img, .int .i64 p.size] 24)).cell? ⟨w.heap.size, 2, none⟩ = some (.bool p.crit) := by first | (simp; done) | (rw [World.cell?_alloc_at _ _ _ _ (by simp)]; rfl) | (rw [World.cell?_alloc_past _ _ _ (by simp <;> omega), World.cell?_alloc_at _ _ _ _ (by simp)]; rfl) | (rw [World.cell?_alloc_past _ _ _ (by simp <;> omega), World.cell?_alloc_past _ _ _ (by simp <;> omega), World.cell?_alloc_at _ _ _ _ (by simp)]; rfl)
  have a3 : (w.alloc (.cells #[.string p.id, .int .i64 p.prio, .bool p.crit, .int .i64 p.r0, .int .i64 p.r1, .int .i64 p.r2, .int .i64 p.l0, .int .i64 p.l1, .int .i64 p.l2, .string p.img, .int .i64 p.size] 24)).cell? ⟨w.heap.size, 3, none⟩ = some (.int .i64 p.r0) := by first | (simp; done) | (rw [World.cell?_alloc_at _ _ _ _ (by simp)]; rfl) | (rw [World.cell?_alloc_past _ _ _ (by simp <;> omega), World.cell?_alloc_at _ _ _ _ (by simp)]; rfl) | (rw [World.cell?_alloc_past _ _ _ (by simp <;> omega), World.cell?_alloc_past _ _ _ (by simp <;> omega), World.cell?_alloc_at _ _ _ _ (by simp)]; rfl)
  have a4 : (w.alloc (.cells #[.string p.id, .int .i64 p.prio, .bool p.crit, .int .i64 p.r0, .int .i64 p.r1, .int .i64 p.r2, .int .i64 p.l0, .int .i64 p.l1, .int .i64 p.l2, .string p.img, .int .i64 p.size] 24)).cell? ⟨w.heap.size, 4, none⟩ = some (.int .i64 p.r1) := by first | (simp; done) | (rw [World.cell?_alloc_at _ _ _ _ (by simp)]; rfl) | (rw [World.cell?_alloc_past _ _ _ (by simp <;> omega), World.cell?_alloc_at _ _ _ _ (by simp)]; rfl) | (rw [World.cell?_alloc_past _ _ _ (by simp <;> omega), World.cell?_alloc_past _ _ _ (by simp <;> omega), World.cell?_alloc_at _ _ _ _ (by simp)]; rfl)
  have a5 : (w.alloc (.cells #[.string p.id, .int .i64 p.prio, .bool p.crit, .int .i64 p.r0, .int .i64 p.r1, .int .i64 p.r2, .int .i64 p.l0, .int .i64 p.l1, .int .i64 p.l2, .string p.img, .int .i64 p.size] 24)).cell? ⟨w.heap.size, 5, none⟩ = some (.int .i64 p.r2) := by first | (simp; done) | (rw [World.cell?_alloc_at _ _ _ _ (by simp)]; rfl) | (rw [World.cell?_alloc_past _ _ _ (by simp <;> omega), World.cell?_alloc_at _ _ _ _ (by simp)]; rfl) | (rw [World.cell?_alloc_past _ _ _ (by simp <;> omega), World.cell?_alloc_past _ _ _ (by simp <;> omega), World.cell?_alloc_at _ _ _ _ (by simp)]; rfl)
  have a6 : (w.alloc (.cells #[.string p.id, .int .i64 p.prio, .bool p.crit, .int .i64 p.r0, .int .i64 p.r1, .int .i64 p.r2, .int .i64 p.l0, .int .i64 p.l1, .int .i64 p.l2, .string p.img, .int .i64 p.size] 24)).cell? ⟨w.heap.size, 6, none⟩ = some (.int .i64 p.l0) := by first | (simp; done) | (rw [World.cell?_alloc_at _ _ _ _ (by simp)]; rfl) | (rw [World.cell?_alloc_past _ _ _ (by simp <;> omega), World.cell?_alloc_at _ _ _ _ (by simp)]; rfl) | (rw [World.cell?_alloc_past _ _ _ (by simp <;> omega), World.cell?_alloc_past _ _ _ (by simp <;> omega), World.cell?_alloc_at _ _ _ _ (by simp)]; rfl)
  have a7 : (w.alloc (.cells #[.string p.id, .int .i64 p.prio, .bool p.crit, .int .i64 p.r0, .int .i64 p.r1, .int .i64 p.r2, .int .i64 p.l0, .int .i64 p.l1, .int .i64 p.l2, .string p.img, .int .i64 p.size] 24)).cell? ⟨w.heap.size, 7, none⟩ = some (.int .i64 p.l1) := by first | (simp; done) | (rw [World.cell?_alloc_at _ _ _ _ (by simp)]; rfl) | (rw [World.cell?_alloc_past _ _ _ (by simp <;> omega), World.cell?_alloc_at _ _ _ _ (by simp)]; rfl) | (rw [World.cell?_alloc_past _ _ _ (by simp <;> omega), World.cell?_alloc_past _ _ _ (by simp <;> omega), World.cell?_alloc_at _ _ _ _ (by simp)]; rfl)
  have a8 : (w.alloc (.cells #[.string p.id, .int .i64 p.prio, .bool p.crit, .int .i64 p.r0, .int .i64 p.r1, .int .i64 p.r2, .int .i64 p.l0, .int .i64 p.l1, .int .i64 p.l2, .string p.img, .int .i64 p.size] 24)).cell? ⟨w.heap.size, 8, none⟩ = some (.int .i64 p.l2) := by first | (simp; done) | (rw [World.cell?_alloc_at _ _ _ _ (by simp)]; rfl) | (rw [World.cell?_alloc_past _ _ _ (by simp <;> omega), World.cell?_alloc_at _ _ _ _ (by simp)]; rfl) | (rw [World.cell?_alloc_past _ _ _ (by simp <;> omega), World.cell?_alloc_past _ _ _ (by simp <;> omega), World.cell?_alloc_at _ _ _ _ (by simp)]; rfl)
  have a9 : (w.alloc (.cells #[.string p.id, .int .i64 p.prio, .bool p.crit, .int .i64 p.r0, .int .i64 p.r1, .int .i64 p.r2, .int .i64 p.l0, .int .i64 p.l1, .int .i64 p.l2, .string p.img, .int .i64 p.size] 24)).cell? ⟨w.heap.size, 9, none⟩ = some (.string p.img) := by first | (simp; done) | (rw [World.cell?_alloc_at _ _ _ _ (by simp)]; rfl) | (rw [World.cell?_alloc_past _ _ _ (by simp <;> omega), World.cell?_alloc_at _ _ _ _ (by simp)]; rfl) | (rw [World.cell?_alloc_past _ _ _ (by simp <;> omega), World.cell?_alloc_past _ _ _ (by simp <;> omega), World.cell?_alloc_at _ _ _ _ (by simp)]; rfl)
  have a10 : (w.alloc (.cells #[.string p.id, .int .i64 p.prio, .bool p.crit, .int .i64 p.r0, .int .i64 p.r1, .int .i64 p.r2, .int .i64 p.l0, .int .i64 p.l1, .int .i64 p.l2, .string p.img, .int .i64 p.size] 24)).cell? ⟨w.heap.size, 10, none⟩ = some (.int .i64 p.size) := by first | (simp; done) | (rw [World.cell?_alloc_at _ _ _ _ (by simp)]; rfl) | (rw [World.cell?_alloc_past _ _ _ (by simp <;> omega), World.cell?_alloc_at _ _ _ _ (by simp)]; rfl) | (rw [World.cell?_alloc_past _ _ _ (by simp <;> omega), World.cell?_alloc_past _ _ _ (by simp <;> omega), World.cell?_alloc_at _ _ _ _ (by simp)]; rfl)
  have hb2 := (by repeat (first | exact hbel | refine belAlloc ?_ _ | refine belDrew ?_ | refine belSet ?_ _ _ (by simp)) : Below w.heap.size w (w.alloc (.cells #[.string p.id, .int .i64 p.prio, .bool p.crit, .int .i64 p.r0, .int .i64 p.r1, .int .i64 p.r2, .int .i64 p.l0, .int .i64 p.l1, .int .i64 p.l2, .string p.img, .int .i64 p.size] 24)))
  replace hw := belStep hw hb2
  have aB : Blk (w.alloc (.cells #[.string p.id, .int .i64 p.prio, .bool p.crit, .int .i64 p.r0, .int .i64 p.r1, .int .i64 p.r2, .int .i64 p.l0, .int .i64 p.l1, .int .i64 p.l2, .string p.img, .int .i64 p.size] 24)) (w.heap.size) [.string p.id, .int .i64 p.prio, .bool p.crit, .int .i64 p.r0, .int .i64 p.r1, .int .i64 p.r2, .int .i64 p.l0, .int .i64 p.l1, .int .i64 p.l2, .string p.img, .int .i64 p.size] 24 := (Blk.at (by simp) : Blk (w.alloc (.cells #[.string p.id, .int .i64 p.prio, .bool p.crit, .int .i64 p.r0, .int .i64 p.r1, .int .i64 p.r2, .int .i64 p.l0, .int .i64 p.l1, .int .i64 p.l2, .string p.img, .int .i64 p.size] 24)) (w.heap.size) [.string p.id, .int .i64 p.prio, .bool p.crit, .int .i64 p.r0, .int .i64 p.r1, .int .i64 p.r2, .int .i64 p.l0, .int .i64 p.l1, .int .i64 p.l2, .string p.img, .int .i64 p.size] 24).later (by repeat (first | exact Below.refl _ _ | refine belAlloc ?_ _))
  have aF := Blk.keepF aB
  replace aB := Blk.keepB aB
  clear hb2 hbel
  generalize w.alloc (.cells #[.string p.id, .int .i64 p.prio, .bool p.crit, .int .i64 p.r0, .int .i64 p.r1, .int .i64 p.r2, .int .i64 p.l0, .int .i64 p.l1, .int .i64 p.l2, .string p.img, .int .i64 p.size] 24) = W1 at *
  replace a0 := keep a0
  replace a1 := keep a1
  replace a2 := keep a2
  replace a3 := keep a3
  replace a4 := keep a4
  replace a5 := keep a5
  replace a6 := keep a6
  replace a7 := keep a7
  replace a8 := keep a8
  replace a9 := keep a9
  replace a10 := keep a10
  have hbel : Below W1.heap.size W1 W1 := Below.refl _ _
  skip
  rcases key with k1 | ⟨k1, k2⟩ | ⟨k1, k2, k3⟩ | ⟨k1, k2, k3, k4⟩ | ⟨k1, k2, k3, k4, k5⟩ | ⟨k1, k2, k3, k4, k5, k6⟩ | ⟨k1, k2, k3, k4, k5, k6⟩
  · rw [k1] at CS
    go_wp2_with (first | (go_at_call 28; (with_reducible refine (awake13 _).mono ?_); rintro e w1 ⟨rfl, hb1⟩; replace hbel := belStep hbel hb1; clear hb1) | (go_at_call 15; (with_reducible refine (CS.out _).mono ?_); rintro e w1 ⟨rfl, hb1⟩; replace hbel := belStep hbel hb1; clear hb1) | (go_at_call 18; (with_reducible refine (CR.out _).mono ?_); rintro e w1 ⟨rfl, hb1⟩; replace hbel := belStep hbel hb1; clear hb1))
    go_ret
    exact ⟨rfl, belStep hw hbel⟩
  · rw [k1] at CS
    try rw [k2] at CR
    go_wp2_with (first | (go_at_call 28; (with_reducible refine (awake13 _).mono ?_); rintro e w1 ⟨rfl, hb1⟩; replace hbel := belStep hbel hb1; clear hb1) | (go_at_call 15; (with_reducible refine (CS.out _).mono ?_); rintro e w1 ⟨rfl, hb1⟩; replace hbel := belStep hbel hb1; clear hb1) | (go_at_call 18; (with_reducible refine (CR.out _).mono ?_); rintro e w1 ⟨rfl, hb1⟩; replace hbel := belStep hbel hb1; clear hb1))
    go_ret
    exact ⟨rfl, belStep hw hbel⟩
  · rw [k1] at CS
    try rw [k2] at CR
    go_wp2_with (first | (go_at_call 28; (with_reducible refine (awake13 _).mono ?_); rintro e w1 ⟨rfl, hb1⟩; replace hbel := belStep hbel hb1; clear hb1) | (go_at_call 15; (with_reducible refine (CS.out _).mono ?_); rintro e w1 ⟨rfl, hb1⟩; replace hbel := belStep hbel hb1; clear hb1) | (go_at_call 18; (with_reducible refine (CR.out _).mono ?_); rintro e w1 ⟨rfl, hb1⟩; replace hbel := belStep hbel hb1; clear hb1))
    go_ret
    exact ⟨rfl, belStep hw hbel⟩
  · rw [k1] at CS
    try rw [k2] at CR
    go_wp2_with (first | (go_at_call 28; (with_reducible refine (awake13 _).mono ?_); rintro e w1 ⟨rfl, hb1⟩; replace hbel := belStep hbel hb1; clear hb1) | (go_at_call 15; (with_reducible refine (CS.out _).mono ?_); rintro e w1 ⟨rfl, hb1⟩; replace hbel := belStep hbel hb1; clear hb1) | (go_at_call 18; (with_reducible refine (CR.out _).mono ?_); rintro e w1 ⟨rfl, hb1⟩; replace hbel := belStep hbel hb1; clear hb1))
    go_ret
    exact ⟨rfl, belStep hw hbel⟩
  · rw [k1] at CS
    try rw [k2] at CR
    go_wp2_with (first | (go_at_call 28; (with_reducible refine (awake13 _).mono ?_); rintro e w1 ⟨rfl, hb1⟩; replace hbel := belStep hbel hb1; clear hb1) | (go_at_call 15; (with_reducible refine (CS.out _).mono ?_); rintro e w1 ⟨rfl, hb1⟩; replace hbel := belStep hbel hb1; clear hb1) | (go_at_call 18; (with_reducible refine (CR.out _).mono ?_); rintro e w1 ⟨rfl, hb1⟩; replace hbel := belStep hbel hb1; clear hb1))
    go_ret
    exact ⟨rfl, belStep hw hbel⟩
  · rw [k1] at CS
    try rw [k2] at CR
    go_wp2_with (first | (go_at_call 28; (with_reducible refine (awake13 _).mono ?_); rintro e w1 ⟨rfl, hb1⟩; replace hbel := belStep hbel hb1; clear hb1) | (go_at_call 15; (with_reducible refine (CS.out _).mono ?_); rintro e w1 ⟨rfl, hb1⟩; replace hbel := belStep hbel hb1; clear hb1) | (go_at_call 18; (with_reducible refine (CR.out _).mono ?_); rintro e w1 ⟨rfl, hb1⟩; replace hbel := belStep hbel hb1; clear hb1))
    go_ret
    exact ⟨rfl, belStep hw hbel⟩
  · have hrp := PodV.right_pos p k2
    rw [k1] at CS
    rw [k2] at CR
    have hp2 := hp
    obtain ⟨_, _, _, _, ir1, ir2, _, _, _, _⟩ := hp2
    have hm : 1 ≤ mem := by omega
    go_upto_region 4 with (first | (go_at_call 28; (with_reducible refine (awake13 _).mono ?_); rintro e w1 ⟨rfl, hb1⟩; replace hbel := belStep hbel hb1; clear hb1) | (go_at_call 15; (with_reducible refine (CS.out _).mono ?_); rintro e w1 ⟨rfl, hb1⟩; replace hbel := belStep hbel hb1; clear hb1) | (go_at_call 18; (with_reducible refine (CR.out _).mono ?_); rintro e w1 ⟨rfl, hb1⟩; replace hbel := belStep hbel hb1; clear hb1))
    have hbk := (((aB w1 hbel).set 6 (.int .i64 0)).set 7 (.int .i64 0)).set 8 (.int .i64 0)
    replace hw := belSet (belSet (belSet (belStep hw hbel) ⟨w.heap.size, 6, none⟩ (.int .i64 0) (Nat.le_refl _)) ⟨w.heap.size, 7, none⟩ (.int .i64 0) (Nat.le_refl _)) ⟨w.heap.size, 8, none⟩ (.int .i64 0) (Nat.le_refl _)
    clear hbel a0 a1 a2 a3 a4 a5 a6 a7 a8 a9 a10 aB aF
    generalize ((w1.setCell ⟨w.heap.size, 6, none⟩ (.int .i64 0)).setCell ⟨w.heap.size, 7, none⟩ (.int .i64 0)).setCell ⟨w.heap.size, 8, none⟩ (.int .i64 0) = W2 at *
    have hbel : Below W2.heap.size W2 W2 := Below.refl _ _
    have a0 := keep (hbk.cell (j := 0) rfl)
    have a1 := keep (hbk.cell (j := 1) rfl)
    have a2 := keep (hbk.cell (j := 2) rfl)
    have a3 := keep (hbk.cell (j := 3) rfl)
    have a4 := keep (hbk.cell (j := 4) rfl)
    have a5 := keep (hbk.cell (j := 5) rfl)
    have a6 := keep (hbk.cell (j := 6) rfl)
    have a7 := keep (hbk.cell (j := 7) rfl)
    have a8 := keep (hbk.cell (j := 8) rfl)
    have a9 := keep (hbk.cell (j := 9) rfl)
    have a10 := keep (hbk.cell (j := 10) rfl)
    clear hbk CS CR k1 k2
    have cp := fun v => qos_Class p.id p.prio p.crit p.r0 p.r1 p.r2 0 0 0 p.img p.size v
    rcases class_lim p.r0 p.r1 p.r2 with hc | hc
    · rw [hc] at cp
      have CP := Lib.hid cp
      clear cp hc
      go_wp2_with (first | (go_at_call 29; (with_reducible refine (CP.out _).mono ?_); rintro e w1 ⟨rfl, hb1⟩; replace hbel := belStep hbel hb1; clear hb1))
      go_ret
      exact ⟨rfl, belStep hw hbel⟩
    · have cq := fun v => qos_Class p.id p.prio p.crit p.r0 (p.r1 + more) p.r2 0 0 0 p.img p.size v
      have sp := fun v => qos_Score p.id p.prio p.crit p.r0 p.r1 p.r2 0 0 0 p.img p.size mem v hrp.2.1 ir1 hm im
      have sq := fun v => qos_Score p.id p.prio p.crit p.r0 (p.r1 + more) p.r2 0 0 0 p.img p.size mem v (by omega) (by unfold InI; omega) hm im
      have key2 : (p.r2 == 9223372036854775807) = true ∧ p.r2 = 9223372036854775807 ∨ (p.r2 == 9223372036854775807) = false ∧ p.r2 + 1 ≤ 9223372036854775807 := by
        unfold InI at ir2
        rcases Int.decEq p.r2 9223372036854775807 with h | h
        · exact .inr ⟨by simpa using h, by omega⟩
        · exact .inl ⟨by simpa using h, h⟩
      have sr := fun l v => qos_Score p.id p.prio p.crit p.r0 p.r1 p.r2 0 0 l p.img p.size mem v hrp.2.1 ir1 hm im
      rw [hc] at cp sp
      rw [class_more _ _ _ _ hc hrp.2.1 (by omega)] at cq sq
      simp only [class_nz _ _ _ _ hc] at sr
      have hle := score_mono p.crit p.r1 (p.r1 + more) mem (by omega) hm
      generalize scoreI p.crit 2 p.r1 mem = s1 at *
      generalize scoreI p.crit 2 (p.r1 + more) mem = s2 at *
      have CP := Lib.hid cp
      have CQ := Lib.hid cq
      have SP := Lib.hid sp
      have SQ := Lib.hid sq
      have SR := Lib.hid sr
      have ew : 0 ≤ p.r1 + more ∧ p.r1 + more ≤ 2000000000 := by omega
      obtain ⟨ew1, ew2⟩ := ew
      obtain ⟨_, _, hr2⟩ := hrp
      clear cp cq sp sq sr hc ir1 ir2
      rcases key2 with ⟨e1, e2⟩ | ⟨e1, e2⟩
      · simp only [e2] at CP CQ SP SQ SR a5
        go_upto_region 8 with (first | (go_at_call 29; (with_reducible refine (CP.out _).mono ?_); rintro e w1 ⟨rfl, hb1⟩; replace hbel := belStep hbel hb1; clear hb1))
        have q0 : (w1.alloc (.cells #[.string p.id, .int .i64 p.prio, .bool p.crit, .int .i64 p.r0, .int .i64 (p.r1 + more), .int .i64 9223372036854775807, .int .i64 0, .int .i64 0, .int .i64 0, .string p.img, .int .i64 p.size] 24)).cell? ⟨w1.heap.size, 0, none⟩ = some (.string p.id) := by first | (simp; done) | (rw [World.cell?_alloc_at _ _ _ _ (by simp)]; rfl) | (rw [World.cell?_alloc_past _ _ _ (by simp <;> omega), World.cell?_alloc_at _ _ _ _ (by simp)]; rfl) | (rw [World.cell?_alloc_past _ _ _ (by simp <;> omega), World.cell?_alloc_past _ _ _ (by simp <;> omega), World.cell?_alloc_at _ _ _ _ (by simp)]; rfl)
        have q1 : (w1.alloc (.cells #[.string p.id, .int .i64 p.prio, .bool p.crit, .int .i64 p.r0, .int .i64 (p.r1 + more), .int .i64 9223372036854775807, .int .i64 0, .int .i64 0, .int .i64 0, .string p.img, .int .i64 p.size] 24)).cell? ⟨w1.heap.size, 1, none⟩ = some (.int .i64 p.prio) := by first | (simp; done) | (rw [World.cell?_alloc_at _ _ _ _ (by simp)]; rfl) | (rw [World.cell?_alloc_past _ _ _ (by simp <;> omega), World.cell?_alloc_at _ _ _ _ (by simp)]; rfl) | (rw [World.cell?_alloc_past _ _ _ (by simp <;> omega), World.cell?_alloc_past _ _ _ (by simp <;> omega), World.cell?_alloc_at _ _ _ _ (by simp)]; rfl)
        have q2 : (w1.alloc (.cells #[.string p.id, .int .i64 p.prio, .bool p.crit, .int .i64 p.r0, .int .i64 (p.r1 + more), .int .i64 9223372036854775807, .int .i64 0, .int .i64 0, .int .i64 0, .string p.img, .int .i64 p.size] 24)).cell? ⟨w1.heap.size, 2, none⟩ = some (.bool p.crit) := by first | (simp; done) | (rw [World.cell?_alloc_at _ _ _ _ (by simp)]; rfl) | (rw [World.cell?_alloc_past _ _ _ (by simp <;> omega), World.cell?_alloc_at _ _ _ _ (by simp)]; rfl) | (rw [World.cell?_alloc_past _ _ _ (by simp <;> omega), World.cell?_alloc_past _ _ _ (by simp <;> omega), World.cell?_alloc_at _ _ _ _ (by simp)]; rfl)
        have q3 : (w1.alloc (.cells #[.string p.id, .int .i64 p.prio, .bool p.crit, .int .i64 p.r0, .int .i64 (p.r1 + more), .int .i64 9223372036854775807, .int .i64 0, .int .i64 0, .int .i64 0, .string p.img, .int .i64 p.size] 24)).cell? ⟨w1.heap.size, 3, none⟩ = some (.int .i64 p.r0) := by first | (simp; done) | (rw [World.cell?_alloc_at _ _ _ _ (by simp)]; rfl) | (rw [World.cell?_alloc_past _ _ _ (by simp <;> omega), World.cell?_alloc_at _ _ _ _ (by simp)]; rfl) | (rw [World.cell?_alloc_past _ _ _ (by simp <;> omega), World.cell?_alloc_past _ _ _ (by simp <;> omega), World.cell?_alloc_at _ _ _ _ (by simp)]; rfl)
        have q4 : (w1.alloc (.cells #[.string p.id, .int .i64 p.prio, .bool p.crit, .int .i64 p.r0, .int .i64 (p.r1 + more), .int .i64 9223372036854775807, .int .i64 0, .int .i64 0, .int .i64 0, .string p.img, .int .i64 p.size] 24)).cell? ⟨w1.heap.size, 4, none⟩ = some (.int .i64 (p.r1 + more)) := by first | (simp; done) | (rw [World.cell?_alloc_at _ _ _ _ (by simp)]; rfl) | (rw [World.cell?_alloc_past _ _ _ (by simp <;> omega), World.cell?_alloc_at _ _ _ _ (by simp)]; rfl) | (rw [World.cell?_alloc_past _ _ _ (by simp <;> omega), World.cell?_alloc_past _ _ _ (by simp <;> omega), World.cell?_alloc_at _ _ _ _ (by simp)]; rfl)
        have q5 : (w1.alloc (.cells #[.string p.id, .int .i64 p.prio, .bool p.crit, .int .i64 p.r0, .int .i64 (p.r1 + more), .int .i64 9223372036854775807, .int .i64 0, .int .i64 0, .int .i64 0, .string p.img, .int .i64 p.size] 24)).cell? ⟨w1.heap.size, 5, none⟩ = some (.int .i64 9223372036854775807) := by first | (simp; done) | (rw [World.cell?_alloc_at _ _ _ _ (by simp)]; rfl) | (rw [World.cell?_alloc_past _ _ _ (by simp <;> omega), World.cell?_alloc_at _ _ _ _ (by simp)]; rfl) | (rw [World.cell?_alloc_past _ _ _ (by simp <;> omega), World.cell?_alloc_past _ _ _ (by simp <;> omega), World.cell?_alloc_at _ _ _ _ (by simp)]; rfl)
        have q6 : (w1.alloc (.cells #[.string p.id, .int .i64 p.prio, .bool p.crit, .int .i64 p.r0, .int .i64 (p.r1 + more), .int .i64 9223372036854775807, .int .i64 0, .int .i64 0, .int .i64 0, .string p.img, .int .i64 p.size] 24)).cell? ⟨w1.heap.size, 6, none⟩ = some (.int .i64 0) := by first | (simp; done) | (rw [World.cell?_alloc_at _ _ _ _ (by simp)]; rfl) | (rw [World.cell?_alloc_past _ _ _ (by simp <;> omega), World.cell?_alloc_at _ _ _ _ (by simp)]; rfl) | (rw [World.cell?_alloc_past _ _ _ (by simp <;> omega), World.cell?_alloc_past _ _ _ (by simp <;> omega), World.cell?_alloc_at _ _ _ _ (by simp)]; rfl)
        have q7 : (w1.alloc (.cells #[.string p.id, .int .i64 p.prio, .bool p.crit, .int .i64 p.r0, .int .i64 (p.r1 + more), .int .i64 9223372036854775807, .int .i64 0, .int .i64 0, .int .i64 0, .string p.img, .int .i64 p.size] 24)).cell? ⟨w1.heap.size, 7, none⟩ = some (.int .i64 0) := by first | (simp; done) | (rw [World.cell?_alloc_at _ _ _ _ (by simp)]; rfl) | (rw [World.cell?_alloc_past _ _ _ (by simp <;> omega), World.cell?_alloc_at _ _ _ _ (by simp)]; rfl) | (rw [World.cell?_alloc_past _ _ _ (by simp <;> omega), World.cell?_alloc_past _ _ _ (by simp <;> omega), World.cell?_alloc_at _ _ _ _ (by simp)]; rfl)
        have q8 : (w1.alloc (.cells #[.string p.id, .int .i64 p.prio, .bool p.crit, .int .i64 p.r0, .int .i64 (p.r1 + more), .int .i64 9223372036854775807, .int .i64 0, .int .i64 0, .int .i64 0, .string p.img, .int .i64 p.size] 24)).cell? ⟨w1.heap.size, 8, none⟩ = some (.int .i64 0) := by first | (simp; done) | (rw [World.cell?_alloc_at _ _ _ _ (by simp)]; rfl) | (rw [World.cell?_alloc_past _ _ _ (by simp <;> omega), World.cell?_alloc_at _ _ _ _ (by simp)]; rfl) | (rw [World.cell?_alloc_past _ _ _ (by simp <;> omega), World.cell?_alloc_past _ _ _ (by simp <;> omega), World.cell?_alloc_at _ _ _ _ (by simp)]; rfl)
        have q9 : (w1.alloc (.cells #[.string p.id, .int .i64 p.prio, .bool p.crit, .int .i64 p.r0, .int .i64 (p.r1 + more), .int .i64 9223372036854775807, .int .i64 0, .int .i64 0, .int .i64 0, .string p.img, .int .i64 p.size] 24)).cell? ⟨w1.heap.size, 9, none⟩ = some (.string p.img) := by first | (simp; done) | (rw [World.cell?_alloc_at _ _ _ _ (by simp)]; rfl) | (rw [World.cell?_alloc_past _ _ _ (by simp <;> omega), World.cell?_alloc_at _ _ _ _ (by simp)]; rfl) | (rw [World.cell?_alloc_past _ _ _ (by simp <;> omega), World.cell?_alloc_past _ _ _ (by simp <;> omega), World.cell?_alloc_at _ _ _ _ (by simp)]; rfl)
        have q10 : (w1.alloc (.cells #[.string p.id, .int .i64 p.prio, .bool p.crit, .int .i64 p.r0, .int .i64 (p.r1 + more), .int .i64 9223372036854775807, .int .i64 0, .int .i64 0, .int .i64 0, .string p.img, .int .i64 p.size] 24)).cell? ⟨w1.heap.size, 10, none⟩ = some (.int .i64 p.size) := by first | (simp; done) | (rw [World.cell?_alloc_at _ _ _ _ (by simp)]; rfl) | (rw [World.cell?_alloc_past _ _ _ (by simp <;> omega), World.cell?_alloc_at _ _ _ _ (by simp)]; rfl) | (rw [World.cell?_alloc_past _ _ _ (by simp <;> omega), World.cell?_alloc_past _ _ _ (by simp <;> omega), World.cell?_alloc_at _ _ _ _ (by simp)]; rfl)
        have hb2 := (by repeat (first | exact hbel | refine belAlloc ?_ _ | refine belDrew ?_ | refine belSet ?_ _ _ (by simp)) : Below W2.heap.size W2 (w1.alloc (.cells #[.string p.id, .int .i64 p.prio, .bool p.crit, .int .i64 p.r0, .int .i64 (p.r1 + more), .int .i64 9223372036854775807, .int .i64 0, .int .i64 0, .int .i64 0, .string p.img, .int .i64 p.size] 24)))
        replace a0 := keepOnP a0 hb2
        replace a1 := keepOnP a1 hb2
        replace a2 := keepOnP a2 hb2
        replace a3 := keepOnP a3 hb2
        replace a4 := keepOnP a4 hb2
        replace a5 := keepOnP a5 hb2
        replace a6 := keepOnP a6 hb2
        replace a7 := keepOnP a7 hb2
        replace a8 := keepOnP a8 hb2
        replace a9 := keepOnP a9 hb2
        replace a10 := keepOnP a10 hb2
        replace hw := belStep hw hb2
        clear hb2 hbel
        generalize w1.alloc (.cells #[.string p.id, .int .i64 p.prio, .bool p.crit, .int .i64 p.r0, .int .i64 (p.r1 + more), .int .i64 9223372036854775807, .int .i64 0, .int .i64 0, .int .i64 0, .string p.img, .int .i64 p.size] 24) = W3 at *
        replace q0 := keep q0
        replace q1 := keep q1
        replace q2 := keep q2
        replace q3 := keep q3
        replace q4 := keep q4
        replace q5 := keep q5
        replace q6 := keep q6
        replace q7 := keep q7
        replace q8 := keep q8
        replace q9 := keep q9
        replace q10 := keep q10
        generalize w1.heap.size = n3 at *
        have hbel : Below W3.heap.size W3 W3 := Below.refl _ _
        clear w1
        go_upto_region 12 with fail
        have r0 : (W3.alloc (.cells #[.string p.id, .int .i64 p.prio, .bool p.crit, .int .i64 p.r0, .int .i64 p.r1, .int .i64 9223372036854775807, .int .i64 0, .int .i64 0, .int .i64 9223372036854775807, .string p.img, .int .i64 p.size] 24)).cell? ⟨W3.heap.size, 0, none⟩ = some (.string p.id) := by first | (simp; done) | (rw [World.cell?_alloc_at _ _ _ _ (by simp)]; rfl) | (rw [World.cell?_alloc_past _ _ _ (by simp <;> omega), World.cell?_alloc_at _ _ _ _ (by simp)]; rfl) | (rw [World.cell?_alloc_past _ _ _ (by simp <;> omega), World.cell?_alloc_past _ _ _ (by simp <;> omega), World.cell?_alloc_at _ _ _ _ (by simp)]; rfl)
        have r1 : (W3.alloc (.cells #[.string p.id, .int .i64 p.prio, .bool p.crit, .int .i64 p.r0, .int .i64 p.r1, .int .i64 9223372036854775807, .int .i64 0, .int .i64 0, .int .i64 9223372036854775807, .string p.img, .int .i64 p.size] 24)).cell? ⟨W3.heap.size, 1, none⟩ = some (.int .i64 p.prio) := by first | (simp; done) | (rw [World.cell?_alloc_at _ _ _ _ (by simp)]; rfl) | (rw [World.cell?_alloc_past _ _ _ (by simp <;> omega), World.cell?_alloc_at _ _ _ _ (by simp)]; rfl) | (rw [World.cell?_alloc_past _ _ _ (by simp <;> omega), World.cell?_alloc_past _ _ _ (by simp <;> omega), World.cell?_alloc_at _ _ _ _ (by simp)]; rfl)
        have r2 : (W3.alloc (.cells #[.string p.id, .int .i64 p.prio, .bool p.crit, .int .i64 p.r0, .int .i64 p.r1, .int .i64 9223372036854775807, .int .i64 0, .int .i64 0, .int .i64 9223372036854775807, .string p.img, .int .i64 p.size] 24)).cell? ⟨W3.heap.size, 2, none⟩ = some (.bool p.crit) := by first | (simp; done) | (rw [World.cell?_alloc_at _ _ _ _ (by simp)]; rfl) | (rw [World.cell?_alloc_past _ _ _ (by simp <;> omega), World.cell?_alloc_at _ _ _ _ (by simp)]; rfl) | (rw [World.cell?_alloc_past _ _ _ (by simp <;> omega), World.cell?_alloc_past _ _ _ (by simp <;> omega), World.cell?_alloc_at _ _ _ _ (by simp)]; rfl)
        have r3 : (W3.alloc (.cells #[.string p.id, .int .i64 p.prio, .bool p.crit, .int .i64 p.r0, .int .i64 p.r1, .int .i64 9223372036854775807, .int .i64 0, .int .i64 0, .int .i64 9223372036854775807, .string p.img, .int .i64 p.size] 24)).cell? ⟨W3.heap.size, 3, none⟩ = some (.int .i64 p.r0) := by first | (simp; done) | (rw [World.cell?_alloc_at _ _ _ _ (by simp)]; rfl) | (rw [World.cell?_alloc_past _ _ _ (by simp <;> omega), World.cell?_alloc_at _ _ _ _ (by simp)]; rfl) | (rw [World.cell?_alloc_past _ _ _ (by simp <;> omega), World.cell?_alloc_past _ _ _ (by simp <;> omega), World.cell?_alloc_at _ _ _ _ (by simp)]; rfl)
        have r4 : (W3.alloc (.cells #[.string p.id, .int .i64 p.prio, .bool p.crit, .int .i64 p.r0, .int .i64 p.r1, .int .i64 9223372036854775807, .int .i64 0, .int .i64 0, .int .i64 9223372036854775807, .string p.img, .int .i64 p.size] 24)).cell? ⟨W3.heap.size, 4, none⟩ = some (.int .i64 p.r1) := by first | (simp; done) | (rw [World.cell?_alloc_at _ _ _ _ (by simp)]; rfl) | (rw [World.cell?_alloc_past _ _ _ (by simp <;> omega), World.cell?_alloc_at _ _ _ _ (by simp)]; rfl) | (rw [World.cell?_alloc_past _ _ _ (by simp <;> omega), World.cell?_alloc_past _ _ _ (by simp <;> omega), World.cell?_alloc_at _ _ _ _ (by simp)]; rfl)
        have r5 : (W3.alloc (.cells #[.string p.id, .int .i64 p.prio, .bool p.crit, .int .i64 p.r0, .int .i64 p.r1, .int .i64 9223372036854775807, .int .i64 0, .int .i64 0, .int .i64 9223372036854775807, .string p.img, .int .i64 p.size] 24)).cell? ⟨W3.heap.size, 5, none⟩ = some (.int .i64 9223372036854775807) := by first | (simp; done) | (rw [World.cell?_alloc_at _ _ _ _ (by simp)]; rfl) | (rw [World.cell?_alloc_past _ _ _ (by simp <;> omega), World.cell?_alloc_at _ _ _ _ (by simp)]; rfl) | (rw [World.cell?_alloc_past _ _ _ (by simp <;> omega), World.cell?_alloc_past _ _ _ (by simp <;> omega), World.cell?_alloc_at _ _ _ _ (by simp)]; rfl)
        have r6 : (W3.alloc (.cells #[.string p.id, .int .i64 p.prio, .bool p.crit, .int .i64 p.r0, .int .i64 p.r1, .int .i64 9223372036854775807, .int .i64 0, .int .i64 0, .int .i64 9223372036854775807, .string p.img, .int .i64 p.size] 24)).cell? ⟨W3.heap.size, 6, none⟩ = some (.int .i64 0) := by first | (simp; done) | (rw [World.cell?_alloc_at _ _ _ _ (by simp)]; rfl) | (rw [World.cell?_alloc_past _ _ _ (by simp <;> omega), World.cell?_alloc_at _ _ _ _ (by simp)]; rfl) | (rw [World.cell?_alloc_past _ _ _ (by simp <;> omega), World.cell?_alloc_past _ _ _ (by simp <;> omega), World.cell?_alloc_at _ _ _ _ (by simp)]; rfl)
        have r7 : (W3.alloc (.cells #[.string p.id, .int .i64 p.prio, .bool p.crit, .int .i64 p.r0, .int .i64 p.r1, .int .i64 9223372036854775807, .int .i64 0, .int .i64 0, .int .i64 9223372036854775807, .string p.img, .int .i64 p.size] 24)).cell? ⟨W3.heap.size, 7, none⟩ = some (.int .i64 0) := by first | (simp; done) | (rw [World.cell?_alloc_at _ _ _ _ (by simp)]; rfl) | (rw [World.cell?_alloc_past _ _ _ (by simp <;> omega), World.cell?_alloc_at _ _ _ _ (by simp)]; rfl) | (rw [World.cell?_alloc_past _ _ _ (by simp <;> omega), World.cell?_alloc_past _ _ _ (by simp <;> omega), World.cell?_alloc_at _ _ _ _ (by simp)]; rfl)
        have r8 : (W3.alloc (.cells #[.string p.id, .int .i64 p.prio, .bool p.crit, .int .i64 p.r0, .int .i64 p.r1, .int .i64 9223372036854775807, .int .i64 0, .int .i64 0, .int .i64 9223372036854775807, .string p.img, .int .i64 p.size] 24)).cell? ⟨W3.heap.size, 8, none⟩ = some (.int .i64 9223372036854775807) := by first | (simp; done) | (rw [World.cell?_alloc_at _ _ _ _ (by simp)]; rfl) | (rw [World.cell?_alloc_past _ _ _ (by simp <;> omega), World.cell?_alloc_at _ _ _ _ (by simp)]; rfl) | (rw [World.cell?_alloc_past _ _ _ (by simp <;> omega), World.cell?_alloc_past _ _ _ (by simp <;> omega), World.cell?_alloc_at _ _ _ _ (by simp)]; rfl)
        have r9 : (W3.alloc (.cells #[.string p.id, .int .i64 p.prio, .bool p.crit, .int .i64 p.r0, .int .i64 p.r1, .int .i64 9223372036854775807, .int .i64 0, .int .i64 0, .int .i64 9223372036854775807, .string p.img, .int .i64 p.size] 24)).cell? ⟨W3.heap.size, 9, none⟩ = some (.string p.img) := by first | (simp; done) | (rw [World.cell?_alloc_at _ _ _ _ (by simp)]; rfl) | (rw [World.cell?_alloc_past _ _ _ (by simp <;> omega), World.cell?_alloc_at _ _ _ _ (by simp)]; rfl) | (rw [World.cell?_alloc_past _ _ _ (by simp <;> omega), World.cell?_alloc_past _ _ _ (by simp <;> omega), World.cell?_alloc_at _ _ _ _ (by simp)]; rfl)
        have r10 : (W3.alloc (.cells #[.string p.id, .int .i64 p.prio, .bool p.crit, .int .i64 p.r0, .int .i64 p.r1, .int .i64 9223372036854775807, .int .i64 0, .int .i64 0, .int .i64 9223372036854775807, .string p.img, .int .i64 p.size] 24)).cell? ⟨W3.heap.size, 10, none⟩ = some (.int .i64 p.size) := by first | (simp; done) | (rw [World.cell?_alloc_at _ _ _ _ (by simp)]; rfl) | (rw [World.cell?_alloc_past _ _ _ (by simp <;> omega), World.cell?_alloc_at _ _ _ _ (by simp)]; rfl) | (rw [World.cell?_alloc_past _ _ _ (by simp <;> omega), World.cell?_alloc_past _ _ _ (by simp <;> omega), World.cell?_alloc_at _ _ _ _ (by simp)]; rfl)
        have hb2 := (by repeat (first | exact hbel | refine belAlloc ?_ _ | refine belDrew ?_ | refine belSet ?_ _ _ (by simp)) : Below W3.heap.size W3 (W3.alloc (.cells #[.string p.id, .int .i64 p.prio, .bool p.crit, .int .i64 p.r0, .int .i64 p.r1, .int .i64 9223372036854775807, .int .i64 0, .int .i64 0, .int .i64 9223372036854775807, .string p.img, .int .i64 p.size] 24)))
        replace a0 := keepOnP a0 hb2
        replace a1 := keepOnP a1 hb2
        replace a2 := keepOnP a2 hb2
        replace a3 := keepOnP a3 hb2
        replace a4 := keepOnP a4 hb2
        replace a5 := keepOnP a5 hb2
        replace a6 := keepOnP a6 hb2
        replace a7 := keepOnP a7 hb2
        replace a8 := keepOnP a8 hb2
        replace a9 := keepOnP a9 hb2
        replace a10 := keepOnP a10 hb2
        replace q0 := keepOnP q0 hb2
        replace q1 := keepOnP q1 hb2
        replace q2 := keepOnP q2 hb2
        replace q3 := keepOnP q3 hb2
        replace q4 := keepOnP q4 hb2
        replace q5 := keepOnP q5 hb2
        replace q6 := keepOnP q6 hb2
        replace q7 := keepOnP q7 hb2
        replace q8 := keepOnP q8 hb2
        replace q9 := keepOnP q9 hb2
        replace q10 := keepOnP q10 hb2
        replace hw := belStep hw hb2
        clear hb2 hbel
        generalize W3.alloc (.cells #[.string p.id, .int .i64 p.prio, .bool p.crit, .int .i64 p.r0, .int .i64 p.r1, .int .i64 9223372036854775807, .int .i64 0, .int .i64 0, .int .i64 9223372036854775807, .string p.img, .int .i64 p.size] 24) = W4 at *
        replace r0 := keep r0
        replace r1 := keep r1
        replace r2 := keep r2
        replace r3 := keep r3
        replace r4 := keep r4
        replace r5 := keep r5
        replace r6 := keep r6
        replace r7 := keep r7
        replace r8 := keep r8
        replace r9 := keep r9
        replace r10 := keep r10
        generalize W3.heap.size = n4 at *
        have hbel : Below W4.heap.size W4 W4 := Below.refl _ _
        skip
        have kk := fun d os => belStep hbel (below_regrown _ d os)
        refine wp_region_quiet_below (by kernel_rfl) (by kernel_rfl) ?_
        repeat ((with_reducible refine wpQuiet_step (fun K hK => ?_)); go_simp; (try (rw [if_neg]; rotate_left; · decide)); first | ((with_reducible refine hK _ ?_); clear hK K) | (apply Exists.intro; refine ⟨fun _ => ?_, hK _ ?_⟩; (first | (go_at_call 29; with_reducible exact Calls.regrown_of (CQ.out _)) | (go_at_call 30; with_reducible exact Calls.regrown_of (SQ.out _)) | (go_at_call 30; with_reducible exact Calls.regrown_of (SP.out _)) | (go_at_call 30; with_reducible exact Calls.regrown_of (SR.out 9223372036854775807 _))); clear hK K))
        refine wpQuiet_nil (fun w1 hw1 => ?_)
        replace hbel := belStep hbel (bel_of_class hw1)
        clear hw1 kk
        go_wp2
        go_ret
        exact ⟨rfl, belStep hw hbel⟩
      · go_upto_region 8 with (first | (go_at_call 29; (with_reducible refine (CP.out _).mono ?_); rintro e w1 ⟨rfl, hb1⟩; replace hbel := belStep hbel hb1; clear hb1))
        have q0 : (w1.alloc (.cells #[.string p.id, .int .i64 p.prio, .bool p.crit, .int .i64 p.r0, .int .i64 (p.r1 + more), .int .i64 p.r2, .int .i64 0, .int .i64 0, .int .i64 0, .string p.img, .int .i64 p.size] 24)).cell? ⟨w1.heap.size, 0, none⟩ = some (.string p.id) := by first | (simp; done) | (rw [World.cell?_alloc_at _ _ _ _ (by simp)]; rfl) | (rw [World.cell?_alloc_past _ _ _ (by simp <;> omega), World.cell?_alloc_at _ _ _ _ (by simp)]; rfl) | (rw [World.cell?_alloc_past _ _ _ (by simp <;> omega), World.cell?_alloc_past _ _ _ (by simp <;> omega), World.cell?_alloc_at _ _ _ _ (by simp)]; rfl)
        have q1 : (w1.alloc (.cells #[.string p.id, .int .i64 p.prio, .bool p.crit, .int .i64 p.r0, .int .i64 (p.r1 + more), .int .i64 p.r2, .int .i64 0, .int .i64 0, .int .i64 0, .string p.img, .int .i64 p.size] 24)).cell? ⟨w1.heap.size, 1, none⟩ = some (.int .i64 p.prio) := by first | (simp; done) | (rw [World.cell?_alloc_at _ _ _ _ (by simp)]; rfl) | (rw [World.cell?_alloc_past _ _ _ (by simp <;> omega), World.cell?_alloc_at _ _ _ _ (by simp)]; rfl) | (rw [World.cell?_alloc_past _ _ _ (by simp <;> omega), World.cell?_alloc_past _ _ _ (by simp <;> omega), World.cell?_alloc_at _ _ _ _ (by simp)]; rfl)
        have q2 : (w1.alloc (.cells #[.string p.id, .int .i64 p.prio, .bool p.crit, .int .i64 p.r0, .int .i64 (p.r1 + more), .int .i64 p.r2, .int .i64 0, .int .i64 0, .int .i64 0, .string p.img, .int .i64 p.size] 24)).cell? ⟨w1.heap.size, 2, none⟩ = some (.bool p.crit) := by first | (simp; done) | (rw [World.cell?_alloc_at _ _ _ _ (by simp)]; rfl) | (rw [World.cell?_alloc_past _ _ _ (by simp <;> omega), World.cell?_alloc_at _ _ _ _ (by simp)]; rfl) | (rw [World.cell?_alloc_past _ _ _ (by simp <;> omega), World.cell?_alloc_past _ _ _ (by simp <;> omega), World.cell?_alloc_at _ _ _ _ (by simp)]; rfl)
        have q3 : (w1.alloc (.cells #[.string p.id, .int .i64 p.prio, .bool p.crit, .int .i64 p.r0, .int .i64 (p.r1 + more), .int .i64 p.r2, .int .i64 0, .int .i64 0, .int .i64 0, .string p.img, .int .i64 p.size] 24)).cell? ⟨w1.heap.size, 3, none⟩ = some (.int .i64 p.r0) := by first | (simp; done) | (rw [World.cell?_alloc_at _ _ _ _ (by simp)]; rfl) | (rw [World.cell?_alloc_past _ _ _ (by simp <;> omega), World.cell?_alloc_at _ _ _ _ (by simp)]; rfl) | (rw [World.cell?_alloc_past _ _ _ (by simp <;> omega), World.cell?_alloc_past _ _ _ (by simp <;> omega), World.cell?_alloc_at _ _ _ _ (by simp)]; rfl)
        have q4 : (w1.alloc (.cells #[.string p.id, .int .i64 p.prio, .bool p.crit, .int .i64 p.r0, .int .i64 (p.r1 + more), .int .i64 p.r2, .int .i64 0, .int .i64 0, .int .i64 0, .string p.img, .int .i64 p.size] 24)).cell? ⟨w1.heap.size, 4, none⟩ = some (.int .i64 (p.r1 + more)) := by first | (simp; done) | (rw [World.cell?_alloc_at _ _ _ _ (by simp)]; rfl) | (rw [World.cell?_alloc_past _ _ _ (by simp <;> omega), World.cell?_alloc_at _ _ _ _ (by simp)]; rfl) | (rw [World.cell?_alloc_past _ _ _ (by simp <;> omega), World.cell?_alloc_past _ _ _ (by simp <;> omega), World.cell?_alloc_at _ _ _ _ (by simp)]; rfl)
        have q5 : (w1.alloc (.cells #[.string p.id, .int .i64 p.prio, .bool p.crit, .int .i64 p.r0, .int .i64 (p.r1 + more), .int .i64 p.r2, .int .i64 0, .int .i64 0, .int .i64 0, .string p.img, .int .i64 p.size] 24)).cell? ⟨w1.heap.size, 5, none⟩ = some (.int .i64 p.r2) := by first | (simp; done) | (rw [World.cell?_alloc_at _ _ _ _ (by simp)]; rfl) | (rw [World.cell?_alloc_past _ _ _ (by simp <;> omega), World.cell?_alloc_at _ _ _ _ (by simp)]; rfl) | (rw [World.cell?_alloc_past _ _ _ (by simp <;> omega), World.cell?_alloc_past _ _ _ (by simp <;> omega), World.cell?_alloc_at _ _ _ _ (by simp)]; rfl)
        have q6 : (w1.alloc (.cells #[.string p.id, .int .i64 p.prio, .bool p.crit, .int .i64 p.r0, .int .i64 (p.r1 + more), .int .i64 p.r2, .int .i64 0, .int .i64 0, .int .i64 0, .string p.img, .int .i64 p.size] 24)).cell? ⟨w1.heap.size, 6, none⟩ = some (.int .i64 0) := by first | (simp; done) | (rw [World.cell?_alloc_at _ _ _ _ (by simp)]; rfl) | (rw [World.cell?_alloc_past _ _ _ (by simp <;> omega), World.cell?_alloc_at _ _ _ _ (by simp)]; rfl) | (rw [World.cell?_alloc_past _ _ _ (by simp <;> omega), World.cell?_alloc_past _ _ _ (by simp <;> omega), World.cell?_alloc_at _ _ _ _ (by simp)]; rfl)
        have q7 : (w1.alloc (.cells #[.string p.id, .int .i64 p.prio, .bool p.crit, .int .i64 p.r0, .int .i64 (p.r1 + more), .int .i64 p.r2, .int .i64 0, .int .i64 0, .int .i64 0, .string p.img, .int .i64 p.size] 24)).cell? ⟨w1.heap.size, 7, none⟩ = some (.int .i64 0) := by first | (simp; done) | (rw [World.cell?_alloc_at _ _ _ _ (by simp)]; rfl) | (rw [World.cell?_alloc_past _ _ _ (by simp <;> omega), World.cell?_alloc_at _ _ _ _ (by simp)]; rfl) | (rw [World.cell?_alloc_past _ _ _ (by simp <;> omega), World.cell?_alloc_past _ _ _ (by simp <;> omega), World.cell?_alloc_at _ _ _ _ (by simp)]; rfl)
        have q8 : (w1.alloc (.cells #[.string p.id, .int .i64 p.prio, .bool p.crit, .int .i64 p.r0, .int .i64 (p.r1 + more), .int .i64 p.r2, .int .i64 0, .int .i64 0, .int .i64 0, .string p.img, .int .i64 p.size] 24)).cell? ⟨w1.heap.size, 8, none⟩ = some (.int .i64 0) := by first | (simp; done) | (rw [World.cell?_alloc_at _ _ _ _ (by simp)]; rfl) | (rw [World.cell?_alloc_past _ _ _ (by simp <;> omega), World.cell?_alloc_at _ _ _ _ (by simp)]; rfl) | (rw [World.cell?_alloc_past _ _ _ (by simp <;> omega), World.cell?_alloc_past _ _ _ (by simp <;> omega), World.cell?_alloc_at _ _ _ _ (by simp)]; rfl)
        have q9 : (w1.alloc (.cells #[.string p.id, .int .i64 p.prio, .bool p.crit, .int .i64 p.r0, .int .i64 (p.r1 + more), .int .i64 p.r2, .int .i64 0, .int .i64 0, .int .i64 0, .string p.img, .int .i64 p.size] 24)).cell? ⟨w1.heap.size, 9, none⟩ = some (.string p.img) := by first | (simp; done) | (rw [World.cell?_alloc_at _ _ _ _ (by simp)]; rfl) | (rw [World.cell?_alloc_past _ _ _ (by simp <;> omega), World.cell?_alloc_at _ _ _ _ (by simp)]; rfl) | (rw [World.cell?_alloc_past _ _ _ (by simp <;> omega), World.cell?_alloc_past _ _ _ (by simp <;> omega), World.cell?_alloc_at _ _ _ _ (by simp)]; rfl)
        have q10 : (w1.alloc (.cells #[.string p.id, .int .i64 p.prio, .bool p.crit, .int .i64 p.r0, .int .i64 (p.r1 + more), .int .i64 p.r2, .int .i64 0, .int .i64 0, .int .i64 0, .string p.img, .int .i64 p.size] 24)).cell? ⟨w1.heap.size, 10, none⟩ = some (.int .i64 p.size) := by first | (simp; done) | (rw [World.cell?_alloc_at _ _ _ _ (by simp)]; rfl) | (rw [World.cell?_alloc_past _ _ _ (by simp <;> omega), World.cell?_alloc_at _ _ _ _ (by simp)]; rfl) | (rw [World.cell?_alloc_past _ _ _ (by simp <;> omega), World.cell?_alloc_past _ _ _ (by simp <;> omega), World.cell?_alloc_at _ _ _ _ (by simp)]; rfl)
        have hb2 := (by repeat (first | exact hbel | refine belAlloc ?_ _ | refine belDrew ?_ | refine belSet ?_ _ _ (by simp)) : Below W2.heap.size W2 (w1.alloc (.cells #[.string p.id, .int .i64 p.prio, .bool p.crit, .int .i64 p.r0, .int .i64 (p.r1 + more), .int .i64 p.r2, .int .i64 0, .int .i64 0, .int .i64 0, .string p.img, .int .i64 p.size] 24)))
        replace a0 := keepOnP a0 hb2
        replace a1 := keepOnP a1 hb2
        replace a2 := keepOnP a2 hb2
        replace a3 := keepOnP a3 hb2
        replace a4 := keepOnP a4 hb2
        replace a5 := keepOnP a5 hb2
        replace a6 := keepOnP a6 hb2
        replace a7 := keepOnP a7 hb2
        replace a8 := keepOnP a8 hb2
        replace a9 := keepOnP a9 hb2
        replace a10 := keepOnP a10 hb2
        replace hw := belStep hw hb2
        clear hb2 hbel
        generalize w1.alloc (.cells #[.string p.id, .int .i64 p.prio, .bool p.crit, .int .i64 p.r0, .int .i64 (p.r1 + more), .int .i64 p.r2, .int .i64 0, .int .i64 0, .int .i64 0, .string p.img, .int .i64 p.size] 24) = W3 at *
        replace q0 := keep q0
        replace q1 := keep q1
        replace q2 := keep q2
        replace q3 := keep q3
        replace q4 := keep q4
        replace q5 := keep q5
        replace q6 := keep q6
        replace q7 := keep q7
        replace q8 := keep q8
        replace q9 := keep q9
        replace q10 := keep q10
        generalize w1.heap.size = n3 at *
        have hbel : Below W3.heap.size W3 W3 := Below.refl _ _
        clear w1
        go_upto_region 12 with fail
        have r0 : (W3.alloc (.cells #[.string p.id, .int .i64 p.prio, .bool p.crit, .int .i64 p.r0, .int .i64 p.r1, .int .i64 p.r2, .int .i64 0, .int .i64 0, .int .i64 (p.r2 + 1), .string p.img, .int .i64 p.size] 24)).cell? ⟨W3.heap.size, 0, none⟩ = some (.string p.id) := by first | (simp; done) | (rw [World.cell?_alloc_at _ _ _ _ (by simp)]; rfl) | (rw [World.cell?_alloc_past _ _ _ (by simp <;> omega), World.cell?_alloc_at _ _ _ _ (by simp)]; rfl) | (rw [World.cell?_alloc_past _ _ _ (by simp <;> omega), World.cell?_alloc_past _ _ _ (by simp <;> omega), World.cell?_alloc_at _ _ _ _ (by simp)]; rfl)
        have r1 : (W3.alloc (.cells #[.string p.id, .int .i64 p.prio, .bool p.crit, .int .i64 p.r0, .int .i64 p.r1, .int .i64 p.r2, .int .i64 0, .int .i64 0, .int .i64 (p.r2 + 1), .string p.img, .int .i64 p.size] 24)).cell? ⟨W3.heap.size, 1, none⟩ = some (.int .i64 p.prio) := by first | (simp; done) | (rw [World.cell?_alloc_at _ _ _ _ (by simp)]; rfl) | (rw [World.cell?_alloc_past _ _ _ (by simp <;> omega), World.cell?_alloc_at _ _ _ _ (by simp)]; rfl) | (rw [World.cell?_alloc_past _ _ _ (by simp <;> omega), World.cell?_alloc_past _ _ _ (by simp <;> omega), World.cell?_alloc_at _ _ _ _ (by simp)]; rfl)
        have r2 : (W3.alloc (.cells #[.string p.id, .int .i64 p.prio, .bool p.crit, .int .i64 p.r0, .int .i64 p.r1, .int .i64 p.r2, .int .i64 0, .int .i64 0, .int .i64 (p.r2 + 1), .string p.img, .int .i64 p.size] 24)).cell? ⟨W3.heap.size, 2, none⟩ = some (.bool p.crit) := by first | (simp; done) | (rw [World.cell?_alloc_at _ _ _ _ (by simp)]; rfl) | (rw [World.cell?_alloc_past _ _ _ (by simp <;> omega), World.cell?_alloc_at _ _ _ _ (by simp)]; rfl) | (rw [World.cell?_alloc_past _ _ _ (by simp <;> omega), World.cell?_alloc_past _ _ _ (by simp <;> omega), World.cell?_alloc_at _ _ _ _ (by simp)]; rfl)
        have r3 : (W3.alloc (.cells #[.string p.id, .int .i64 p.prio, .bool p.crit, .int .i64 p.r0, .int .i64 p.r1, .int .i64 p.r2, .int .i64 0, .int .i64 0, .int .i64 (p.r2 + 1), .string p.img, .int .i64 p.size] 24)).cell? ⟨W3.heap.size, 3, none⟩ = some (.int .i64 p.r0) := by first | (simp; done) | (rw [World.cell?_alloc_at _ _ _ _ (by simp)]; rfl) | (rw [World.cell?_alloc_past _ _ _ (by simp <;> omega), World.cell?_alloc_at _ _ _ _ (by simp)]; rfl) | (rw [World.cell?_alloc_past _ _ _ (by simp <;> omega), World.cell?_alloc_past _ _ _ (by simp <;> omega), World.cell?_alloc_at _ _ _ _ (by simp)]; rfl)
        have r4 : (W3.alloc (.cells #[.string p.id, .int .i64 p.prio, .bool p.crit, .int .i64 p.r0, .int .i64 p.r1, .int .i64 p.r2, .int .i64 0, .int .i64 0, .int .i64 (p.r2 + 1), .string p.img, .int .i64 p.size] 24)).cell? ⟨W3.heap.size, 4, none⟩ = some (.int .i64 p.r1) := by first | (simp; done) | (rw [World.cell?_alloc_at _ _ _ _ (by simp)]; rfl) | (rw [World.cell?_alloc_past _ _ _ (by simp <;> omega), World.cell?_alloc_at _ _ _ _ (by simp)]; rfl) | (rw [World.cell?_alloc_past _ _ _ (by simp <;> omega), World.cell?_alloc_past _ _ _ (by simp <;> omega), World.cell?_alloc_at _ _ _ _ (by simp)]; rfl)
        have r5 : (W3.alloc (.cells #[.string p.id, .int .i64 p.prio, .bool p.crit, .int .i64 p.r0, .int .i64 p.r1, .int .i64 p.r2, .int .i64 0, .int .i64 0, .int .i64 (p.r2 + 1), .string p.img, .int .i64 p.size] 24)).cell? ⟨W3.heap.size, 5, none⟩ = some (.int .i64 p.r2) := by first | (simp; done) | (rw [World.cell?_alloc_at _ _ _ _ (by simp)]; rfl) | (rw [World.cell?_alloc_past _ _ _ (by simp <;> omega), World.cell?_alloc_at _ _ _ _ (by simp)]; rfl) | (rw [World.cell?_alloc_past _ _ _ (by simp <;> omega), World.cell?_alloc_past _ _ _ (by simp <;> omega), World.cell?_alloc_at _ _ _ _ (by simp)]; rfl)
        have r6 : (W3.alloc (.cells #[.string p.id, .int .i64 p.prio, .bool p.crit, .int .i64 p.r0, .int .i64 p.r1, .int .i64 p.r2, .int .i64 0, .int .i64 0, .int .i64 (p.r2 + 1), .string p.img, .int .i64 p.size] 24)).cell? ⟨W3.heap.size, 6, none⟩ = some (.int .i64 0) := by first | (simp; done) | (rw [World.cell?_alloc_at _ _ _ _ (by simp)]; rfl) | (rw [World.cell?_alloc_past _ _ _ (by simp <;> omega), World.cell?_alloc_at _ _ _ _ (by simp)]; rfl) | (rw [World.cell?_alloc_past _ _ _ (by simp <;> omega), World.cell?_alloc_past _ _ _ (by simp <;> omega), World.cell?_alloc_at _ _ _ _ (by simp)]; rfl)
        have r7 : (W3.alloc (.cells #[.string p.id, .int .i64 p.prio, .bool p.crit, .int .i64 p.r0, .int .i64 p.r1, .int .i64 p.r2, .int .i64 0, .int .i64 0, .int .i64 (p.r2 + 1), .string p.img, .int .i64 p.size] 24)).cell? ⟨W3.heap.size, 7, none⟩ = some (.int .i64 0) := by first | (simp; done) | (rw [World.cell?_alloc_at _ _ _ _ (by simp)]; rfl) | (rw [World.cell?_alloc_past _ _ _ (by simp <;> omega), World.cell?_alloc_at _ _ _ _ (by simp)]; rfl) | (rw [World.cell?_alloc_past _ _ _ (by simp <;> omega), World.cell?_alloc_past _ _ _ (by simp <;> omega), World.cell?_alloc_at _ _ _ _ (by simp)]; rfl)
        have r8 : (W3.alloc (.cells #[.string p.id, .int .i64 p.prio, .bool p.crit, .int .i64 p.r0, .int .i64 p.r1, .int .i64 p.r2, .int .i64 0, .int .i64 0, .int .i64 (p.r2 + 1), .string p.img, .int .i64 p.size] 24)).cell? ⟨W3.heap.size, 8, none⟩ = some (.int .i64 (p.r2 + 1)) := by first | (simp; done) | (rw [World.cell?_alloc_at _ _ _ _ (by simp)]; rfl) | (rw [World.cell?_alloc_past _ _ _ (by simp <;> omega), World.cell?_alloc_at _ _ _ _ (by simp)]; rfl) | (rw [World.cell?_alloc_past _ _ _ (by simp <;> omega), World.cell?_alloc_past _ _ _ (by simp <;> omega), World.cell?_alloc_at _ _ _ _ (by simp)]; rfl)
        have r9 : (W3.alloc (.cells #[.string p.id, .int .i64 p.prio, .bool p.crit, .int .i64 p.r0, .int .i64 p.r1, .int .i64 p.r2, .int .i64 0, .int .i64 0, .int .i64 (p.r2 + 1), .string p.img, .int .i64 p.size] 24)).cell? ⟨W3.heap.size, 9, none⟩ = some (.string p.img) := by first | (simp; done) | (rw [World.cell?_alloc_at _ _ _ _ (by simp)]; rfl) | (rw [World.cell?_alloc_past _ _ _ (by simp <;> omega), World.cell?_alloc_at _ _ _ _ (by simp)]; rfl) | (rw [World.cell?_alloc_past _ _ _ (by simp <;> omega), World.cell?_alloc_past _ _ _ (by simp <;> omega), World.cell?_alloc_at _ _ _ _ (by simp)]; rfl)
        have r10 : (W3.alloc (.cells #[.string p.id, .int .i64 p.prio, .bool p.crit, .int .i64 p.r0, .int .i64 p.r1, .int .i64 p.r2, .int .i64 0, .int .i64 0, .int .i64 (p.r2 + 1), .string p.img, .int .i64 p.size] 24)).cell? ⟨W3.heap.size, 10, none⟩ = some (.int .i64 p.size) := by first | (simp; done) | (rw [World.cell?_alloc_at _ _ _ _ (by simp)]; rfl) | (rw [World.cell?_alloc_past _ _ _ (by simp <;> omega), World.cell?_alloc_at _ _ _ _ (by simp)]; rfl) | (rw [World.cell?_alloc_past _ _ _ (by simp <;> omega), World.cell?_alloc_past _ _ _ (by simp <;> omega), World.cell?_alloc_at _ _ _ _ (by simp)]; rfl)
        have hb2 := (by repeat (first | exact hbel | refine belAlloc ?_ _ | refine belDrew ?_ | refine belSet ?_ _ _ (by simp)) : Below W3.heap.size W3 (W3.alloc (.cells #[.string p.id, .int .i64 p.prio, .bool p.crit, .int .i64 p.r0, .int .i64 p.r1, .int .i64 p.r2, .int .i64 0, .int .i64 0, .int .i64 (p.r2 + 1), .string p.img, .int .i64 p.size] 24)))
        replace a0 := keepOnP a0 hb2
        replace a1 := keepOnP a1 hb2
        replace a2 := keepOnP a2 hb2
        replace a3 := keepOnP a3 hb2
        replace a4 := keepOnP a4 hb2
        replace a5 := keepOnP a5 hb2
        replace a6 := keepOnP a6 hb2
        replace a7 := keepOnP a7 hb2
        replace a8 := keepOnP a8 hb2
        replace a9 := keepOnP a9 hb2
        replace a10 := keepOnP a10 hb2
        replace q0 := keepOnP q0 hb2
        replace q1 := keepOnP q1 hb2
        replace q2 := keepOnP q2 hb2
        replace q3 := keepOnP q3 hb2
        replace q4 := keepOnP q4 hb2
        replace q5 := keepOnP q5 hb2
        replace q6 := keepOnP q6 hb2
        replace q7 := keepOnP q7 hb2
        replace q8 := keepOnP q8 hb2
        replace q9 := keepOnP q9 hb2
        replace q10 := keepOnP q10 hb2
        replace hw := belStep hw hb2
        clear hb2 hbel
        generalize W3.alloc (.cells #[.string p.id, .int .i64 p.prio, .bool p.crit, .int .i64 p.r0, .int .i64 p.r1, .int .i64 p.r2, .int .i64 0, .int .i64 0, .int .i64 (p.r2 + 1), .string p.img, .int .i64 p.size] 24) = W4 at *
        replace r0 := keep r0
        replace r1 := keep r1
        replace r2 := keep r2
        replace r3 := keep r3
        replace r4 := keep r4
        replace r5 := keep r5
        replace r6 := keep r6
        replace r7 := keep r7
        replace r8 := keep r8
        replace r9 := keep r9
        replace r10 := keep r10
        generalize W3.heap.size = n4 at *
        have hbel : Below W4.heap.size W4 W4 := Below.refl _ _
        skip
        have kk := fun d os => belStep hbel (below_regrown _ d os)
        refine wp_region_quiet_below (by kernel_rfl) (by kernel_rfl) ?_
        repeat ((with_reducible refine wpQuiet_step (fun K hK => ?_)); go_simp; (try (rw [if_neg]; rotate_left; · decide)); first | ((with_reducible refine hK _ ?_); clear hK K) | (apply Exists.intro; refine ⟨fun _ => ?_, hK _ ?_⟩; (first | (go_at_call 29; with_reducible exact Calls.regrown_of (CQ.out _)) | (go_at_call 30; with_reducible exact Calls.regrown_of (SQ.out _)) | (go_at_call 30; with_reducible exact Calls.regrown_of (SP.out _)) | (go_at_call 30; with_reducible exact Calls.regrown_of (SR.out (p.r2 + 1) _))); clear hK K))
        refine wpQuiet_nil (fun w1 hw1 => ?_)
        replace hbel := belStep hbel (bel_of_class hw1)
        clear hw1 kk
        go_wp2
        go_ret
        exact ⟨rfl, belStep hw hbel⟩

set_option maxRecDepth 100000 in
theorem lifted (os : Os) (started : os.Started) (H : Type) (enc : TypeId × Value → H) :
    ReturnsInHanded {} Try.checked os 11 .any (Rows.qosMoreSpec.pre6 enc Try.prog Try.f11 Rows.qosMoreRow.domain false) (Rows.qosMoreSpec.post enc Try.prog Try.f11 false true false false) := by
  refine returnsInHanded_of_change (C := Try.checked) own started (by kernel_rfl) Try.func11
    (ChangeSpec.witness6 (enc := enc) (C := Try.checked) false ⟨#[], #[.agg #[.string ByteArray.empty, .int .i64 0, .bool false, .int .i64 0, .int .i64 0, .int .i64 0, .int .i64 0, .int .i64 0, .int .i64 0, .string ByteArray.empty, .int .i64 0], .int .i64 0, .int .i64 0], []⟩ 8 (by kernel_rfl) (by kernel_rfl) (by kernel_rfl) (by kernel_rfl)) ?_
  intro W base args ds gs before hval0 hW hcnd _
  have hval : ∀ (j : Nat) t v, Try.f11.params[j]? = some t → args[j]? = some v → Value.okWide Try.prog W .any base t v := hval0
  have hW' := hW
  obtain ⟨p, q, hA0, hV, rfl, hfz, hnd⟩ := hW
  have hA : DataW.TrodAll enc Try.prog W 0 (fun _ => true) true Try.f11.params.toList args.toList ds p := hA0
  rw [Try.params11] at hA hval
  obtain ⟨v0, vs0, d0, ds0, p0, q0, hargs, rfl, rfl, h0, r0⟩ := trodAll_cons hA
  obtain ⟨v1, vs1, d1, ds1, p1, q1, rfl, rfl, rfl, h1, r1⟩ := trodAll_cons r0
  obtain ⟨v2, vs2, d2, ds2, p2, q2, rfl, rfl, rfl, h2, r2⟩ := trodAll_cons r1
  obtain ⟨rfl, rfl, rfl⟩ := trodAll_nil r2
  obtain rfl : args = #[v0, v1, v2] := by cases args; simp_all
  obtain ⟨rfl, rfl⟩ := trodVars_none hV
  have k0 := h0
  have lt0 : ∀ x ∈ p0, x.block < W.heap.size := by obtain ⟨m, hm⟩ := k0; exact DataW.trod_lt m _ _ _ hm
  have o0 : Value.okWide Try.prog W .any base 24 v0 := hval 0 24 v0 rfl rfl
  obtain ⟨p0, rfl, f0⟩ := open_pod o0 h0
  have k1 := h1
  have lt1 : ∀ x ∈ p1, x.block < W.heap.size := by obtain ⟨m, hm⟩ := k1; exact DataW.trod_lt m _ _ _ hm
  have o1 : Value.okWide Try.prog W .any base 3 v1 := hval 1 3 v1 rfl rfl
  obtain ⟨a1, rfl, rfl, rfl, w1⟩ := open_int Try.underlying3 o1 h1
  have k2 := h2
  have lt2 : ∀ x ∈ p2, x.block < W.heap.size := by obtain ⟨m, hm⟩ := k2; exact DataW.trod_lt m _ _ _ hm
  have o2 : Value.okWide Try.prog W .any base 3 v2 := hval 2 3 v2 rfl rfl
  obtain ⟨a2, rfl, rfl, rfl, w2⟩ := open_int Try.underlying3 o2 h2
  clear hA0 hval0
  refine (walk p0 a1 a2 W f0 (inI_of_wf w1) (inI_of_wf w2)).mono fun e W' ⟨he, bel⟩ => ?_
  subst he
  exact ⟨_, rfl, _, _, _, [], _, [], hW', trodAll_mk1 (shut_bool Try.underlying4 _), (trodAll_cons_mk (Below.trod laidOut (by kernel_rfl) (of_decide_eq_true (by kernel_rfl)) k0 bel lt0) (trodAll_cons_mk (Below.trod laidOut (by kernel_rfl) (of_decide_eq_true (by kernel_rfl)) k1 bel lt1) (trodAll_cons_mk (Below.trod laidOut (by kernel_rfl) (of_decide_eq_true (by kernel_rfl)) k2 bel lt2) trodAll_mk0))), rfl, bel.frame _, fun h => by cases h⟩

theorem over : Rows.qosMoreRow.holds Try.pinned (OpenSpec.ofChange Rows.qosMoreSpec) :=
  OpenClaim.holds_of_wide 11 Try.f11 rfl rfl rfl rfl rfl rfl rfl ⟨rfl, rfl, rfl, rfl, rfl⟩ rfl rfl rfl rfl rfl (by kernel_rfl) Try.func11 (by kernel_rfl)
    (of_decide_eq_true (by kernel_rfl)) (by unfold Func.isWrapper; first | (rw [if_pos (by decide +kernel)]; kernel_rfl) | (rw [if_neg (by decide +kernel)]; exact ⟨rfl, rfl⟩))
    (fun os started H enc _ => lifted os started H enc)

/-- The statement. -/
theorem proved : Rows.QosMoreSaid := over
#print axioms proved

end Go.Proofs.Ytnfblpiapendeaa.qosMore
