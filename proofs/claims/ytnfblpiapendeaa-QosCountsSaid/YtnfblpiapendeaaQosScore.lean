/- Scores; the reference's class and score. -/
import Derived.Test.YtnfblpiapendeaaQosClass
namespace Go.Proofs.Ytnfblpiapendeaa
open Go.RowKit
set_option linter.unusedVariables false
set_option linter.unusedSimpArgs false

def scoreI (crit : Bool) (c r1 mem : Int) : Int := if crit then 0 else if c = 1 then 0 else if c = 3 then 1000 else min (max (1000 - thouI r1 mem) 2) 999
theorem classI_cases (r0 r1 r2 l0 l1 l2 : Int) : classI r0 r1 r2 l0 l1 l2 = 1 ∨ classI r0 r1 r2 l0 l1 l2 = 2 ∨ classI r0 r1 r2 l0 l1 l2 = 3 := by
  unfold classI; split
  · omega
  · split <;> omega

set_option maxHeartbeats 4000000 in
theorem qos_Score (id : ByteArray) (prio : Int) (crit : Bool) (r0 r1 r2 l0 l1 l2 : Int) (img : ByteArray) (size : Int) (mem : Int) (w : World) (hr : 0 ≤ r1) (ir : InI r1) (hm : 1 ≤ mem) (im : InI mem) :
    Calls Try.prog 30 #[.agg #[.string id, .int .i64 prio, .bool crit, .int .i64 r0, .int .i64 r1, .int .i64 r2, .int .i64 l0, .int .i64 l1, .int .i64 l2, .string img, .int .i64 size], .int .i64 mem] w fun e w' => e = .returned (.int .i64 (scoreI crit (classI r0 r1 r2 l0 l1 l2) r1 mem)) ∧ Below w.heap.size w w' := by
  have hw : Below w.heap.size w w := Below.refl _ _
  have hbel := hw
  have bd := thouI_bd r1 mem hr hm
  have cc := fun v => qos_Class id prio crit r0 r1 r2 l0 l1 l2 img size v
  have ct := fun v => qos_Thousandths r1 mem v hr ir hm im
  have hc := classI_cases r0 r1 r2 l0 l1 l2
  generalize classI r0 r1 r2 l0 l1 l2 = c at *
  obtain ⟨th, et⟩ : ∃ y, thouI r1 mem = y := ⟨_, rfl⟩
  have key : (crit = true ∧ scoreI crit c r1 mem = 0) ∨ (crit = false ∧ c = 1 ∧ scoreI crit c r1 mem = 0) ∨ (crit = false ∧ c = 3 ∧ scoreI crit c r1 mem = 1000) ∨ (crit = false ∧ c = 2 ∧ scoreI crit c r1 mem = min (max (1000 - th) 2) 999) := by
    unfold scoreI
    rcases hc with rfl | rfl | rfl <;> cases crit <;> simp [et]
  rw [et] at ct bd
  obtain ⟨sc, es⟩ : ∃ y, scoreI crit c r1 mem = y := ⟨_, rfl⟩
  rw [es] at key ⊢
  clear es et hc hr ir hm im
  have CC := Lib.hid cc
  have CT := Lib.hid ct
  clear cc ct
  go_enter Try.func30, Try.ntmps30
  go_upto_region 1 with fail
  have a0 : (w.alloc (.cells #[.string id, .int .i64 prio, .bool crit, .int .i64 r0, .int .i64 r1, .int .i64 r2, .int .i64 l0, .int .i64 l1, .int .i64 l2, .string img, .int .i64 size] 24)).cell? ⟨w.heap.size, 0, none⟩ = some (.string id) := by first | (simp; done) | (rw [World.cell?_alloc_at _ _ _ _ (by simp)]; rfl) | (rw [World.cell?_alloc_past _ _ _ (by simp <;> omega), World.cell?_alloc_at _ _ _ _ (by simp)]; rfl) | (rw [World.cell?_alloc_past _ _ _ (by simp <;> omega), World.cell?_alloc_past _ _ _ (by simp <;> omega), World.cell?_alloc_at _ _ _ _ (by simp)]; rfl)
  have a1 : (w.alloc (.cells #[.string id, .int .i64 prio, .bool crit, .int .i64 r0, .int .i64 r1, .int .i64 r2, .int .i64 l0, .int .i64 l1, .int .i64 l2, .string img, .int .i64 size] 24)).cell? ⟨w.heap.size, 1, none⟩ = some (.int .i64 prio) := by first | (simp; done) | (rw [World.cell?_alloc_at _ _ _ _ (by simp)]; rfl) | (rw [World.cell?_alloc_past _ _ _ (by simp <;> omega), World.cell?_alloc_at _ _ _ _ (by simp)]; rfl) | (rw [World.cell?_alloc_past _ _ _ (by simp <;> omega), World.cell?_alloc_past _ _ _ (by simp <;> omega), World.cell?_alloc_at _ _ _ _ (by simp)]; rfl)
  have a2 : (w.alloc (.cells #[.string id, .int .i64 prio, .bool crit, .int .i64 r0, .int .i64 r1, .int .i64 r2, .int .i64 l0, .int .i64 l1, .int .i64 l2, .string img, .int .i64 size] 24)).cell? ⟨w.heap.size, 2, none⟩ = some (.bool crit) := by first | (simp; done) | (rw [World.cell?_alloc_at _ _ _ _ (by simp)]; rfl) | (rw [World.cell?_alloc_past _ _ _ (by simp <;> omega), World.cell?_alloc_at _ _ _ _ (by simp)]; rfl) | (rw [World.cell?_alloc_past _ _ _ (by simp <;> omega), World.cell?_alloc_past _ _ _ (by simp <;> omega), World.cell?_alloc_at _ _ _ _ (by simp)]; rfl)
  have a3 : (w.alloc (.cells #[.string id, .int .i64 prio, .bool crit, .int .i64 r0, .int .i64 r1, .int .i64 r2, .int .i64 l0, .int .i64 l1, .int .i64 l2, .string img, .int .i64 size] 24)).cell? ⟨w.heap.size, 3, none⟩ = some (.int .i64 r0) := by first | (simp; done) | (rw [World.cell?_alloc_at _ _ _ _ (by simp)]; rfl) | (rw [World.cell?_alloc_past _ _ _ (by simp <;> omega), World.cell?_alloc_at _ _ _ _ (by simp)]; rfl) | (rw [World.cell?_alloc_past _ _ _ (by simp <;> omega), World.cell?_alloc_past _ _ _ (by simp <;> omega), World.cell?_alloc_at _ _ _ _ (by simp)]; rfl)
  have a4 : (w.alloc (.cells #[.string id, .int .i64 prio, .bool crit, .int .i64 r0, .int .i64 r1, .int .i64 r2, .int .i64 l0, .int .i64 l1, .int .i64 l2, .string img, .int .i64 size] 24)).cell? ⟨w.heap.size, 4, none⟩ = some (.int .i64 r1) := by first | (simp; done) | (rw [World.cell?_alloc_at _ _ _ _ (by simp)]; rfl) | (rw [World.cell?_alloc_past _ _ _ (by simp <;> omega), World.cell?_alloc_at _ _ _ _ (by simp)]; rfl) | (rw [World.cell?_alloc_past _ _ _ (by simp <;> omega), World.cell?_alloc_past _ _ _ (by simp <;> omega), World.cell?_alloc_at _ _ _ _ (by simp)]; rfl)
  have a5 : (w.alloc (.cells #[.string id, .int .i64 prio, .bool crit, .int .i64 r0, .int .i64 r1, .int .i64 r2, .int .i64 l0, .int .i64 l1, .int .i64 l2, .string img, .int .i64 size] 24)).cell? ⟨w.heap.size, 5, none⟩ = some (.int .i64 r2) := by first | (simp; done) | (rw [World.cell?_alloc_at _ _ _ _ (by simp)]; rfl) | (rw [World.cell?_alloc_past _ _ _ (by simp <;> omega), World.cell?_alloc_at _ _ _ _ (by simp)]; rfl) | (rw [World.cell?_alloc_past _ _ _ (by simp <;> omega), World.cell?_alloc_past _ _ _ (by simp <;> omega), World.cell?_alloc_at _ _ _ _ (by simp)]; rfl)
  have a6 : (w.alloc (.cells #[.string id, .int .i64 prio, .bool crit, .int .i64 r0, .int .i64 r1, .int .i64 r2, .int .i64 l0, .int .i64 l1, .int .i64 l2, .string img, .int .i64 size] 24)).cell? ⟨w.heap.size, 6, none⟩ = some (.int .i64 l0) := by first | (simp; done) | (rw [World.cell?_alloc_at _ _ _ _ (by simp)]; rfl) | (rw [World.cell?_alloc_past _ _ _ (by simp <;> omega), World.cell?_alloc_at _ _ _ _ (by simp)]; rfl) | (rw [World.cell?_alloc_past _ _ _ (by simp <;> omega), World.cell?_alloc_past _ _ _ (by simp <;> omega), World.cell?_alloc_at _ _ _ _ (by simp)]; rfl)
  have a7 : (w.alloc (.cells #[.string id, .int .i64 prio, .bool crit, .int .i64 r0, .int .i64 r1, .int .i64 r2, .int .i64 l0, .int .i64 l1, .int .i64 l2, .string img, .int .i64 size] 24)).cell? ⟨w.heap.size, 7, none⟩ = some (.int .i64 l1) := by first | (simp; done) | (rw [World.cell?_alloc_at _ _ _ _ (by simp)]; rfl) | (rw [World.cell?_alloc_past _ _ _ (by simp <;> omega), World.cell?_alloc_at _ _ _ _ (by simp)]; rfl) | (rw [World.cell?_alloc_past _ _ _ (by simp <;> omega), World.cell?_alloc_past _ _ _ (by simp <;> omega), World.cell?_alloc_at _ _ _ _ (by simp)]; rfl)
  have a8 : (w.alloc (.cells #[.string id, .int .i64 prio, .bool crit, .int .i64 r0, .int .i64 r1, .int .i64 r2, .int .i64 l0, .int .i64 l1, .int .i64 l2, .string img, .int .i64 size] 24)).cell? ⟨w.heap.size, 8, none⟩ = some (.int .i64 l2) := by first | (simp; done) | (rw [World.cell?_alloc_at _ _ _ _ (by simp)]; rfl) | (rw [World.cell?_alloc_past _ _ _ (by simp <;> omega), World.cell?_alloc_at _ _ _ _ (by simp)]; rfl) | (rw [World.cell?_alloc_past _ _ _ (by simp <;> omega), World.cell?_alloc_past _ _ _ (by simp <;> omega), World.cell?_alloc_at _ _ _ _ (by simp)]; rfl)
  have a9 : (w.alloc (.cells #[.string id, .int .i64 prio, .bool crit, .int .i64 r0, .int .i64 r1, .int .i64 r2, .int .i64 l0, .int .i64 l1, .int .i64 l2, .string img, .int .i64 size] 24)).cell? ⟨w.heap.size, 9, none⟩ = some (.string img) := by first | (simp; done) | (rw [World.cell?_alloc_at _ _ _ _ (by simp)]; rfl) | (rw [World.cell?_alloc_past _ _ _ (by simp <;> omega), World.cell?_alloc_at _ _ _ _ (by simp)]; rfl) | (rw [World.cell?_alloc_past _ _ _ (by simp <;> omega), World.cell?_alloc_past _ _ _ (by simp <;> omega), World.cell?_alloc_at _ _ _ _ (by simp)]; rfl)
  have a10 : (w.alloc (.cells #[.string id, .int .i64 prio, .bool crit, .int .i64 r0, .int .i64 r1, .int .i64 r2, .int .i64 l0, .int .i64 l1, .int .i64 l2, .string img, .int .i64 size] 24)).cell? ⟨w.heap.size, 10, none⟩ = some (.int .i64 size) := by first | (simp; done) | (rw [World.cell?_alloc_at _ _ _ _ (by simp)]; rfl) | (rw [World.cell?_alloc_past _ _ _ (by simp <;> omega), World.cell?_alloc_at _ _ _ _ (by simp)]; rfl) | (rw [World.cell?_alloc_past _ _ _ (by simp <;> omega), World.cell?_alloc_past _ _ _ (by simp <;> omega), World.cell?_alloc_at _ _ _ _ (by simp)]; rfl)
  have hb2 := (by repeat (first | exact hbel | refine belAlloc ?_ _ | refine belDrew ?_ | refine belSet ?_ _ _ (by simp)) : Below w.heap.size w (w.alloc (.cells #[.string id, .int .i64 prio, .bool crit, .int .i64 r0, .int .i64 r1, .int .i64 r2, .int .i64 l0, .int .i64 l1, .int .i64 l2, .string img, .int .i64 size] 24)))
  replace hw := belStep hw hb2
  clear hb2 hbel
  generalize w.alloc (.cells #[.string id, .int .i64 prio, .bool crit, .int .i64 r0, .int .i64 r1, .int .i64 r2, .int .i64 l0, .int .i64 l1, .int .i64 l2, .string img, .int .i64 size] 24) = W1 at *
  replace a0 := keep a0
  replace a1 := keep a1
  replace a2 := keep a2
  replace a3 := keep a3
  replace a4 := keep a4
  replace a5 := keep a5
  replace a6 := keep a6
  replace a7 := keep a7
  replace a8 := keep a8
  replace a9 := keep a9
  replace a10 := keep a10
  have hbel : Below W1.heap.size W1 W1 := Below.refl _ _
  skip
  rcases key with ⟨k1, rfl⟩ | ⟨k1, rfl, rfl⟩ | ⟨k1, rfl, rfl⟩ | ⟨k1, rfl, rfl⟩
  all_goals
    simp only [k1] at CC
    go_wp2_with (first | (go_at_call 29; (with_reducible refine (CC.out _).mono ?_); rintro e w1 ⟨rfl, hb1⟩; replace hbel := belStep hbel hb1; clear hb1) | (go_at_call 33; (with_reducible refine (CT.out _).mono ?_); rintro e w1 ⟨rfl, hb1⟩; replace hbel := belStep hbel hb1; clear hb1))
    all_goals
      go_ret
      exact ⟨ret_i64 (by first | rfl | omega | (rename_i q1 q2; first | rw [if_pos q2] at q1 | rw [if_neg q2] at q1; omega)), belStep hw hbel⟩

def nzb (r0 r1 r2 l0 l1 l2 : Int) : Nat → Bool
  | 0 => true
  | 1 => r0 == 0 && l0 == 0
  | 2 => (r0 == 0 && l0 == 0) && r1 == 0 && l1 == 0
  | _ => ((r0 == 0 && l0 == 0) && r1 == 0 && l1 == 0) && r2 == 0 && l2 == 0
theorem nzb_zeroes (r0 r1 r2 l0 l1 l2 : Int) : nzb r0 r1 r2 l0 l1 l2 3 = zeroes r0 r1 r2 l0 l1 l2 := by
  unfold nzb zeroes
  cases (r0 == 0) <;> cases (r1 == 0) <;> cases (r2 == 0) <;> cases (l0 == 0) <;> cases (l1 == 0) <;> cases (l2 == 0) <;> rfl

set_option maxHeartbeats 4000000 in
theorem qref_Class (id : ByteArray) (prio : Int) (crit : Bool) (r0 r1 r2 l0 l1 l2 : Int) (img : ByteArray) (size : Int) (w : World) :
    Calls Try.prog 31 #[.agg #[.string id, .int .i64 prio, .bool crit, .int .i64 r0, .int .i64 r1, .int .i64 r2, .int .i64 l0, .int .i64 l1, .int .i64 l2, .string img, .int .i64 size]] w fun e w' => e = .returned (.int .i64 (classI r0 r1 r2 l0 l1 l2)) ∧ Below w.heap.size w w' := by
  have hw : Below w.heap.size w w := Below.refl _ _
  have hbel := hw
  have hz := nzb_zeroes r0 r1 r2 l0 l1 l2
  go_enter Try.func31, Try.ntmps31
  go_upto_region 1 with fail
  have a0 : (w.alloc (.cells #[.string id, .int .i64 prio, .bool crit, .int .i64 r0, .int .i64 r1, .int .i64 r2, .int .i64 l0, .int .i64 l1, .int .i64 l2, .string img, .int .i64 size] 24)).cell? ⟨w.heap.size, 0, none⟩ = some (.string id) := by first | (simp; done) | (rw [World.cell?_alloc_at _ _ _ _ (by simp)]; rfl) | (rw [World.cell?_alloc_past _ _ _ (by simp <;> omega), World.cell?_alloc_at _ _ _ _ (by simp)]; rfl) | (rw [World.cell?_alloc_past _ _ _ (by simp <;> omega), World.cell?_alloc_past _ _ _ (by simp <;> omega), World.cell?_alloc_at _ _ _ _ (by simp)]; rfl)
  have a1 : (w.alloc (.cells #[.string id, .int .i64 prio, .bool crit, .int .i64 r0, .int .i64 r1, .int .i64 r2, .int .i64 l0, .int .i64 l1, .int .i64 l2, .string img, .int .i64 size] 24)).cell? ⟨w.heap.size, 1, none⟩ = some (.int .i64 prio) := by first | (simp; done) | (rw [World.cell?_alloc_at _ _ _ _ (by simp)]; rfl) | (rw [World.cell?_alloc_past _ _ _ (by simp <;> omega), World.cell?_alloc_at _ _ _ _ (by simp)]; rfl) | (rw [World.cell?_alloc_past _ _ _ (by simp <;> omega), World.cell?_alloc_past _ _ _ (by simp <;> omega), World.cell?_alloc_at _ _ _ _ (by simp)]; rfl)
  have a2 : (w.alloc (.cells #[.string id, .int .i64 prio, .bool crit, .int .i64 r0, .int .i64 r1, .int .i64 r2, .int .i64 l0, .int .i64 l1, .int .i64 l2, .string img, .int .i64 size] 24)).cell? ⟨w.heap.size, 2, none⟩ = some (.bool crit) := by first | (simp; done) | (rw [World.cell?_alloc_at _ _ _ _ (by simp)]; rfl) | (rw [World.cell?_alloc_past _ _ _ (by simp <;> omega), World.cell?_alloc_at _ _ _ _ (by simp)]; rfl) | (rw [World.cell?_alloc_past _ _ _ (by simp <;> omega), World.cell?_alloc_past _ _ _ (by simp <;> omega), World.cell?_alloc_at _ _ _ _ (by simp)]; rfl)
  have a3 : (w.alloc (.cells #[.string id, .int .i64 prio, .bool crit, .int .i64 r0, .int .i64 r1, .int .i64 r2, .int .i64 l0, .int .i64 l1, .int .i64 l2, .string img, .int .i64 size] 24)).cell? ⟨w.heap.size, 3, none⟩ = some (.int .i64 r0) := by first | (simp; done) | (rw [World.cell?_alloc_at _ _ _ _ (by simp)]; rfl) | (rw [World.cell?_alloc_past _ _ _ (by simp <;> omega), World.cell?_alloc_at _ _ _ _ (by simp)]; rfl) | (rw [World.cell?_alloc_past _ _ _ (by simp <;> omega), World.cell?_alloc_past _ _ _ (by simp <;> omega), World.cell?_alloc_at _ _ _ _ (by simp)]; rfl)
  have a4 : (w.alloc (.cells #[.string id, .int .i64 prio, .bool crit, .int .i64 r0, .int .i64 r1, .int .i64 r2, .int .i64 l0, .int .i64 l1, .int .i64 l2, .string img, .int .i64 size] 24)).cell? ⟨w.heap.size, 4, none⟩ = some (.int .i64 r1) := by first | (simp; done) | (rw [World.cell?_alloc_at _ _ _ _ (by simp)]; rfl) | (rw [World.cell?_alloc_past _ _ _ (by simp <;> omega), World.cell?_alloc_at _ _ _ _ (by simp)]; rfl) | (rw [World.cell?_alloc_past _ _ _ (by simp <;> omega), World.cell?_alloc_past _ _ _ (by simp <;> omega), World.cell?_alloc_at _ _ _ _ (by simp)]; rfl)
  have a5 : (w.alloc (.cells #[.string id, .int .i64 prio, .bool crit, .int .i64 r0, .int .i64 r1, .int .i64 r2, .int .i64 l0, .int .i64 l1, .int .i64 l2, .string img, .int .i64 size] 24)).cell? ⟨w.heap.size, 5, none⟩ = some (.int .i64 r2) := by first | (simp; done) | (rw [World.cell?_alloc_at _ _ _ _ (by simp)]; rfl) | (rw [World.cell?_alloc_past _ _ _ (by simp <;> omega), World.cell?_alloc_at _ _ _ _ (by simp)]; rfl) | (rw [World.cell?_alloc_past _ _ _ (by simp <;> omega), World.cell?_alloc_past _ _ _ (by simp <;> omega), World.cell?_alloc_at _ _ _ _ (by simp)]; rfl)
  have a6 : (w.alloc (.cells #[.string id, .int .i64 prio, .bool crit, .int .i64 r0, .int .i64 r1, .int .i64 r2, .int .i64 l0, .int .i64 l1, .int .i64 l2, .string img, .int .i64 size] 24)).cell? ⟨w.heap.size, 6, none⟩ = some (.int .i64 l0) := by first | (simp; done) | (rw [World.cell?_alloc_at _ _ _ _ (by simp)]; rfl) | (rw [World.cell?_alloc_past _ _ _ (by simp <;> omega), World.cell?_alloc_at _ _ _ _ (by simp)]; rfl) | (rw [World.cell?_alloc_past _ _ _ (by simp <;> omega), World.cell?_alloc_past _ _ _ (by simp <;> omega), World.cell?_alloc_at _ _ _ _ (by simp)]; rfl)
  have a7 : (w.alloc (.cells #[.string id, .int .i64 prio, .bool crit, .int .i64 r0, .int .i64 r1, .int .i64 r2, .int .i64 l0, .int .i64 l1, .int .i64 l2, .string img, .int .i64 size] 24)).cell? ⟨w.heap.size, 7, none⟩ = some (.int .i64 l1) := by first | (simp; done) | (rw [World.cell?_alloc_at _ _ _ _ (by simp)]; rfl) | (rw [World.cell?_alloc_past _ _ _ (by simp <;> omega), World.cell?_alloc_at _ _ _ _ (by simp)]; rfl) | (rw [World.cell?_alloc_past _ _ _ (by simp <;> omega), World.cell?_alloc_past _ _ _ (by simp <;> omega), World.cell?_alloc_at _ _ _ _ (by simp)]; rfl)
  have a8 : (w.alloc (.cells #[.string id, .int .i64 prio, .bool crit, .int .i64 r0, .int .i64 r1, .int .i64 r2, .int .i64 l0, .int .i64 l1, .int .i64 l2, .string img, .int .i64 size] 24)).cell? ⟨w.heap.size, 8, none⟩ = some (.int .i64 l2) := by first | (simp; done) | (rw [World.cell?_alloc_at _ _ _ _ (by simp)]; rfl) | (rw [World.cell?_alloc_past _ _ _ (by simp <;> omega), World.cell?_alloc_at _ _ _ _ (by simp)]; rfl) | (rw [World.cell?_alloc_past _ _ _ (by simp <;> omega), World.cell?_alloc_past _ _ _ (by simp <;> omega), World.cell?_alloc_at _ _ _ _ (by simp)]; rfl)
  have a9 : (w.alloc (.cells #[.string id, .int .i64 prio, .bool crit, .int .i64 r0, .int .i64 r1, .int .i64 r2, .int .i64 l0, .int .i64 l1, .int .i64 l2, .string img, .int .i64 size] 24)).cell? ⟨w.heap.size, 9, none⟩ = some (.string img) := by first | (simp; done) | (rw [World.cell?_alloc_at _ _ _ _ (by simp)]; rfl) | (rw [World.cell?_alloc_past _ _ _ (by simp <;> omega), World.cell?_alloc_at _ _ _ _ (by simp)]; rfl) | (rw [World.cell?_alloc_past _ _ _ (by simp <;> omega), World.cell?_alloc_past _ _ _ (by simp <;> omega), World.cell?_alloc_at _ _ _ _ (by simp)]; rfl)
  have a10 : (w.alloc (.cells #[.string id, .int .i64 prio, .bool crit, .int .i64 r0, .int .i64 r1, .int .i64 r2, .int .i64 l0, .int .i64 l1, .int .i64 l2, .string img, .int .i64 size] 24)).cell? ⟨w.heap.size, 10, none⟩ = some (.int .i64 size) := by first | (simp; done) | (rw [World.cell?_alloc_at _ _ _ _ (by simp)]; rfl) | (rw [World.cell?_alloc_past _ _ _ (by simp <;> omega), World.cell?_alloc_at _ _ _ _ (by simp)]; rfl) | (rw [World.cell?_alloc_past _ _ _ (by simp <;> omega), World.cell?_alloc_past _ _ _ (by simp <;> omega), World.cell?_alloc_at _ _ _ _ (by simp)]; rfl)
  have hb2 := (by repeat (first | exact hbel | refine belAlloc ?_ _ | refine belDrew ?_ | refine belSet ?_ _ _ (by simp)) : Below w.heap.size w (w.alloc (.cells #[.string id, .int .i64 prio, .bool crit, .int .i64 r0, .int .i64 r1, .int .i64 r2, .int .i64 l0, .int .i64 l1, .int .i64 l2, .string img, .int .i64 size] 24)))
  replace hw := belStep hw hb2
  clear hb2 hbel
  generalize w.alloc (.cells #[.string id, .int .i64 prio, .bool crit, .int .i64 r0, .int .i64 r1, .int .i64 r2, .int .i64 l0, .int .i64 l1, .int .i64 l2, .string img, .int .i64 size] 24) = W1 at *
  replace a0 := keep a0
  replace a1 := keep a1
  replace a2 := keep a2
  replace a3 := keep a3
  replace a4 := keep a4
  replace a5 := keep a5
  replace a6 := keep a6
  replace a7 := keep a7
  replace a8 := keep a8
  replace a9 := keep a9
  replace a10 := keep a10
  have hbel : Below W1.heap.size W1 W1 := Below.refl _ _
  skip
  go_wp2
  go_loopw [3, 4] (fun n i wr => ∃ k : Nat, k ≤ 3 ∧ i = .int .i64 k ∧ n = .bool (nzb r0 r1 r2 l0 l1 l2 k) ∧ W1 = wr) (fun _ i _ => 3 - (intOf i).toNat)
  case atStart => exact ⟨0, by omega, rfl, rfl, rfl⟩
  case round =>
    obtain ⟨k, hk, rfl, rfl, rfl⟩ := hrel
    by_cases hlt : k < 3
    · obtain ⟨n0, en⟩ : ∃ y, nzb r0 r1 r2 l0 l1 l2 k = y := ⟨_, rfl⟩
      have key3 : ∃ (r l : Int), ((k = 0 ∧ r = r0 ∧ l = l0) ∨ (k = 1 ∧ r = r1 ∧ l = l1) ∨ (k = 2 ∧ r = r2 ∧ l = l2)) ∧ nzb r0 r1 r2 l0 l1 l2 (k + 1) = (nzb r0 r1 r2 l0 l1 l2 k && r == 0 && l == 0) := by
        match k, hlt with
        | 0, _ => exact ⟨r0, l0, .inl ⟨rfl, rfl, rfl⟩, by simp [nzb]⟩
        | 1, _ => exact ⟨r1, l1, .inr (.inl ⟨rfl, rfl, rfl⟩), rfl⟩
        | 2, _ => exact ⟨r2, l2, .inr (.inr ⟨rfl, rfl, rfl⟩), rfl⟩
      obtain ⟨r, l, hcase, hnext⟩ := key3
      rw [en] at hnext
      simp only [en]
      have x3 : ∀ v, Below W1.heap.size W1 v → v.cell? ⟨w.heap.size, 3 + k, none⟩ = some (.int .i64 r) := by rcases hcase with ⟨rfl, rfl, rfl⟩ | ⟨rfl, rfl, rfl⟩ | ⟨rfl, rfl, rfl⟩ <;> assumption
      have x6 : ∀ v, Below W1.heap.size W1 v → v.cell? ⟨w.heap.size, 6 + k, none⟩ = some (.int .i64 l) := by rcases hcase with ⟨rfl, rfl, rfl⟩ | ⟨rfl, rfl, rfl⟩ | ⟨rfl, rfl, rfl⟩ <;> assumption
      have HN := Lib.hid hnext
      clear hnext en hcase
      obtain ⟨rb, er⟩ : ∃ y, (r == 0) = y := ⟨_, rfl⟩
      obtain ⟨lb, el'⟩ : ∃ y, (l == 0) = y := ⟨_, rfl⟩
      have HE := Lib.hid (And.intro er el')
      cases n0 <;> cases rb <;> cases lb
      all_goals
        go_wp2
        go_roundw
        case rel => exact ⟨k + 1, by omega, by push_cast; rfl, by rw [HN.out, HE.out.1, HE.out.2]; rfl, by first | rfl | trivial⟩
        case measure => simp [intOf] <;> omega
    · obtain rfl : k = 3 := by omega
      simp only [hz]
      have key : (zeroes r0 r1 r2 l0 l1 l2 = true ∧ classI r0 r1 r2 l0 l1 l2 = 3) ∨
         (zeroes r0 r1 r2 l0 l1 l2 = false ∧ ¬ 0 < l0 ∧ classI r0 r1 r2 l0 l1 l2 = 2) ∨
         (zeroes r0 r1 r2 l0 l1 l2 = false ∧ 0 < l0 ∧ (l0 == r0) = false ∧ classI r0 r1 r2 l0 l1 l2 = 2) ∨
         (zeroes r0 r1 r2 l0 l1 l2 = false ∧ 0 < l0 ∧ (l0 == r0) = true ∧ ¬ 0 < l1 ∧ classI r0 r1 r2 l0 l1 l2 = 2) ∨
         (zeroes r0 r1 r2 l0 l1 l2 = false ∧ 0 < l0 ∧ (l0 == r0) = true ∧ 0 < l1 ∧ (l1 == r1) = false ∧ classI r0 r1 r2 l0 l1 l2 = 2) ∨
         (zeroes r0 r1 r2 l0 l1 l2 = false ∧ 0 < l0 ∧ (l0 == r0) = true ∧ 0 < l1 ∧ (l1 == r1) = true ∧ classI r0 r1 r2 l0 l1 l2 = 1) := by
        unfold classI bnd
        by_cases q0 : 0 < l0 <;> by_cases q1 : 0 < l1 <;> cases (l0 == r0) <;> cases (l1 == r1) <;> cases zeroes r0 r1 r2 l0 l1 l2 <;> simp [q0, q1]
      clear hz
      rcases key with ⟨k1, k6⟩ | ⟨k1, k2, k6⟩ | ⟨k1, k2, k3, k6⟩ | ⟨k1, k2, k3, k4, k6⟩ | ⟨k1, k2, k3, k4, k5, k6⟩ | ⟨k1, k2, k3, k4, k5, k6⟩
      all_goals
        simp only [k1]
        clear k1
        go_wp2
        go_ret
        exact ⟨ret_i64 (by first | exact k6.symm | rfl), hw⟩

set_option maxHeartbeats 4000000 in
theorem qref_Score (id : ByteArray) (prio : Int) (crit : Bool) (r0 r1 r2 l0 l1 l2 : Int) (img : ByteArray) (size : Int) (mem : Int) (w : World) (hr : 0 ≤ r1) (ir : InI r1) (hm : 1 ≤ mem) (im : InI mem) :
    Calls Try.prog 32 #[.agg #[.string id, .int .i64 prio, .bool crit, .int .i64 r0, .int .i64 r1, .int .i64 r2, .int .i64 l0, .int .i64 l1, .int .i64 l2, .string img, .int .i64 size], .int .i64 mem] w fun e w' => e = .returned (.int .i64 (scoreI crit (classI r0 r1 r2 l0 l1 l2) r1 mem)) ∧ Below w.heap.size w w' := by
  have hw : Below w.heap.size w w := Below.refl _ _
  have hbel := hw
  have bd := thouI_bd r1 mem hr hm
  have cc := fun v => qref_Class id prio crit r0 r1 r2 l0 l1 l2 img size v
  have ct := fun v => qref_Thousandths r1 mem v hr ir hm im
  have hc := classI_cases r0 r1 r2 l0 l1 l2
  generalize classI r0 r1 r2 l0 l1 l2 = c at *
  obtain ⟨th, et⟩ : ∃ y, thouI r1 mem = y := ⟨_, rfl⟩
  have key : (crit = true ∧ scoreI crit c r1 mem = 0) ∨ (crit = false ∧ c = 1 ∧ scoreI crit c r1 mem = 0) ∨ (crit = false ∧ c = 3 ∧ scoreI crit c r1 mem = 1000) ∨ (crit = false ∧ c = 2 ∧ scoreI crit c r1 mem = min (max (1000 - th) 2) 999) := by
    unfold scoreI
    rcases hc with rfl | rfl | rfl <;> cases crit <;> simp [et]
  rw [et] at ct bd
  obtain ⟨sc, es⟩ : ∃ y, scoreI crit c r1 mem = y := ⟨_, rfl⟩
  rw [es] at key ⊢
  clear es et hc hr ir hm im
  have CC := Lib.hid cc
  have CT := Lib.hid ct
  clear cc ct
  go_enter Try.func32, Try.ntmps32
  go_upto_region 1 with fail
  have a0 : (w.alloc (.cells #[.string id, .int .i64 prio, .bool crit, .int .i64 r0, .int .i64 r1, .int .i64 r2, .int .i64 l0, .int .i64 l1, .int .i64 l2, .string img, .int .i64 size] 24)).cell? ⟨w.heap.size, 0, none⟩ = some (.string id) := by first | (simp; done) | (rw [World.cell?_alloc_at _ _ _ _ (by simp)]; rfl) | (rw [World.cell?_alloc_past _ _ _ (by simp <;> omega), World.cell?_alloc_at _ _ _ _ (by simp)]; rfl) | (rw [World.cell?_alloc_past _ _ _ (by simp <;> omega), World.cell?_alloc_past _ _ _ (by simp <;> omega), World.cell?_alloc_at _ _ _ _ (by simp)]; rfl)
  have a1 : (w.alloc (.cells #[.string id, .int .i64 prio, .bool crit, .int .i64 r0, .int .i64 r1, .int .i64 r2, .int .i64 l0, .int .i64 l1, .int .i64 l2, .string img, .int .i64 size] 24)).cell? ⟨w.heap.size, 1, none⟩ = some (.int .i64 prio) := by first | (simp; done) | (rw [World.cell?_alloc_at _ _ _ _ (by simp)]; rfl) | (rw [World.cell?_alloc_past _ _ _ (by simp <;> omega), World.cell?_alloc_at _ _ _ _ (by simp)]; rfl) | (rw [World.cell?_alloc_past _ _ _ (by simp <;> omega), World.cell?_alloc_past _ _ _ (by simp <;> omega), World.cell?_alloc_at _ _ _ _ (by simp)]; rfl)
  have a2 : (w.alloc (.cells #[.string id, .int .i64 prio, .bool crit, .int .i64 r0, .int .i64 r1, .int .i64 r2, .int .i64 l0, .int .i64 l1, .int .i64 l2, .string img, .int .i64 size] 24)).cell? ⟨w.heap.size, 2, none⟩ = some (.bool crit) := by first | (simp; done) | (rw [World.cell?_alloc_at _ _ _ _ (by simp)]; rfl) | (rw [World.cell?_alloc_past _ _ _ (by simp <;> omega), World.cell?_alloc_at _ _ _ _ (by simp)]; rfl) | (rw [World.cell?_alloc_past _ _ _ (by simp <;> omega), World.cell?_alloc_past _ _ _ (by simp <;> omega), World.cell?_alloc_at _ _ _ _ (by simp)]; rfl)
  have a3 : (w.alloc (.cells #[.string id, .int .i64 prio, .bool crit, .int .i64 r0, .int .i64 r1, .int .i64 r2, .int .i64 l0, .int .i64 l1, .int .i64 l2, .string img, .int .i64 size] 24)).cell? ⟨w.heap.size, 3, none⟩ = some (.int .i64 r0) := by first | (simp; done) | (rw [World.cell?_alloc_at _ _ _ _ (by simp)]; rfl) | (rw [World.cell?_alloc_past _ _ _ (by simp <;> omega), World.cell?_alloc_at _ _ _ _ (by simp)]; rfl) | (rw [World.cell?_alloc_past _ _ _ (by simp <;> omega), World.cell?_alloc_past _ _ _ (by simp <;> omega), World.cell?_alloc_at _ _ _ _ (by simp)]; rfl)
  have a4 : (w.alloc (.cells #[.string id, .int .i64 prio, .bool crit, .int .i64 r0, .int .i64 r1, .int .i64 r2, .int .i64 l0, .int .i64 l1, .int .i64 l2, .string img, .int .i64 size] 24)).cell? ⟨w.heap.size, 4, none⟩ = some (.int .i64 r1) := by first | (simp; done) | (rw [World.cell?_alloc_at _ _ _ _ (by simp)]; rfl) | (rw [World.cell?_alloc_past _ _ _ (by simp <;> omega), World.cell?_alloc_at _ _ _ _ (by simp)]; rfl) | (rw [World.cell?_alloc_past _ _ _ (by simp <;> omega), World.cell?_alloc_past _ _ _ (by simp <;> omega), World.cell?_alloc_at _ _ _ _ (by simp)]; rfl)
  have a5 : (w.alloc (.cells #[.string id, .int .i64 prio, .bool crit, .int .i64 r0, .int .i64 r1, .int .i64 r2, .int .i64 l0, .int .i64 l1, .int .i64 l2, .string img, .int .i64 size] 24)).cell? ⟨w.heap.size, 5, none⟩ = some (.int .i64 r2) := by first | (simp; done) | (rw [World.cell?_alloc_at _ _ _ _ (by simp)]; rfl) | (rw [World.cell?_alloc_past _ _ _ (by simp <;> omega), World.cell?_alloc_at _ _ _ _ (by simp)]; rfl) | (rw [World.cell?_alloc_past _ _ _ (by simp <;> omega), World.cell?_alloc_past _ _ _ (by simp <;> omega), World.cell?_alloc_at _ _ _ _ (by simp)]; rfl)
  have a6 : (w.alloc (.cells #[.string id, .int .i64 prio, .bool crit, .int .i64 r0, .int .i64 r1, .int .i64 r2, .int .i64 l0, .int .i64 l1, .int .i64 l2, .string img, .int .i64 size] 24)).cell? ⟨w.heap.size, 6, none⟩ = some (.int .i64 l0) := by first | (simp; done) | (rw [World.cell?_alloc_at _ _ _ _ (by simp)]; rfl) | (rw [World.cell?_alloc_past _ _ _ (by simp <;> omega), World.cell?_alloc_at _ _ _ _ (by simp)]; rfl) | (rw [World.cell?_alloc_past _ _ _ (by simp <;> omega), World.cell?_alloc_past _ _ _ (by simp <;> omega), World.cell?_alloc_at _ _ _ _ (by simp)]; rfl)
  have a7 : (w.alloc (.cells #[.string id, .int .i64 prio, .bool crit, .int .i64 r0, .int .i64 r1, .int .i64 r2, .int .i64 l0, .int .i64 l1, .int .i64 l2, .string img, .int .i64 size] 24)).cell? ⟨w.heap.size, 7, none⟩ = some (.int .i64 l1) := by first | (simp; done) | (rw [World.cell?_alloc_at _ _ _ _ (by simp)]; rfl) | (rw [World.cell?_alloc_past _ _ _ (by simp <;> omega), World.cell?_alloc_at _ _ _ _ (by simp)]; rfl) | (rw [World.cell?_alloc_past _ _ _ (by simp <;> omega), World.cell?_alloc_past _ _ _ (by simp <;> omega), World.cell?_alloc_at _ _ _ _ (by simp)]; rfl)
  have a8 : (w.alloc (.cells #[.string id, .int .i64 prio, .bool crit, .int .i64 r0, .int .i64 r1, .int .i64 r2, .int .i64 l0, .int .i64 l1, .int .i64 l2, .string img, .int .i64 size] 24)).cell? ⟨w.heap.size, 8, none⟩ = some (.int .i64 l2) := by first | (simp; done) | (rw [World.cell?_alloc_at _ _ _ _ (by simp)]; rfl) | (rw [World.cell?_alloc_past _ _ _ (by simp <;> omega), World.cell?_alloc_at _ _ _ _ (by simp)]; rfl) | (rw [World.cell?_alloc_past _ _ _ (by simp <;> omega), World.cell?_alloc_past _ _ _ (by simp <;> omega), World.cell?_alloc_at _ _ _ _ (by simp)]; rfl)
  have a9 : (w.alloc (.cells #[.string id, .int .i64 prio, .bool crit, .int .i64 r0, .int .i64 r1, .int .i64 r2, .int .i64 l0, .int .i64 l1, .int .i64 l2, .string img, .int .i64 size] 24)).cell? ⟨w.heap.size, 9, none⟩ = some (.string img) := by first | (simp; done) | (rw [World.cell?_alloc_at _ _ _ _ (by simp)]; rfl) | (rw [World.cell?_alloc_past _ _ _ (by simp <;> omega), World.cell?_alloc_at _ _ _ _ (by simp)]; rfl) | (rw [World.cell?_alloc_past _ _ _ (by simp <;> omega), World.cell?_alloc_past _ _ _ (by simp <;> omega), World.cell?_alloc_at _ _ _ _ (by simp)]; rfl)
  have a10 : (w.alloc (.cells #[.string id, .int .i64 prio, .bool crit, .int .i64 r0, .int .i64 r1, .int .i64 r2, .int .i64 l0, .int .i64 l1, .int .i64 l2, .string img, .int .i64 size] 24)).cell? ⟨w.heap.size, 10, none⟩ = some (.int .i64 size) := by first | (simp; done) | (rw [World.cell?_alloc_at _ _ _ _ (by simp)]; rfl) | (rw [World.cell?_alloc_past _ _ _ (by simp <;> omega), World.cell?_alloc_at _ _ _ _ (by simp)]; rfl) | (rw [World.cell?_alloc_past _ _ _ (by simp <;> omega), World.cell?_alloc_past _ _ _ (by simp <;> omega), World.cell?_alloc_at _ _ _ _ (by simp)]; rfl)
  have hb2 := (by repeat (first | exact hbel | refine belAlloc ?_ _ | refine belDrew ?_ | refine belSet ?_ _ _ (by simp)) : Below w.heap.size w (w.alloc (.cells #[.string id, .int .i64 prio, .bool crit, .int .i64 r0, .int .i64 r1, .int .i64 r2, .int .i64 l0, .int .i64 l1, .int .i64 l2, .string img, .int .i64 size] 24)))
  replace hw := belStep hw hb2
  clear hb2 hbel
  generalize w.alloc (.cells #[.string id, .int .i64 prio, .bool crit, .int .i64 r0, .int .i64 r1, .int .i64 r2, .int .i64 l0, .int .i64 l1, .int .i64 l2, .string img, .int .i64 size] 24) = W1 at *
  replace a0 := keep a0
  replace a1 := keep a1
  replace a2 := keep a2
  replace a3 := keep a3
  replace a4 := keep a4
  replace a5 := keep a5
  replace a6 := keep a6
  replace a7 := keep a7
  replace a8 := keep a8
  replace a9 := keep a9
  replace a10 := keep a10
  have hbel : Below W1.heap.size W1 W1 := Below.refl _ _
  skip
  rcases key with ⟨k1, rfl⟩ | ⟨k1, rfl, rfl⟩ | ⟨k1, rfl, rfl⟩ | ⟨k1, rfl, rfl⟩
  all_goals
    simp only [k1] at CC
    go_wp2_with (first | (go_at_call 31; (with_reducible refine (CC.out _).mono ?_); rintro e w1 ⟨rfl, hb1⟩; replace hbel := belStep hbel hb1; clear hb1) | (go_at_call 34; (with_reducible refine (CT.out _).mono ?_); rintro e w' ⟨rfl, rfl⟩))
    all_goals
      go_ret
      exact ⟨ret_i64 (by first | rfl | omega | (rename_i q1 q2; first | rw [if_pos q2] at q1 | rw [if_neg q2] at q1; omega)), belStep hw hbel⟩
end Go.Proofs.Ytnfblpiapendeaa
