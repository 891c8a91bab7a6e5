
/- bilgelaw20.awake: contract. -/
import Derived.Test.YtcgpmihjodolmaaRk5
namespace Go.Proofs.Ytcgpmihjodolmaa
open Go.RowKit
set_option linter.unusedVariables false
set_option linter.unusedSimpArgs false
def rPA : PodV := ⟨⟨#[97]⟩, 0, false, 1, 5, 1, 0, 0, 0, ⟨#[120]⟩, 0⟩
def rPB : PodV := ⟨⟨#[98]⟩, -1, false, 1, 9, 1, 0, 0, 0, ⟨#[120]⟩, 0⟩
def rPC : PodV := ⟨⟨#[99]⟩, 0, true, 0, 0, 0, 0, 0, 0, ⟨#[120]⟩, 0⟩
def rT : List EntV := [⟨rPA, 2⟩, ⟨rPB, 1⟩, ⟨rPC, 2⟩]
def rU : List UseV := [⟨⟨#[97]⟩, 8, 0, 0⟩, ⟨⟨#[98]⟩, 9, 0, 2⟩]
theorem rP_ok (p : PodV) (h : p = rPA ∨ p = rPB ∨ p = rPC) : p.ok := by
  have h1 : (1 : Nat) ≤ 9223372036854775807 := by omega
  rcases h with rfl | rfl | rfl <;> (unfold PodV.ok InI maxLen; exact ⟨h1, h1, by decide, by decide, by decide, by decide, by decide, by decide, by decide, by decide⟩)
theorem rT_mem {x : EntV} (h : x ∈ rT) : x = ⟨rPA, 2⟩ ∨ x = ⟨rPB, 1⟩ ∨ x = ⟨rPC, 2⟩ := by simpa [rT] using h
theorem rT_ok : ∀ x ∈ rT, x.ok := by
  intro x hx
  rcases rT_mem hx with rfl | rfl | rfl
  · exact ⟨rP_ok _ (by simp), by unfold InI; decide⟩
  · exact ⟨rP_ok _ (by simp), by unfold InI; decide⟩
  · exact ⟨rP_ok _ (by simp), by unfold InI; decide⟩
theorem rP_right : rightB rPA = true ∧ rightB rPB = true ∧ rightB rPC = true := ⟨by decide +kernel, by decide +kernel, by decide +kernel⟩
theorem rT_tab : TabOK rT := by
  refine ⟨by decide, fun x hx => ?_, ?_⟩
  · rcases rT_mem hx with rfl | rfl | rfl
    · exact ⟨rP_right.1, by decide, by decide⟩
    · exact ⟨rP_right.2.1, by decide, by decide⟩
    · exact ⟨rP_right.2.2, by decide, by decide⟩
  · unfold Dist podsOf rT
    have ne : ∀ {s t : ByteArray}, (s.toList == t.toList) = false → s ≠ t := fun h e => by rw [e, beq_self_eq_true] at h; cases h
    simp only [List.map_cons, List.map_nil, List.pairwise_cons, List.mem_cons, List.mem_nil_iff, or_false, forall_eq_or_imp, forall_eq, false_implies, implies_true, List.Pairwise.nil, and_true]
    exact ⟨⟨ne (by decide +kernel), ne (by decide +kernel)⟩, ne (by decide +kernel)⟩
theorem tab_nil : TabOK [] := ⟨by decide, (fun x hx => by cases hx), List.Pairwise.nil⟩
theorem rU_ok : ∀ u ∈ rU, UseOK u := by
  intro u hu
  simp only [rU, List.mem_cons, List.not_mem_nil, or_false] at hu
  rcases hu with rfl | rfl <;> exact ⟨⟨by decide, by decide⟩, ⟨by decide, by decide⟩, ⟨by decide, by decide⟩⟩
theorem two_sorted {x y : KeyV} (h : ltOf cfK y x = false) (hd : Tied (ltOf cfK) [x, y]) : sortK [x, y] = [x, y] := (sortBy_unique swo_cfK hd (List.Perm.refl _) (by simp [h])).symm
theorem two_turned {x y : KeyV} (h : ltOf cfK x y = false) (hd : Tied (ltOf cfK) [x, y]) : sortK [x, y] = [y, x] := (sortBy_unique swo_cfK hd (List.Perm.swap _ _ _) (by simp [h])).symm
theorem keys_rT (g : Nat) : keysF g rT rU = [keyF g rPA rU, keyF g rPB rU] := rfl
theorem ord0 : orderF 0 rT rU = [⟨#[97]⟩, ⟨#[98]⟩] := by
  unfold orderF
  have hd := keys_tied (g := 0) (U := rU) rT_tab.dist
  rw [keys_rT] at hd ⊢
  rw [two_sorted (by decide +kernel) hd]; rfl
theorem ord1 : orderF 1 rT rU = [⟨#[98]⟩, ⟨#[97]⟩] := by
  unfold orderF
  have hd := keys_tied (g := 1) (U := rU) rT_tab.dist
  rw [keys_rT] at hd ⊢
  rw [two_turned (by decide +kernel) hd]; rfl
theorem ord2 : orderF 2 rT rU = [⟨#[98]⟩, ⟨#[97]⟩] := by
  unfold orderF
  have hd := keys_tied (g := 2) (U := rU) rT_tab.dist
  rw [keys_rT] at hd ⊢
  rw [two_turned (by decide +kernel) hd]; rfl
theorem ordn : orderF 2 [] rU = [] := by
  unfold orderF sortK
  rw [show keysF 2 [] rU = [] from rfl, sortBy_nil]; rfl
theorem ah1 : aheadB 0 rPA rPB rU = true := by decide +kernel
theorem ah2 : aheadB 0 rPB rPA rU = false := by decide +kernel
set_option maxRecDepth 100000 in
set_option maxHeartbeats 16000000 in
theorem awake20 (w : World) :
    Calls Try.prog 35 #[] w fun e w' => e = .returned (.bool true) ∧ Below w.heap.size w w' := by
  have hw : Below w.heap.size w w := Below.refl _ _
  have hbel := hw
  go_enter Try.func35, Try.ntmps35
  go_upto_region 2 with fail
  have pa0 : (w.alloc (.cells #[.string ⟨#[97]⟩, .int .i64 0, .bool false, .int .i64 1, .int .i64 5, .int .i64 1, .int .i64 0, .int .i64 0, .int .i64 0, .string ⟨#[120]⟩, .int .i64 0] 62)).cell? ⟨w.heap.size, 0, none⟩ = some (.string ⟨#[97]⟩) := by first | (simp; done) | (rw [World.cell?_alloc_at _ _ _ _ (by simp)]; rfl) | (rw [World.cell?_alloc_past _ _ _ (by simp <;> omega), World.cell?_alloc_at _ _ _ _ (by simp)]; rfl) | (rw [World.cell?_alloc_past _ _ _ (by simp <;> omega), World.cell?_alloc_past _ _ _ (by simp <;> omega), World.cell?_alloc_at _ _ _ _ (by simp)]; rfl)
  have pa1 : (w.alloc (.cells #[.string ⟨#[97]⟩, .int .i64 0, .bool false, .int .i64 1, .int .i64 5, .int .i64 1, .int .i64 0, .int .i64 0, .int .i64 0, .string ⟨#[120]⟩, .int .i64 0] 62)).cell? ⟨w.heap.size, 1, none⟩ = some (.int .i64 0) := by first | (simp; done) | (rw [World.cell?_alloc_at _ _ _ _ (by simp)]; rfl) | (rw [World.cell?_alloc_past _ _ _ (by simp <;> omega), World.cell?_alloc_at _ _ _ _ (by simp)]; rfl) | (rw [World.cell?_alloc_past _ _ _ (by simp <;> omega), World.cell?_alloc_past _ _ _ (by simp <;> omega), World.cell?_alloc_at _ _ _ _ (by simp)]; rfl)
  have pa2 : (w.alloc (.cells #[.string ⟨#[97]⟩, .int .i64 0, .bool false, .int .i64 1, .int .i64 5, .int .i64 1, .int .i64 0, .int .i64 0, .int .i64 0, .string ⟨#[120]⟩, .int .i64 0] 62)).cell? ⟨w.heap.size, 2, none⟩ = some (.bool false) := by first | (simp; done) | (rw [World.cell?_alloc_at _ _ _ _ (by simp)]; rfl) | (rw [World.cell?_alloc_past _ _ _ (by simp <;> omega), World.cell?_alloc_at _ _ _ _ (by simp)]; rfl) | (rw [World.cell?_alloc_past _ _ _ (by simp <;> omega), World.cell?_alloc_past _ _ _ (by simp <;> omega), World.cell?_alloc_at _ _ _ _ (by simp)]; rfl)
  have pa3 : (w.alloc (.cells #[.string ⟨#[97]⟩, .int .i64 0, .bool false, .int .i64 1, .int .i64 5, .int .i64 1, .int .i64 0, .int .i64 0, .int .i64 0, .string ⟨#[120]⟩, .int .i64 0] 62)).cell? ⟨w.heap.size, 3, none⟩ = some (.int .i64 1) := by first | (simp; done) | (rw [World.cell?_alloc_at _ _ _ _ (by simp)]; rfl) | (rw [World.cell?_alloc_past _ _ _ (by simp <;> omega), World.cell?_alloc_at _ _ _ _ (by simp)]; rfl) | (rw [World.cell?_alloc_past _ _ _ (by simp <;> omega), World.cell?_alloc_past _ _ _ (by simp <;> omega), World.cell?_alloc_at _ _ _ _ (by simp)]; rfl)
  have pa4 : (w.alloc (.cells #[.string ⟨#[97]⟩, .int .i64 0, .bool false, .int .i64 1, .int .i64 5, .int .i64 1, .int .i64 0, .int .i64 0, .int .i64 0, .string ⟨#[120]⟩, .int .i64 0] 62)).cell? ⟨w.heap.size, 4, none⟩ = some (.int .i64 5) := by first | (simp; done) | (rw [World.cell?_alloc_at _ _ _ _ (by simp)]; rfl) | (rw [World.cell?_alloc_past _ _ _ (by simp <;> omega), World.cell?_alloc_at _ _ _ _ (by simp)]; rfl) | (rw [World.cell?_alloc_past _ _ _ (by simp <;> omega), World.cell?_alloc_past _ _ _ (by simp <;> omega), World.cell?_alloc_at _ _ _ _ (by simp)]; rfl)
  have pa5 : (w.alloc (.cells #[.string ⟨#[97]⟩, .int .i64 0, .bool false, .int .i64 1, .int .i64 5, .int .i64 1, .int .i64 0, .int .i64 0, .int .i64 0, .string ⟨#[120]⟩, .int .i64 0] 62)).cell? ⟨w.heap.size, 5, none⟩ = some (.int .i64 1) := by first | (simp; done) | (rw [World.cell?_alloc_at _ _ _ _ (by simp)]; rfl) | (rw [World.cell?_alloc_past _ _ _ (by simp <;> omega), World.cell?_alloc_at _ _ _ _ (by simp)]; rfl) | (rw [World.cell?_alloc_past _ _ _ (by simp <;> omega), World.cell?_alloc_past _ _ _ (by simp <;> omega), World.cell?_alloc_at _ _ _ _ (by simp)]; rfl)
  have pa6 : (w.alloc (.cells #[.string ⟨#[97]⟩, .int .i64 0, .bool false, .int .i64 1, .int .i64 5, .int .i64 1, .int .i64 0, .int .i64 0, .int .i64 0, .string ⟨#[120]⟩, .int .i64 0] 62)).cell? ⟨w.heap.size, 6, none⟩ = some (.int .i64 0) := by first | (simp; done) | (rw [World.cell?_alloc_at _ _ _ _ (by simp)]; rfl) | (rw [World.cell?_alloc_past _ _ _ (by simp <;> omega), World.cell?_alloc_at _ _ _ _ (by simp)]; rfl) | (rw [World.cell?_alloc_past _ _ _ (by simp <;> omega), World.cell?_alloc_past _ _ _ (by simp <;> omega), World.cell?_alloc_at _ _ _ _ (by simp)]; rfl)
  have pa7 : (w.alloc (.cells #[.string ⟨#[97]⟩, .int .i64 0, .bool false, .int .i64 1, .int .i64 5, .int .i64 1, .int .i64 0, .int .i64 0, .int .i64 0, .string ⟨#[120]⟩, .int .i64 0] 62)).cell? ⟨w.heap.size, 7, none⟩ = some (.int .i64 0) := by first | (simp; done) | (rw [World.cell?_alloc_at _ _ _ _ (by simp)]; rfl) | (rw [World.cell?_alloc_past _ _ _ (by simp <;> omega), World.cell?_alloc_at _ _ _ _ (by simp)]; rfl) | (rw [World.cell?_alloc_past _ _ _ (by simp <;> omega), World.cell?_alloc_past _ _ _ (by simp <;> omega), World.cell?_alloc_at _ _ _ _ (by simp)]; rfl)
  have pa8 : (w.alloc (.cells #[.string ⟨#[97]⟩, .int .i64 0, .bool false, .int .i64 1, .int .i64 5, .int .i64 1, .int .i64 0, .int .i64 0, .int .i64 0, .string ⟨#[120]⟩, .int .i64 0] 62)).cell? ⟨w.heap.size, 8, none⟩ = some (.int .i64 0) := by first | (simp; done) | (rw [World.cell?_alloc_at _ _ _ _ (by simp)]; rfl) | (rw [World.cell?_alloc_past _ _ _ (by simp <;> omega), World.cell?_alloc_at _ _ _ _ (by simp)]; rfl) | (rw [World.cell?_alloc_past _ _ _ (by simp <;> omega), World.cell?_alloc_past _ _ _ (by simp <;> omega), World.cell?_alloc_at _ _ _ _ (by simp)]; rfl)
  have pa9 : (w.alloc (.cells #[.string ⟨#[97]⟩, .int .i64 0, .bool false, .int .i64 1, .int .i64 5, .int .i64 1, .int .i64 0, .int .i64 0, .int .i64 0, .string ⟨#[120]⟩, .int .i64 0] 62)).cell? ⟨w.heap.size, 9, none⟩ = some (.string ⟨#[120]⟩) := by first | (simp; done) | (rw [World.cell?_alloc_at _ _ _ _ (by simp)]; rfl) | (rw [World.cell?_alloc_past _ _ _ (by simp <;> omega), World.cell?_alloc_at _ _ _ _ (by simp)]; rfl) | (rw [World.cell?_alloc_past _ _ _ (by simp <;> omega), World.cell?_alloc_past _ _ _ (by simp <;> omega), World.cell?_alloc_at _ _ _ _ (by simp)]; rfl)
  have pa10 : (w.alloc (.cells #[.string ⟨#[97]⟩, .int .i64 0, .bool false, .int .i64 1, .int .i64 5, .int .i64 1, .int .i64 0, .int .i64 0, .int .i64 0, .string ⟨#[120]⟩, .int .i64 0] 62)).cell? ⟨w.heap.size, 10, none⟩ = some (.int .i64 0) := by first | (simp; done) | (rw [World.cell?_alloc_at _ _ _ _ (by simp)]; rfl) | (rw [World.cell?_alloc_past _ _ _ (by simp <;> omega), World.cell?_alloc_at _ _ _ _ (by simp)]; rfl) | (rw [World.cell?_alloc_past _ _ _ (by simp <;> omega), World.cell?_alloc_past _ _ _ (by simp <;> omega), World.cell?_alloc_at _ _ _ _ (by simp)]; rfl)
  have hb2 := (by repeat (first | exact hbel | refine belAlloc ?_ _ | refine belDrew ?_ | refine belSet ?_ _ _ (by simp)) : Below w.heap.size w (w.alloc (.cells #[.string ⟨#[97]⟩, .int .i64 0, .bool false, .int .i64 1, .int .i64 5, .int .i64 1, .int .i64 0, .int .i64 0, .int .i64 0, .string ⟨#[120]⟩, .int .i64 0] 62)))
  replace hw := belStep hw hb2
  clear hb2 hbel
  generalize w.alloc (.cells #[.string ⟨#[97]⟩, .int .i64 0, .bool false, .int .i64 1, .int .i64 5, .int .i64 1, .int .i64 0, .int .i64 0, .int .i64 0, .string ⟨#[120]⟩, .int .i64 0] 62) = W1 at *
  replace pa0 := keep pa0
  replace pa1 := keep pa1
  replace pa2 := keep pa2
  replace pa3 := keep pa3
  replace pa4 := keep pa4
  replace pa5 := keep pa5
  replace pa6 := keep pa6
  replace pa7 := keep pa7
  replace pa8 := keep pa8
  replace pa9 := keep pa9
  replace pa10 := keep pa10
  have hbel : Below W1.heap.size W1 W1 := Below.refl _ _
  skip
  go_upto_region 3 with fail
  have pb0 : (W1.alloc (.cells #[.string ⟨#[98]⟩, .int .i64 (-1), .bool false, .int .i64 1, .int .i64 9, .int .i64 1, .int .i64 0, .int .i64 0, .int .i64 0, .string ⟨#[120]⟩, .int .i64 0] 62)).cell? ⟨W1.heap.size, 0, none⟩ = some (.string ⟨#[98]⟩) := by first | (simp; done) | (rw [World.cell?_alloc_at _ _ _ _ (by simp)]; rfl) | (rw [World.cell?_alloc_past _ _ _ (by simp <;> omega), World.cell?_alloc_at _ _ _ _ (by simp)]; rfl) | (rw [World.cell?_alloc_past _ _ _ (by simp <;> omega), World.cell?_alloc_past _ _ _ (by simp <;> omega), World.cell?_alloc_at _ _ _ _ (by simp)]; rfl)
  have pb1 : (W1.alloc (.cells #[.string ⟨#[98]⟩, .int .i64 (-1), .bool false, .int .i64 1, .int .i64 9, .int .i64 1, .int .i64 0, .int .i64 0, .int .i64 0, .string ⟨#[120]⟩, .int .i64 0] 62)).cell? ⟨W1.heap.size, 1, none⟩ = some (.int .i64 (-1)) := by first | (simp; done) | (rw [World.cell?_alloc_at _ _ _ _ (by simp)]; rfl) | (rw [World.cell?_alloc_past _ _ _ (by simp <;> omega), World.cell?_alloc_at _ _ _ _ (by simp)]; rfl) | (rw [World.cell?_alloc_past _ _ _ (by simp <;> omega), World.cell?_alloc_past _ _ _ (by simp <;> omega), World.cell?_alloc_at _ _ _ _ (by simp)]; rfl)
  have pb2 : (W1.alloc (.cells #[.string ⟨#[98]⟩, .int .i64 (-1), .bool false, .int .i64 1, .int .i64 9, .int .i64 1, .int .i64 0, .int .i64 0, .int .i64 0, .string ⟨#[120]⟩, .int .i64 0] 62)).cell? ⟨W1.heap.size, 2, none⟩ = some (.bool false) := by first | (simp; done) | (rw [World.cell?_alloc_at _ _ _ _ (by simp)]; rfl) | (rw [World.cell?_alloc_past _ _ _ (by simp <;> omega), World.cell?_alloc_at _ _ _ _ (by simp)]; rfl) | (rw [World.cell?_alloc_past _ _ _ (by simp <;> omega), World.cell?_alloc_past _ _ _ (by simp <;> omega), World.cell?_alloc_at _ _ _ _ (by simp)]; rfl)
  have pb3 : (W1.alloc (.cells #[.string ⟨#[98]⟩, .int .i64 (-1), .bool false, .int .i64 1, .int .i64 9, .int .i64 1, .int .i64 0, .int .i64 0, .int .i64 0, .string ⟨#[120]⟩, .int .i64 0] 62)).cell? ⟨W1.heap.size, 3, none⟩ = some (.int .i64 1) := by first | (simp; done) | (rw [World.cell?_alloc_at _ _ _ _ (by simp)]; rfl) | (rw [World.cell?_alloc_past _ _ _ (by simp <;> omega), World.cell?_alloc_at _ _ _ _ (by simp)]; rfl) | (rw [World.cell?_alloc_past _ _ _ (by simp <;> omega), World.cell?_alloc_past _ _ _ (by simp <;> omega), World.cell?_alloc_at _ _ _ _ (by simp)]; rfl)
  have pb4 : (W1.alloc (.cells #[.string ⟨#[98]⟩, .int .i64 (-1), .bool false, .int .i64 1, .int .i64 9, .int .i64 1, .int .i64 0, .int .i64 0, .int .i64 0, .string ⟨#[120]⟩, .int .i64 0] 62)).cell? ⟨W1.heap.size, 4, none⟩ = some (.int .i64 9) := by first | (simp; done) | (rw [World.cell?_alloc_at _ _ _ _ (by simp)]; rfl) | (rw [World.cell?_alloc_past _ _ _ (by simp <;> omega), World.cell?_alloc_at _ _ _ _ (by simp)]; rfl) | (rw [World.cell?_alloc_past _ _ _ (by simp <;> omega), World.cell?_alloc_past _ _ _ (by simp <;> omega), World.cell?_alloc_at _ _ _ _ (by simp)]; rfl)
  have pb5 : (W1.alloc (.cells #[.string ⟨#[98]⟩, .int .i64 (-1), .bool false, .int .i64 1, .int .i64 9, .int .i64 1, .int .i64 0, .int .i64 0, .int .i64 0, .string ⟨#[120]⟩, .int .i64 0] 62)).cell? ⟨W1.heap.size, 5, none⟩ = some (.int .i64 1) := by first | (simp; done) | (rw [World.cell?_alloc_at _ _ _ _ (by simp)]; rfl) | (rw [World.cell?_alloc_past _ _ _ (by simp <;> omega), World.cell?_alloc_at _ _ _ _ (by simp)]; rfl) | (rw [World.cell?_alloc_past _ _ _ (by simp <;> omega), World.cell?_alloc_past _ _ _ (by simp <;> omega), World.cell?_alloc_at _ _ _ _ (by simp)]; rfl)
  have pb6 : (W1.alloc (.cells #[.string ⟨#[98]⟩, .int .i64 (-1), .bool false, .int .i64 1, .int .i64 9, .int .i64 1, .int .i64 0, .int .i64 0, .int .i64 0, .string ⟨#[120]⟩, .int .i64 0] 62)).cell? ⟨W1.heap.size, 6, none⟩ = some (.int .i64 0) := by first | (simp; done) | (rw [World.cell?_alloc_at _ _ _ _ (by simp)]; rfl) | (rw [World.cell?_alloc_past _ _ _ (by simp <;> omega), World.cell?_alloc_at _ _ _ _ (by simp)]; rfl) | (rw [World.cell?_alloc_past _ _ _ (by simp <;> omega), World.cell?_alloc_past _ _ _ (by simp <;> omega), World.cell?_alloc_at _ _ _ _ (by simp)]; rfl)
  have pb7 : (W1.alloc (.cells #[.string ⟨#[98]⟩, .int .i64 (-1), .bool false, .int .i64 1, .int .i64 9, .int .i64 1, .int .i64 0, .int .i64 0, .int .i64 0, .string ⟨#[120]⟩, .int .i64 0] 62)).cell? ⟨W1.heap.size, 7, none⟩ = some (.int .i64 0) := by first | (simp; done) | (rw [World.cell?_alloc_at _ _ _ _ (by simp)]; rfl) | (rw [World.cell?_alloc_past _ _ _ (by simp <;> omega), World.cell?_alloc_at _ _ _ _ (by simp)]; rfl) | (rw [World.cell?_alloc_past _ _ _ (by simp <;> omega), World.cell?_alloc_past _ _ _ (by simp <;> omega), World.cell?_alloc_at _ _ _ _ (by simp)]; rfl)
  have pb8 : (W1.alloc (.cells #[.string ⟨#[98]⟩, .int .i64 (-1), .bool false, .int .i64 1, .int .i64 9, .int .i64 1, .int .i64 0, .int .i64 0, .int .i64 0, .string ⟨#[120]⟩, .int .i64 0] 62)).cell? ⟨W1.heap.size, 8, none⟩ = some (.int .i64 0) := by first | (simp; done) | (rw [World.cell?_alloc_at _ _ _ _ (by simp)]; rfl) | (rw [World.cell?_alloc_past _ _ _ (by simp <;> omega), World.cell?_alloc_at _ _ _ _ (by simp)]; rfl) | (rw [World.cell?_alloc_past _ _ _ (by simp <;> omega), World.cell?_alloc_past _ _ _ (by simp <;> omega), World.cell?_alloc_at _ _ _ _ (by simp)]; rfl)
  have pb9 : (W1.alloc (.cells #[.string ⟨#[98]⟩, .int .i64 (-1), .bool false, .int .i64 1, .int .i64 9, .int .i64 1, .int .i64 0, .int .i64 0, .int .i64 0, .string ⟨#[120]⟩, .int .i64 0] 62)).cell? ⟨W1.heap.size, 9, none⟩ = some (.string ⟨#[120]⟩) := by first | (simp; done) | (rw [World.cell?_alloc_at _ _ _ _ (by simp)]; rfl) | (rw [World.cell?_alloc_past _ _ _ (by simp <;> omega), World.cell?_alloc_at _ _ _ _ (by simp)]; rfl) | (rw [World.cell?_alloc_past _ _ _ (by simp <;> omega), World.cell?_alloc_past _ _ _ (by simp <;> omega), World.cell?_alloc_at _ _ _ _ (by simp)]; rfl)
  have pb10 : (W1.alloc (.cells #[.string ⟨#[98]⟩, .int .i64 (-1), .bool false, .int .i64 1, .int .i64 9, .int .i64 1, .int .i64 0, .int .i64 0, .int .i64 0, .string ⟨#[120]⟩, .int .i64 0] 62)).cell? ⟨W1.heap.size, 10, none⟩ = some (.int .i64 0) := by first | (simp; done) | (rw [World.cell?_alloc_at _ _ _ _ (by simp)]; rfl) | (rw [World.cell?_alloc_past _ _ _ (by simp <;> omega), World.cell?_alloc_at _ _ _ _ (by simp)]; rfl) | (rw [World.cell?_alloc_past _ _ _ (by simp <;> omega), World.cell?_alloc_past _ _ _ (by simp <;> omega), World.cell?_alloc_at _ _ _ _ (by simp)]; rfl)
  have hb2 := (by repeat (first | exact hbel | refine belAlloc ?_ _ | refine belDrew ?_ | refine belSet ?_ _ _ (by simp)) : Below W1.heap.size W1 (W1.alloc (.cells #[.string ⟨#[98]⟩, .int .i64 (-1), .bool false, .int .i64 1, .int .i64 9, .int .i64 1, .int .i64 0, .int .i64 0, .int .i64 0, .string ⟨#[120]⟩, .int .i64 0] 62)))
  replace pa0 := keepOnP pa0 hb2
  replace pa1 := keepOnP pa1 hb2
  replace pa2 := keepOnP pa2 hb2
  replace pa3 := keepOnP pa3 hb2
  replace pa4 := keepOnP pa4 hb2
  replace pa5 := keepOnP pa5 hb2
  replace pa6 := keepOnP pa6 hb2
  replace pa7 := keepOnP pa7 hb2
  replace pa8 := keepOnP pa8 hb2
  replace pa9 := keepOnP pa9 hb2
  replace pa10 := keepOnP pa10 hb2
  replace hw := belStep hw hb2
  clear hb2 hbel
  generalize W1.alloc (.cells #[.string ⟨#[98]⟩, .int .i64 (-1), .bool false, .int .i64 1, .int .i64 9, .int .i64 1, .int .i64 0, .int .i64 0, .int .i64 0, .string ⟨#[120]⟩, .int .i64 0] 62) = W2 at *
  replace pb0 := keep pb0
  replace pb1 := keep pb1
  replace pb2 := keep pb2
  replace pb3 := keep pb3
  replace pb4 := keep pb4
  replace pb5 := keep pb5
  replace pb6 := keep pb6
  replace pb7 := keep pb7
  replace pb8 := keep pb8
  replace pb9 := keep pb9
  replace pb10 := keep pb10
  generalize W1.heap.size = M1 at *
  have hbel : Below W2.heap.size W2 W2 := Below.refl _ _
  skip
  go_upto_region 4 with fail
  have Bus : Blk ((W2.alloc (.cells #[.string ⟨#[97]⟩, .int .i64 8, .int .i64 0, .int .i64 0, .string ⟨#[98]⟩, .int .i64 9, .int .i64 0, .int .i64 2] 51)).alloc (.cells #[.int .i64 0, .int .i64 0, .int .i64 0, .int .i64 0, .slice (some ⟨W2.heap.size, 0, none⟩) 2 2] 32)) W2.heap.size [.string ⟨#[97]⟩, .int .i64 8, .int .i64 0, .int .i64 0, .string ⟨#[98]⟩, .int .i64 9, .int .i64 0, .int .i64 2] 51 := (Blk.new W2 [.string ⟨#[97]⟩, .int .i64 8, .int .i64 0, .int .i64 0, .string ⟨#[98]⟩, .int .i64 9, .int .i64 0, .int .i64 2] 51).later (belAlloc (Below.refl _ _) _)
  have Bsp : Blk ((W2.alloc (.cells #[.string ⟨#[97]⟩, .int .i64 8, .int .i64 0, .int .i64 0, .string ⟨#[98]⟩, .int .i64 9, .int .i64 0, .int .i64 2] 51)).alloc (.cells #[.int .i64 0, .int .i64 0, .int .i64 0, .int .i64 0, .slice (some ⟨W2.heap.size, 0, none⟩) 2 2] 32)) (W2.heap.size + 1) [.int .i64 0, .int .i64 0, .int .i64 0, .int .i64 0, .slice (some ⟨W2.heap.size, 0, none⟩) 2 2] 32 := Blk.at (w := W2.alloc (.cells #[.string ⟨#[97]⟩, .int .i64 8, .int .i64 0, .int .i64 0, .string ⟨#[98]⟩, .int .i64 9, .int .i64 0, .int .i64 2] 51)) (by simp)
  have hb2 : Below W2.heap.size W2 ((W2.alloc (.cells #[.string ⟨#[97]⟩, .int .i64 8, .int .i64 0, .int .i64 0, .string ⟨#[98]⟩, .int .i64 9, .int .i64 0, .int .i64 2] 51)).alloc (.cells #[.int .i64 0, .int .i64 0, .int .i64 0, .int .i64 0, .slice (some ⟨W2.heap.size, 0, none⟩) 2 2] 32)) := belAlloc (belAlloc (Below.refl _ _) _) _
  replace pa0 := keepOnP pa0 hb2
  replace pa1 := keepOnP pa1 hb2
  replace pa2 := keepOnP pa2 hb2
  replace pa3 := keepOnP pa3 hb2
  replace pa4 := keepOnP pa4 hb2
  replace pa5 := keepOnP pa5 hb2
  replace pa6 := keepOnP pa6 hb2
  replace pa7 := keepOnP pa7 hb2
  replace pa8 := keepOnP pa8 hb2
  replace pa9 := keepOnP pa9 hb2
  replace pa10 := keepOnP pa10 hb2
  replace pb0 := keepOnP pb0 hb2
  replace pb1 := keepOnP pb1 hb2
  replace pb2 := keepOnP pb2 hb2
  replace pb3 := keepOnP pb3 hb2
  replace pb4 := keepOnP pb4 hb2
  replace pb5 := keepOnP pb5 hb2
  replace pb6 := keepOnP pb6 hb2
  replace pb7 := keepOnP pb7 hb2
  replace pb8 := keepOnP pb8 hb2
  replace pb9 := keepOnP pb9 hb2
  replace pb10 := keepOnP pb10 hb2
  replace hw := belStep hw hb2
  clear hb2 hbel
  generalize (W2.alloc (.cells #[.string ⟨#[97]⟩, .int .i64 8, .int .i64 0, .int .i64 0, .string ⟨#[98]⟩, .int .i64 9, .int .i64 0, .int .i64 2] 51)).alloc (.cells #[.int .i64 0, .int .i64 0, .int .i64 0, .int .i64 0, .slice (some ⟨W2.heap.size, 0, none⟩) 2 2] 32) = W3 at *
  generalize W2.heap.size = M2 at *
  have usB := Blk.keepB Bus
  have sp0 := keep (Bsp.cell (j := 0) rfl)
  have sp1 := keep (Bsp.cell (j := 1) rfl)
  have sp2 := keep (Bsp.cell (j := 2) rfl)
  have sp3 := keep (Bsp.cell (j := 3) rfl)
  have sp4 := keep (Bsp.cell (j := 4) rfl)
  clear Bus Bsp
  have hbel : Below W3.heap.size W3 W3 := Below.refl _ _
  go_upto_region 5 with fail
  have Btb : Blk (W3.alloc (.cells #[.string ⟨#[97]⟩, .int .i64 0, .bool false, .int .i64 1, .int .i64 5, .int .i64 1, .int .i64 0, .int .i64 0, .int .i64 0, .string ⟨#[120]⟩, .int .i64 0, .int .i64 2, .string ⟨#[98]⟩, .int .i64 (-1), .bool false, .int .i64 1, .int .i64 9, .int .i64 1, .int .i64 0, .int .i64 0, .int .i64 0, .string ⟨#[120]⟩, .int .i64 0, .int .i64 1, .string ⟨#[99]⟩, .int .i64 0, .bool true, .int .i64 0, .int .i64 0, .int .i64 0, .int .i64 0, .int .i64 0, .int .i64 0, .string ⟨#[120]⟩, .int .i64 0, .int .i64 2] 66)) W3.heap.size [.string ⟨#[97]⟩, .int .i64 0, .bool false, .int .i64 1, .int .i64 5, .int .i64 1, .int .i64 0, .int .i64 0, .int .i64 0, .string ⟨#[120]⟩, .int .i64 0, .int .i64 2, .string ⟨#[98]⟩, .int .i64 (-1), .bool false, .int .i64 1, .int .i64 9, .int .i64 1, .int .i64 0, .int .i64 0, .int .i64 0, .string ⟨#[120]⟩, .int .i64 0, .int .i64 1, .string ⟨#[99]⟩, .int .i64 0, .bool true, .int .i64 0, .int .i64 0, .int .i64 0, .int .i64 0, .int .i64 0, .int .i64 0, .string ⟨#[120]⟩, .int .i64 0, .int .i64 2] 66 := Blk.new W3 [.string ⟨#[97]⟩, .int .i64 0, .bool false, .int .i64 1, .int .i64 5, .int .i64 1, .int .i64 0, .int .i64 0, .int .i64 0, .string ⟨#[120]⟩, .int .i64 0, .int .i64 2, .string ⟨#[98]⟩, .int .i64 (-1), .bool false, .int .i64 1, .int .i64 9, .int .i64 1, .int .i64 0, .int .i64 0, .int .i64 0, .string ⟨#[120]⟩, .int .i64 0, .int .i64 1, .string ⟨#[99]⟩, .int .i64 0, .bool true, .int .i64 0, .int .i64 0, .int .i64 0, .int .i64 0, .int .i64 0, .int .i64 0, .string ⟨#[120]⟩, .int .i64 0, .int .i64 2] 66
  have hb2 : Below W3.heap.size W3 (W3.alloc (.cells #[.string ⟨#[97]⟩, .int .i64 0, .bool false, .int .i64 1, .int .i64 5, .int .i64 1, .int .i64 0, .int .i64 0, .int .i64 0, .string ⟨#[120]⟩, .int .i64 0, .int .i64 2, .string ⟨#[98]⟩, .int .i64 (-1), .bool false, .int .i64 1, .int .i64 9, .int .i64 1, .int .i64 0, .int .i64 0, .int .i64 0, .string ⟨#[120]⟩, .int .i64 0, .int .i64 1, .string ⟨#[99]⟩, .int .i64 0, .bool true, .int .i64 0, .int .i64 0, .int .i64 0, .int .i64 0, .int .i64 0, .int .i64 0, .string ⟨#[120]⟩, .int .i64 0, .int .i64 2] 66)) := belAlloc (Below.refl _ _) _
  replace pa0 := keepOnP pa0 hb2
  replace pa1 := keepOnP pa1 hb2
  replace pa2 := keepOnP pa2 hb2
  replace pa3 := keepOnP pa3 hb2
  replace pa4 := keepOnP pa4 hb2
  replace pa5 := keepOnP pa5 hb2
  replace pa6 := keepOnP pa6 hb2
  replace pa7 := keepOnP pa7 hb2
  replace pa8 := keepOnP pa8 hb2
  replace pa9 := keepOnP pa9 hb2
  replace pa10 := keepOnP pa10 hb2
  replace pb0 := keepOnP pb0 hb2
  replace pb1 := keepOnP pb1 hb2
  replace pb2 := keepOnP pb2 hb2
  replace pb3 := keepOnP pb3 hb2
  replace pb4 := keepOnP pb4 hb2
  replace pb5 := keepOnP pb5 hb2
  replace pb6 := keepOnP pb6 hb2
  replace pb7 := keepOnP pb7 hb2
  replace pb8 := keepOnP pb8 hb2
  replace pb9 := keepOnP pb9 hb2
  replace pb10 := keepOnP pb10 hb2
  replace sp0 := keepOnP sp0 hb2
  replace sp1 := keepOnP sp1 hb2
  replace sp2 := keepOnP sp2 hb2
  replace sp3 := keepOnP sp3 hb2
  replace sp4 := keepOnP sp4 hb2
  replace usB := keepOnP usB hb2
  replace hw := belStep hw hb2
  clear hb2 hbel
  generalize W3.alloc (.cells #[.string ⟨#[97]⟩, .int .i64 0, .bool false, .int .i64 1, .int .i64 5, .int .i64 1, .int .i64 0, .int .i64 0, .int .i64 0, .string ⟨#[120]⟩, .int .i64 0, .int .i64 2, .string ⟨#[98]⟩, .int .i64 (-1), .bool false, .int .i64 1, .int .i64 9, .int .i64 1, .int .i64 0, .int .i64 0, .int .i64 0, .string ⟨#[120]⟩, .int .i64 0, .int .i64 1, .string ⟨#[99]⟩, .int .i64 0, .bool true, .int .i64 0, .int .i64 0, .int .i64 0, .int .i64 0, .int .i64 0, .int .i64 0, .string ⟨#[120]⟩, .int .i64 0, .int .i64 2] 66) = W4 at *
  generalize W3.heap.size = M3 at *
  have tbB := Blk.keepB Btb
  have tb0 := keep (Btb.cell (j := 0) rfl)
  have tb1 := keep (Btb.cell (j := 1) rfl)
  have tb2 := keep (Btb.cell (j := 2) rfl)
  have tb3 := keep (Btb.cell (j := 3) rfl)
  have tb4 := keep (Btb.cell (j := 4) rfl)
  have tb5 := keep (Btb.cell (j := 5) rfl)
  have tb6 := keep (Btb.cell (j := 6) rfl)
  have tb7 := keep (Btb.cell (j := 7) rfl)
  have tb8 := keep (Btb.cell (j := 8) rfl)
  have tb9 := keep (Btb.cell (j := 9) rfl)
  have tb10 := keep (Btb.cell (j := 10) rfl)
  have tb11 := keep (Btb.cell (j := 11) rfl)
  have tb24 := keep (Btb.cell (j := 24) rfl)
  have tb25 := keep (Btb.cell (j := 25) rfl)
  have tb26 := keep (Btb.cell (j := 26) rfl)
  have tb27 := keep (Btb.cell (j := 27) rfl)
  have tb28 := keep (Btb.cell (j := 28) rfl)
  have tb29 := keep (Btb.cell (j := 29) rfl)
  have tb30 := keep (Btb.cell (j := 30) rfl)
  have tb31 := keep (Btb.cell (j := 31) rfl)
  have tb32 := keep (Btb.cell (j := 32) rfl)
  have tb33 := keep (Btb.cell (j := 33) rfl)
  have tb34 := keep (Btb.cell (j := 34) rfl)
  have tb35 := keep (Btb.cell (j := 35) rfl)
  clear Btb
  have hbel : Below W4.heap.size W4 W4 := Below.refl _ _
  have CF0 := Lib.hid (show ∀ u : World, Below W4.heap.size W4 u → Calls Try.prog 47 #[.int .i64 0, .slice (some ⟨M3, 0, none⟩) 3 3, .agg #[.int .i64 0, .int .i64 0, .int .i64 0, .int .i64 0, .slice (some ⟨M2, 0, none⟩) 2 2]] u fun e w' => e = .returned (.tuple #[.string ⟨#[97]⟩, .bool true]) ∧ Below u.heap.size u w' from fun u hu => by have h := rk_First 0 0 (some ⟨M3, 0, none⟩) 3 3 rT 0 0 0 0 (some ⟨M2, 0, none⟩) 2 2 rU u (by omega) rfl rT_tab rT_ok rfl (row_of_blkN (n := 3) (k := 12) (tbB u hu) rfl (by unfold maxLen; omega)) rU_ok rfl (row_of_blkN (n := 2) (k := 4) (usB u hu) rfl (by unfold maxLen; omega)); rw [ord0] at h; exact h)
  have CF2 := Lib.hid (show ∀ u : World, Below W4.heap.size W4 u → Calls Try.prog 47 #[.int .i64 2, .slice (some ⟨M3, 0, none⟩) 3 3, .agg #[.int .i64 0, .int .i64 0, .int .i64 0, .int .i64 0, .slice (some ⟨M2, 0, none⟩) 2 2]] u fun e w' => e = .returned (.tuple #[.string ⟨#[98]⟩, .bool true]) ∧ Below u.heap.size u w' from fun u hu => by have h := rk_First 2 2 (some ⟨M3, 0, none⟩) 3 3 rT 0 0 0 0 (some ⟨M2, 0, none⟩) 2 2 rU u (by omega) rfl rT_tab rT_ok rfl (row_of_blkN (n := 3) (k := 12) (tbB u hu) rfl (by unfold maxLen; omega)) rU_ok rfl (row_of_blkN (n := 2) (k := 4) (usB u hu) rfl (by unfold maxLen; omega)); rw [ord2] at h; exact h)
  have CFN := Lib.hid (show ∀ u : World, Below W4.heap.size W4 u → Calls Try.prog 47 #[.int .i64 2, .slice none 0 0, .agg #[.int .i64 0, .int .i64 0, .int .i64 0, .int .i64 0, .slice (some ⟨M2, 0, none⟩) 2 2]] u fun e w' => e = .returned (.tuple #[.string ⟨#[]⟩, .bool false]) ∧ Below u.heap.size u w' from fun u hu => by have h := rk_First 2 2 none 0 0 [] 0 0 0 0 (some ⟨M2, 0, none⟩) 2 2 rU u (by omega) rfl tab_nil (fun x hx => by cases hx) rfl row_nil rU_ok rfl (row_of_blkN (n := 2) (k := 4) (usB u hu) rfl (by unfold maxLen; omega)); rw [ordn] at h; exact h)
  have COR := Lib.hid (show ∀ u : World, Below W4.heap.size W4 u → Calls Try.prog 46 #[.int .i64 1, .slice (some ⟨M3, 0, none⟩) 3 3, .agg #[.int .i64 0, .int .i64 0, .int .i64 0, .int .i64 0, .slice (some ⟨M2, 0, none⟩) 2 2]] u fun e w' => (∃ b n, e = .returned (.slice b 2 n) ∧ OwnR w' u.heap.size 9 1 (.slice b 2 n) 2 [.string ⟨#[98]⟩, .string ⟨#[97]⟩]) ∧ Below u.heap.size u w' from fun u hu => by have h := rk_Order 1 1 (some ⟨M3, 0, none⟩) 3 3 rT 0 0 0 0 (some ⟨M2, 0, none⟩) 2 2 rU u (by omega) rfl rT_tab rT_ok rfl (row_of_blkN (n := 3) (k := 12) (tbB u hu) rfl (by unfold maxLen; omega)) rU_ok rfl (row_of_blkN (n := 2) (k := 4) (usB u hu) rfl (by unfold maxLen; omega)); rw [ord1] at h; exact h)
  have CA1 := Lib.hid (show ∀ u : World, Below W4.heap.size W4 u → Calls Try.prog 41 #[.int .i64 0, .agg #[.string ⟨#[97]⟩, .int .i64 0, .bool false, .int .i64 1, .int .i64 5, .int .i64 1, .int .i64 0, .int .i64 0, .int .i64 0, .string ⟨#[120]⟩, .int .i64 0], .agg #[.string ⟨#[98]⟩, .int .i64 (-1), .bool false, .int .i64 1, .int .i64 9, .int .i64 1, .int .i64 0, .int .i64 0, .int .i64 0, .string ⟨#[120]⟩, .int .i64 0], .agg #[.int .i64 0, .int .i64 0, .int .i64 0, .int .i64 0, .slice (some ⟨M2, 0, none⟩) 2 2]] u fun e w' => e = .returned (.bool true) ∧ Below u.heap.size u w' from fun u hu => by have h := rk_Ahead 0 0 rPA rPB 0 0 0 0 (some ⟨M2, 0, none⟩) 2 2 rU u (by omega) rfl (rP_ok _ (by simp)) rP_right.1 (rP_ok _ (by simp)) rP_right.2.1 rU_ok rfl (row_of_blkN (n := 2) (k := 4) (usB u hu) rfl (by unfold maxLen; omega)); rw [ah1] at h; exact h)
  have CA2 := Lib.hid (show ∀ u : World, Below W4.heap.size W4 u → Calls Try.prog 41 #[.int .i64 0, .agg #[.string ⟨#[98]⟩, .int .i64 (-1), .bool false, .int .i64 1, .int .i64 9, .int .i64 1, .int .i64 0, .int .i64 0, .int .i64 0, .string ⟨#[120]⟩, .int .i64 0], .agg #[.string ⟨#[97]⟩, .int .i64 0, .bool false, .int .i64 1, .int .i64 5, .int .i64 1, .int .i64 0, .int .i64 0, .int .i64 0, .string ⟨#[120]⟩, .int .i64 0], .agg #[.int .i64 0, .int .i64 0, .int .i64 0, .int .i64 0, .slice (some ⟨M2, 0, none⟩) 2 2]] u fun e w' => e = .returned (.bool false) ∧ Below u.heap.size u w' from fun u hu => by have h := rk_Ahead 0 0 rPB rPA 0 0 0 0 (some ⟨M2, 0, none⟩) 2 2 rU u (by omega) rfl (rP_ok _ (by simp)) rP_right.2.1 (rP_ok _ (by simp)) rP_right.1 rU_ok rfl (row_of_blkN (n := 2) (k := 4) (usB u hu) rfl (by unfold maxLen; omega)); rw [ah2] at h; exact h)
  have CQ0 := Lib.hid (show ∀ u : World, Calls Try.prog 39 #[.agg #[.string ⟨#[97]⟩, .int .i64 0, .bool false, .int .i64 1, .int .i64 5, .int .i64 1, .int .i64 0, .int .i64 0, .int .i64 0, .string ⟨#[120]⟩, .int .i64 0], .int .i64 0] u fun e w' => e = .returned (.int .i64 5) ∧ Below u.heap.size u w' from fun u => rk_Asked 0 0 rPA u (by omega) rfl)
  have CQ1 := Lib.hid (show ∀ u : World, Calls Try.prog 39 #[.agg #[.string ⟨#[97]⟩, .int .i64 0, .bool false, .int .i64 1, .int .i64 5, .int .i64 1, .int .i64 0, .int .i64 0, .int .i64 0, .string ⟨#[120]⟩, .int .i64 0], .int .i64 1] u fun e w' => e = .returned (.int .i64 0) ∧ Below u.heap.size u w' from fun u => rk_Asked 1 1 rPA u (by omega) rfl)
  have CM2 := Lib.hid (show ∀ u : World, Calls Try.prog 43 #[.agg #[.string ⟨#[99]⟩, .int .i64 0, .bool true, .int .i64 0, .int .i64 0, .int .i64 0, .int .i64 0, .int .i64 0, .int .i64 0, .string ⟨#[120]⟩, .int .i64 0, .int .i64 2]] u fun e w' => e = .returned (.bool false) ∧ Below u.heap.size u w' from fun u => rk_May ⟨rPC, 2⟩ u)
  have CM0 := Lib.hid (show ∀ u : World, Calls Try.prog 43 #[.agg #[.string ⟨#[97]⟩, .int .i64 0, .bool false, .int .i64 1, .int .i64 5, .int .i64 1, .int .i64 0, .int .i64 0, .int .i64 0, .string ⟨#[120]⟩, .int .i64 0, .int .i64 2]] u fun e w' => e = .returned (.bool true) ∧ Below u.heap.size u w' from fun u => rk_May ⟨rPA, 2⟩ u)
  go_upto_region 9 with (first | (go_at_call 47; (with_reducible refine (CF0.out _ hbel).mono ?_); rintro e w1 ⟨rfl, hb1⟩; replace hbel := belStep hbel hb1; clear hb1) | (go_at_call 47; (with_reducible refine (CF2.out _ hbel).mono ?_); rintro e w1 ⟨rfl, hb1⟩; replace hbel := belStep hbel hb1; clear hb1) | (go_at_call 47; (with_reducible refine (CFN.out _ hbel).mono ?_); rintro e w1 ⟨rfl, hb1⟩; replace hbel := belStep hbel hb1; clear hb1) | (go_at_call 46; (with_reducible refine (COR.out _ hbel).mono ?_); rintro e w5 ⟨⟨b5, n5, rfl, ho5⟩, hb5⟩; replace hbel := belStep hbel hb5))
  rcases own_shape ho5 with ⟨_, h0⟩ | ⟨g5, c5, e5, _, hg5, hc5, hc6⟩
  · cases h0
  simp only [Value.slice.injEq, true_and] at e5
  obtain ⟨rfl, rfl⟩ := e5
  have s0 : w5.cell? ⟨g5, 0, none⟩ = some (.string ⟨#[98]⟩) := World.ownsRow.cellAt ho5 0 (by simp)
  clear ho5 hb5
  have HBX := Lib.hid hbel
  replace CA1 := Lib.hid (fun u (hu : Below w5.heap.size w5 u) => CA1.out u (belStep HBX.out hu))
  replace CA2 := Lib.hid (fun u (hu : Below w5.heap.size w5 u) => CA2.out u (belStep HBX.out hu))
  replace s0 := keep s0
  clear usB tbB CF0 CF2 CFN COR
  replace pa0 := keepOnP pa0 hbel
  replace pa1 := keepOnP pa1 hbel
  replace pa2 := keepOnP pa2 hbel
  replace pa3 := keepOnP pa3 hbel
  replace pa4 := keepOnP pa4 hbel
  replace pa5 := keepOnP pa5 hbel
  replace pa6 := keepOnP pa6 hbel
  replace pa7 := keepOnP pa7 hbel
  replace pa8 := keepOnP pa8 hbel
  replace pa9 := keepOnP pa9 hbel
  replace pa10 := keepOnP pa10 hbel
  replace pb0 := keepOnP pb0 hbel
  replace pb1 := keepOnP pb1 hbel
  replace pb2 := keepOnP pb2 hbel
  replace pb3 := keepOnP pb3 hbel
  replace pb4 := keepOnP pb4 hbel
  replace pb5 := keepOnP pb5 hbel
  replace pb6 := keepOnP pb6 hbel
  replace pb7 := keepOnP pb7 hbel
  replace pb8 := keepOnP pb8 hbel
  replace pb9 := keepOnP pb9 hbel
  replace pb10 := keepOnP pb10 hbel
  replace sp0 := keepOnP sp0 hbel
  replace sp1 := keepOnP sp1 hbel
  replace sp2 := keepOnP sp2 hbel
  replace sp3 := keepOnP sp3 hbel
  replace sp4 := keepOnP sp4 hbel
  replace tb0 := keepOnP tb0 hbel
  replace tb1 := keepOnP tb1 hbel
  replace tb2 := keepOnP tb2 hbel
  replace tb3 := keepOnP tb3 hbel
  replace tb4 := keepOnP tb4 hbel
  replace tb5 := keepOnP tb5 hbel
  replace tb6 := keepOnP tb6 hbel
  replace tb7 := keepOnP tb7 hbel
  replace tb8 := keepOnP tb8 hbel
  replace tb9 := keepOnP tb9 hbel
  replace tb10 := keepOnP tb10 hbel
  replace tb11 := keepOnP tb11 hbel
  replace tb24 := keepOnP tb24 hbel
  replace tb25 := keepOnP tb25 hbel
  replace tb26 := keepOnP tb26 hbel
  replace tb27 := keepOnP tb27 hbel
  replace tb28 := keepOnP tb28 hbel
  replace tb29 := keepOnP tb29 hbel
  replace tb30 := keepOnP tb30 hbel
  replace tb31 := keepOnP tb31 hbel
  replace tb32 := keepOnP tb32 hbel
  replace tb33 := keepOnP tb33 hbel
  replace tb34 := keepOnP tb34 hbel
  replace tb35 := keepOnP tb35 hbel
  replace hw := belStep hw hbel
  clear hbel
  generalize w5 = W6 at *
  have hbel : Below W6.heap.size W6 W6 := Below.refl _ _
  have h20 : (0 : Int) < 2 := by omega
  have h23 : (2 : Int) < 3 := by omega
  have h03 : (0 : Int) < 3 := by omega
  go_wp2_with (first | (go_at_call 41; (with_reducible refine (CA1.out _ hbel).mono ?_); rintro e w1 ⟨rfl, hb1⟩; replace hbel := belStep hbel hb1; clear hb1) | (go_at_call 41; (with_reducible refine (CA2.out _ hbel).mono ?_); rintro e w1 ⟨rfl, hb1⟩; replace hbel := belStep hbel hb1; clear hb1) | (go_at_call 39; (with_reducible refine (CQ0.out _).mono ?_); rintro e w1 ⟨rfl, hb1⟩; replace hbel := belStep hbel hb1; clear hb1) | (go_at_call 39; (with_reducible refine (CQ1.out _).mono ?_); rintro e w1 ⟨rfl, hb1⟩; replace hbel := belStep hbel hb1; clear hb1) | (go_at_call 43; (with_reducible refine (CM2.out _).mono ?_); rintro e w1 ⟨rfl, hb1⟩; replace hbel := belStep hbel hb1; clear hb1) | (go_at_call 43; (with_reducible refine (CM0.out _).mono ?_); rintro e w1 ⟨rfl, hb1⟩; replace hbel := belStep hbel hb1; clear hb1))
  go_ret
  exact ⟨rfl, belStep hw hbel⟩
end Go.Proofs.Ytcgpmihjodolmaa
