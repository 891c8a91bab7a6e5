/- The fixed answers of layer 12's statements. -/
import Derived.Test.YtnfblpiapendeaaPodSums
namespace Go.Proofs.Ytnfblpiapendeaa
open Go.RowKit
set_option linter.unusedVariables false
set_option linter.unusedSimpArgs false

def P0 : PodV := ⟨⟨#[97]⟩, -5, true, 1, 2, 3, 0, 2, 9, ⟨#[98]⟩, 7⟩
theorem P0_right : rightB P0 = true := by decide +kernel
theorem P0_ok : P0.ok := by unfold PodV.ok P0 InI maxLen; refine ⟨by decide, by decide, ?_, ?_, ?_, ?_, ?_, ?_, ?_, ?_⟩ <;> (dsimp only; omega)
theorem zeroP_no : rightB zeroP = false := by decide +kernel
theorem zeroP_ok : zeroP.ok := by unfold PodV.ok zeroP InI maxLen; refine ⟨by decide, by decide, ?_, ?_, ?_, ?_, ?_, ?_, ?_, ?_⟩ <;> (dsimp only; omega)
theorem A_no : nameB ⟨#[65]⟩ = false := by decide +kernel
theorem P0_len : P0.bytes.length = 69 := by rw [PodV.bytes_len]; decide
theorem eq3_same (a b c : Int) (v : World) : (Op.equalIn 10000 22 (.agg #[.int .i64 a, .int .i64 b, .int .i64 c]) (.agg #[.int .i64 a, .int .i64 b, .int .i64 c])).run Try.prog v = .ok true v := by
  rw [Op.equalIn]
  simp [run_underlying Try.underlying22, go_sem]
  rw [show List.range' 0 3 = [0, 1, 2] from rfl]
  simp [List.forIn_cons, go_sem]
theorem put_P0 (w : World) : Calls Try.prog 16 #[.agg #[.string ⟨#[97]⟩, .int .i64 (-5), .bool true, .int .i64 1, .int .i64 2, .int .i64 3, .int .i64 0, .int .i64 2, .int .i64 9, .string ⟨#[98]⟩, .int .i64 7]] w fun e w' => ∃ g c, e = .returned (.tuple #[.slice (some ⟨g, 0, none⟩) 69 c, .int .i64 0]) ∧ OwnI w' w.heap.size 5 .u8 (.slice (some ⟨g, 0, none⟩) 69 c) P0.bytes ∧ Below w.heap.size w w' := by
  refine (pod_Put P0 w P0_ok P0_right).mono ?_
  rintro e w1 ⟨v, rfl, hown, hb⟩
  rcases hown.shape with ⟨rfl, h0⟩ | ⟨g, c, rfl, h1, h2, h3, h4⟩
  · have := P0_len; rw [h0] at this; simp at this
  · rw [P0_len] at hown ⊢
    exact ⟨g, c, rfl, hown, hb⟩

theorem cut_P0 (a : Option Addr) (c : Nat) (w : World) (hi : Ints .u8 w a 70 c (P0.bytes ++ [9])) : Calls Try.prog 23 #[.slice a 70 c] w fun e w' => ∃ a2 c2, e = .returned (.tuple #[.agg #[.string ⟨#[97]⟩, .int .i64 (-5), .bool true, .int .i64 1, .int .i64 2, .int .i64 3, .int .i64 0, .int .i64 2, .int .i64 9, .string ⟨#[98]⟩, .int .i64 7], .slice a2 1 c2, .int .i64 0]) ∧ Below w.heap.size w w' := by
  refine (pod_Cut a 70 c _ w hi (by omega) P0 [9] (cutF_put P0_ok (PodV.fine P0_right) [9]) P0_right).mono ?_
  rintro e w1 ⟨v, rfl, hown, hb⟩
  obtain ⟨a2, c2, rfl, _⟩ := ints_of_own hown (fun m hm => by simp at hm; subst hm; exact wf8 _ (by omega))
  exact ⟨a2, c2, rfl, hb⟩
theorem sums_P0 (w : World) : Calls Try.prog 26 #[.slice (some ⟨w.heap.size, 0, none⟩) 2 2] (w.alloc (.cells #[.string ⟨#[97]⟩, .int .i64 (-5), .bool true, .int .i64 1, .int .i64 2, .int .i64 3, .int .i64 0, .int .i64 2, .int .i64 9, .string ⟨#[98]⟩, .int .i64 7, .string ⟨#[97]⟩, .int .i64 (-5), .bool true, .int .i64 1, .int .i64 2, .int .i64 3, .int .i64 0, .int .i64 2, .int .i64 9, .string ⟨#[98]⟩, .int .i64 7] 24)) fun e w' => e = .returned (.agg #[.int .i64 2, .int .i64 4, .int .i64 6]) ∧ Below w.heap.size w w' := by
  have hr := row_new w ([P0, P0].flatMap PodV.cells) 24 2 11 rfl (by unfold maxLen; omega)
  have h := pod_Sums _ 2 2 [P0, P0] _ rfl (fun x hx => by simp at hx; subst hx; exact P0_ok) hr
  refine Calls.mono h ?_
  rintro e w1 ⟨rfl, hb⟩
  exact ⟨rfl, belStep (belAlloc (Below.refl _ _) _) hb⟩

set_option maxRecDepth 100000 in
set_option maxHeartbeats 8000000 in
theorem awake12 (w : World) : Calls Try.prog 14 #[] w fun e w' => e = .returned (.bool true) ∧ Below w.heap.size w w' := by
  have hw : Below w.heap.size w w := Below.refl _ _
  have hbel := hw
  have heq : ∀ u : World, (Op.equalIn 10000 24 (.agg #[.string ⟨#[97]⟩, .int .i64 (-5), .bool true, .int .i64 1, .int .i64 2, .int .i64 3, .int .i64 0, .int .i64 2, .int .i64 9, .string ⟨#[98]⟩, .int .i64 7]) (.agg #[.string ⟨#[97]⟩, .int .i64 (-5), .bool true, .int .i64 1, .int .i64 2, .int .i64 3, .int .i64 0, .int .i64 2, .int .i64 9, .string ⟨#[98]⟩, .int .i64 7])).run Try.prog u = .ok true u := fun u => eq_pod_same P0 u
  have heq3 := eq3_same 2 4 6
  have PN : ∀ u : World, Calls Try.prog 16 #[.agg #[.string ⟨#[]⟩, .int .i64 0, .bool false, .int .i64 0, .int .i64 0, .int .i64 0, .int .i64 0, .int .i64 0, .int .i64 0, .string ⟨#[]⟩, .int .i64 0]] u fun e w' => e = .returned (.tuple #[.slice none 0 0, .int .i64 1]) ∧ Below u.heap.size u w' := fun u => pod_Put_no zeroP u zeroP_ok zeroP_no
  have HPN := Lib.hid PN
  clear PN
  have CR := Lib.hid (show ∀ u : World, Calls Try.prog 17 #[.agg #[.string ⟨#[97]⟩, .int .i64 (-5), .bool true, .int .i64 1, .int .i64 2, .int .i64 3, .int .i64 0, .int .i64 2, .int .i64 9, .string ⟨#[98]⟩, .int .i64 7]] u fun e w' => e = .returned (.bool true) ∧ Below u.heap.size u w' from fun u => by have := pod_Right P0 u P0_ok; rw [P0_right] at this; exact this)
  have CA := Lib.hid (show ∀ u : World, Calls Try.prog 19 #[.string ⟨#[65]⟩] u fun e w' => e = .returned (.bool false) ∧ u = w' from fun u => by have := pod_Named ⟨#[65]⟩ u (by decide); rw [A_no] at this; exact this)
  have HL := Lib.hid P0_len
  have HL2 := Lib.hid (show (P0.bytes ++ [(9 : Int)]).length = 70 by rw [List.length_append, P0_len]; rfl)
  have HW := Lib.hid (show ∀ m ∈ P0.bytes ++ [(9 : Int)], (Lit.int .u8 m).wf = true from fun m hm => wf8 m (((PodV.bytes_B (PodV.fine P0_right)).app (Bytes.one (by omega))) m hm))
  go_enter Try.func14, Try.ntmps14
  go_upto_region 2 with fail
  have pp0 : (w.alloc (.cells #[.string ⟨#[97]⟩, .int .i64 (-5), .bool true, .int .i64 1, .int .i64 2, .int .i64 3, .int .i64 0, .int .i64 2, .int .i64 9, .string ⟨#[98]⟩, .int .i64 7] 24)).cell? ⟨w.heap.size, 0, none⟩ = some (.string ⟨#[97]⟩) := by first | (simp; done) | (rw [World.cell?_alloc_at _ _ _ _ (by simp)]; rfl) | (rw [World.cell?_alloc_past _ _ _ (by simp <;> omega), World.cell?_alloc_at _ _ _ _ (by simp)]; rfl) | (rw [World.cell?_alloc_past _ _ _ (by simp <;> omega), World.cell?_alloc_past _ _ _ (by simp <;> omega), World.cell?_alloc_at _ _ _ _ (by simp)]; rfl)
  have pp1 : (w.alloc (.cells #[.string ⟨#[97]⟩, .int .i64 (-5), .bool true, .int .i64 1, .int .i64 2, .int .i64 3, .int .i64 0, .int .i64 2, .int .i64 9, .string ⟨#[98]⟩, .int .i64 7] 24)).cell? ⟨w.heap.size, 1, none⟩ = some (.int .i64 (-5)) := by first | (simp; done) | (rw [World.cell?_alloc_at _ _ _ _ (by simp)]; rfl) | (rw [World.cell?_alloc_past _ _ _ (by simp <;> omega), World.cell?_alloc_at _ _ _ _ (by simp)]; rfl) | (rw [World.cell?_alloc_past _ _ _ (by simp <;> omega), World.cell?_alloc_past _ _ _ (by simp <;> omega), World.cell?_alloc_at _ _ _ _ (by simp)]; rfl)
  have pp2 : (w.alloc (.cells #[.string ⟨#[97]⟩, .int .i64 (-5), .bool true, .int .i64 1, .int .i64 2, .int .i64 3, .int .i64 0, .int .i64 2, .int .i64 9, .string ⟨#[98]⟩, .int .i64 7] 24)).cell? ⟨w.heap.size, 2, none⟩ = some (.bool true) := by first | (simp; done) | (rw [World.cell?_alloc_at _ _ _ _ (by simp)]; rfl) | (rw [World.cell?_alloc_past _ _ _ (by simp <;> omega), World.cell?_alloc_at _ _ _ _ (by simp)]; rfl) | (rw [World.cell?_alloc_past _ _ _ (by simp <;> omega), World.cell?_alloc_past _ _ _ (by simp <;> omega), World.cell?_alloc_at _ _ _ _ (by simp)]; rfl)
  have pp3 : (w.alloc (.cells #[.string ⟨#[97]⟩, .int .i64 (-5), .bool true, .int .i64 1, .int .i64 2, .int .i64 3, .int .i64 0, .int .i64 2, .int .i64 9, .string ⟨#[98]⟩, .int .i64 7] 24)).cell? ⟨w.heap.size, 3, none⟩ = some (.int .i64 1) := by first | (simp; done) | (rw [World.cell?_alloc_at _ _ _ _ (by simp)]; rfl) | (rw [World.cell?_alloc_past _ _ _ (by simp <;> omega), World.cell?_alloc_at _ _ _ _ (by simp)]; rfl) | (rw [World.cell?_alloc_past _ _ _ (by simp <;> omega), World.cell?_alloc_past _ _ _ (by simp <;> omega), World.cell?_alloc_at _ _ _ _ (by simp)]; rfl)
  have pp4 : (w.alloc (.cells #[.string ⟨#[97]⟩, .int .i64 (-5), .bool true, .int .i64 1, .int .i64 2, .int .i64 3, .int .i64 0, .int .i64 2, .int .i64 9, .string ⟨#[98]⟩, .int .i64 7] 24)).cell? ⟨w.heap.size, 4, none⟩ = some (.int .i64 2) := by first | (simp; done) | (rw [World.cell?_alloc_at _ _ _ _ (by simp)]; rfl) | (rw [World.cell?_alloc_past _ _ _ (by simp <;> omega), World.cell?_alloc_at _ _ _ _ (by simp)]; rfl) | (rw [World.cell?_alloc_past _ _ _ (by simp <;> omega), World.cell?_alloc_past _ _ _ (by simp <;> omega), World.cell?_alloc_at _ _ _ _ (by simp)]; rfl)
  have pp5 : (w.alloc (.cells #[.string ⟨#[97]⟩, .int .i64 (-5), .bool true, .int .i64 1, .int .i64 2, .int .i64 3, .int .i64 0, .int .i64 2, .int .i64 9, .string ⟨#[98]⟩, .int .i64 7] 24)).cell? ⟨w.heap.size, 5, none⟩ = some (.int .i64 3) := by first | (simp; done) | (rw [World.cell?_alloc_at _ _ _ _ (by simp)]; rfl) | (rw [World.cell?_alloc_past _ _ _ (by simp <;> omega), World.cell?_alloc_at _ _ _ _ (by simp)]; rfl) | (rw [World.cell?_alloc_past _ _ _ (by simp <;> omega), World.cell?_alloc_past _ _ _ (by simp <;> omega), World.cell?_alloc_at _ _ _ _ (by simp)]; rfl)
  have pp6 : (w.alloc (.cells #[.string ⟨#[97]⟩, .int .i64 (-5), .bool true, .int .i64 1, .int .i64 2, .int .i64 3, .int .i64 0, .int .i64 2, .int .i64 9, .string ⟨#[98]⟩, .int .i64 7] 24)).cell? ⟨w.heap.size, 6, none⟩ = some (.int .i64 0) := by first | (simp; done) | (rw [World.cell?_alloc_at _ _ _ _ (by simp)]; rfl) | (rw [World.cell?_alloc_past _ _ _ (by simp <;> omega), World.cell?_alloc_at _ _ _ _ (by simp)]; rfl) | (rw [World.cell?_alloc_past _ _ _ (by simp <;> omega), World.cell?_alloc_past _ _ _ (by simp <;> omega), World.cell?_alloc_at _ _ _ _ (by simp)]; rfl)
  have pp7 : (w.alloc (.cells #[.string ⟨#[97]⟩, .int .i64 (-5), .bool true, .int .i64 1, .int .i64 2, .int .i64 3, .int .i64 0, .int .i64 2, .int .i64 9, .string ⟨#[98]⟩, .int .i64 7] 24)).cell? ⟨w.heap.size, 7, none⟩ = some (.int .i64 2) := by first | (simp; done) | (rw [World.cell?_alloc_at _ _ _ _ (by simp)]; rfl) | (rw [World.cell?_alloc_past _ _ _ (by simp <;> omega), World.cell?_alloc_at _ _ _ _ (by simp)]; rfl) | (rw [World.cell?_alloc_past _ _ _ (by simp <;> omega), World.cell?_alloc_past _ _ _ (by simp <;> omega), World.cell?_alloc_at _ _ _ _ (by simp)]; rfl)
  have pp8 : (w.alloc (.cells #[.string ⟨#[97]⟩, .int .i64 (-5), .bool true, .int .i64 1, .int .i64 2, .int .i64 3, .int .i64 0, .int .i64 2, .int .i64 9, .string ⟨#[98]⟩, .int .i64 7] 24)).cell? ⟨w.heap.size, 8, none⟩ = some (.int .i64 9) := by first | (simp; done) | (rw [World.cell?_alloc_at _ _ _ _ (by simp)]; rfl) | (rw [World.cell?_alloc_past _ _ _ (by simp <;> omega), World.cell?_alloc_at _ _ _ _ (by simp)]; rfl) | (rw [World.cell?_alloc_past _ _ _ (by simp <;> omega), World.cell?_alloc_past _ _ _ (by simp <;> omega), World.cell?_alloc_at _ _ _ _ (by simp)]; rfl)
  have pp9 : (w.alloc (.cells #[.string ⟨#[97]⟩, .int .i64 (-5), .bool true, .int .i64 1, .int .i64 2, .int .i64 3, .int .i64 0, .int .i64 2, .int .i64 9, .string ⟨#[98]⟩, .int .i64 7] 24)).cell? ⟨w.heap.size, 9, none⟩ = some (.string ⟨#[98]⟩) := by first | (simp; done) | (rw [World.cell?_alloc_at _ _ _ _ (by simp)]; rfl) | (rw [World.cell?_alloc_past _ _ _ (by simp <;> omega), World.cell?_alloc_at _ _ _ _ (by simp)]; rfl) | (rw [World.cell?_alloc_past _ _ _ (by simp <;> omega), World.cell?_alloc_past _ _ _ (by simp <;> omega), World.cell?_alloc_at _ _ _ _ (by simp)]; rfl)
  have pp10 : (w.alloc (.cells #[.string ⟨#[97]⟩, .int .i64 (-5), .bool true, .int .i64 1, .int .i64 2, .int .i64 3, .int .i64 0, .int .i64 2, .int .i64 9, .string ⟨#[98]⟩, .int .i64 7] 24)).cell? ⟨w.heap.size, 10, none⟩ = some (.int .i64 7) := by first | (simp; done) | (rw [World.cell?_alloc_at _ _ _ _ (by simp)]; rfl) | (rw [World.cell?_alloc_past _ _ _ (by simp <;> omega), World.cell?_alloc_at _ _ _ _ (by simp)]; rfl) | (rw [World.cell?_alloc_past _ _ _ (by simp <;> omega), World.cell?_alloc_past _ _ _ (by simp <;> omega), World.cell?_alloc_at _ _ _ _ (by simp)]; rfl)
  have hb2 := (by repeat (first | exact hbel | refine belAlloc ?_ _ | refine belDrew ?_ | refine belSet ?_ _ _ (by simp)) : Below w.heap.size w (w.alloc (.cells #[.string ⟨#[97]⟩, .int .i64 (-5), .bool true, .int .i64 1, .int .i64 2, .int .i64 3, .int .i64 0, .int .i64 2, .int .i64 9, .string ⟨#[98]⟩, .int .i64 7] 24)))
  replace hw := belStep hw hb2
  clear hb2 hbel
  generalize w.alloc (.cells #[.string ⟨#[97]⟩, .int .i64 (-5), .bool true, .int .i64 1, .int .i64 2, .int .i64 3, .int .i64 0, .int .i64 2, .int .i64 9, .string ⟨#[98]⟩, .int .i64 7] 24) = W1 at *
  replace pp0 := keep pp0
  replace pp1 := keep pp1
  replace pp2 := keep pp2
  replace pp3 := keep pp3
  replace pp4 := keep pp4
  replace pp5 := keep pp5
  replace pp6 := keep pp6
  replace pp7 := keep pp7
  replace pp8 := keep pp8
  replace pp9 := keep pp9
  replace pp10 := keep pp10
  have hbel : Below W1.heap.size W1 W1 := Below.refl _ _
  skip
  go_upto_region 4 with (first
    | (go_at_call 16; (with_reducible refine (put_P0 _).mono ?_); rintro e w2 ⟨g, c, rfl, hown, hb2⟩; have HO := Lib.hid hown; replace hbel := belStep hbel hb2; clear hown hb2)
    | (at_builtin; refine wpList_app_one rfl _ _ 27 rfl W1.heap.size 5 .u8 1 Try.underlying27 info_u8 _ P0.bytes rfl (HL.out.symm ▸ (HO.out.alloc (.cells #[.int .u8 9] 5))) _ _ rfl (by simp; rfl) (by rw [HL.out]; unfold maxLen; omega) (by rw [HL.out]; omega) (by have := hbel.size; simp; omega) ?_; intro v5 w5 ho5 hb5 hg5 hm5; replace hbel := (belAlloc hbel _).trans hb5; obtain ⟨a5, c5, rfl, hi5⟩ := ints_of_own ho5 HW.out; rw [HL2.out] at hi5 ⊢; have CC := Lib.hid (cut_P0 a5 c5 w5 hi5); clear ho5 hb5 hg5 hm5 hi5)
    | (go_at_call 23; (with_reducible refine CC.out.mono ?_); rintro e w6 ⟨a6, c6, rfl, hb6⟩; replace hbel := belStep hbel hb6; clear hb6))
  have qq0 : (w6.alloc (.cells #[.string ⟨#[97]⟩, .int .i64 (-5), .bool true, .int .i64 1, .int .i64 2, .int .i64 3, .int .i64 0, .int .i64 2, .int .i64 9, .string ⟨#[98]⟩, .int .i64 7] 24)).cell? ⟨w6.heap.size, 0, none⟩ = some (.string ⟨#[97]⟩) := by first | (simp; done) | (rw [World.cell?_alloc_at _ _ _ _ (by simp)]; rfl) | (rw [World.cell?_alloc_past _ _ _ (by simp <;> omega), World.cell?_alloc_at _ _ _ _ (by simp)]; rfl) | (rw [World.cell?_alloc_past _ _ _ (by simp <;> omega), World.cell?_alloc_past _ _ _ (by simp <;> omega), World.cell?_alloc_at _ _ _ _ (by simp)]; rfl)
  have qq1 : (w6.alloc (.cells #[.string ⟨#[97]⟩, .int .i64 (-5), .bool true, .int .i64 1, .int .i64 2, .int .i64 3, .int .i64 0, .int .i64 2, .int .i64 9, .string ⟨#[98]⟩, .int .i64 7] 24)).cell? ⟨w6.heap.size, 1, none⟩ = some (.int .i64 (-5)) := by first | (simp; done) | (rw [World.cell?_alloc_at _ _ _ _ (by simp)]; rfl) | (rw [World.cell?_alloc_past _ _ _ (by simp <;> omega), World.cell?_alloc_at _ _ _ _ (by simp)]; rfl) | (rw [World.cell?_alloc_past _ _ _ (by simp <;> omega), World.cell?_alloc_past _ _ _ (by simp <;> omega), World.cell?_alloc_at _ _ _ _ (by simp)]; rfl)
  have qq2 : (w6.alloc (.cells #[.string ⟨#[97]⟩, .int .i64 (-5), .bool true, .int .i64 1, .int .i64 2, .int .i64 3, .int .i64 0, .int .i64 2, .int .i64 9, .string ⟨#[98]⟩, .int .i64 7] 24)).cell? ⟨w6.heap.size, 2, none⟩ = some (.bool true) := by first | (simp; done) | (rw [World.cell?_alloc_at _ _ _ _ (by simp)]; rfl) | (rw [World.cell?_alloc_past _ _ _ (by simp <;> omega), World.cell?_alloc_at _ _ _ _ (by simp)]; rfl) | (rw [World.cell?_alloc_past _ _ _ (by simp <;> omega), World.cell?_alloc_past _ _ _ (by simp <;> omega), World.cell?_alloc_at _ _ _ _ (by simp)]; rfl)
  have qq3 : (w6.alloc (.cells #[.string ⟨#[97]⟩, .int .i64 (-5), .bool true, .int .i64 1, .int .i64 2, .int .i64 3, .int .i64 0, .int .i64 2, .int .i64 9, .string ⟨#[98]⟩, .int .i64 7] 24)).cell? ⟨w6.heap.size, 3, none⟩ = some (.int .i64 1) := by first | (simp; done) | (rw [World.cell?_alloc_at _ _ _ _ (by simp)]; rfl) | (rw [World.cell?_alloc_past _ _ _ (by simp <;> omega), World.cell?_alloc_at _ _ _ _ (by simp)]; rfl) | (rw [World.cell?_alloc_past _ _ _ (by simp <;> omega), World.cell?_alloc_past _ _ _ (by simp <;> omega), World.cell?_alloc_at _ _ _ _ (by simp)]; rfl)
  have qq4 : (w6.alloc (.cells #[.string ⟨#[97]⟩, .int .i64 (-5), .bool true, .int .i64 1, .int .i64 2, .int .i64 3, .int .i64 0, .int .i64 2, .int .i64 9, .string ⟨#[98]⟩, .int .i64 7] 24)).cell? ⟨w6.heap.size, 4, none⟩ = some (.int .i64 2) := by first | (simp; done) | (rw [World.cell?_alloc_at _ _ _ _ (by simp)]; rfl) | (rw [World.cell?_alloc_past _ _ _ (by simp <;> omega), World.cell?_alloc_at _ _ _ _ (by simp)]; rfl) | (rw [World.cell?_alloc_past _ _ _ (by simp <;> omega), World.cell?_alloc_past _ _ _ (by simp <;> omega), World.cell?_alloc_at _ _ _ _ (by simp)]; rfl)
  have qq5 : (w6.alloc (.cells #[.string ⟨#[97]⟩, .int .i64 (-5), .bool true, .int .i64 1, .int .i64 2, .int .i64 3, .int .i64 0, .int .i64 2, .int .i64 9, .string ⟨#[98]⟩, .int .i64 7] 24)).cell? ⟨w6.heap.size, 5, none⟩ = some (.int .i64 3) := by first | (simp; done) | (rw [World.cell?_alloc_at _ _ _ _ (by simp)]; rfl) | (rw [World.cell?_alloc_past _ _ _ (by simp <;> omega), World.cell?_alloc_at _ _ _ _ (by simp)]; rfl) | (rw [World.cell?_alloc_past _ _ _ (by simp <;> omega), World.cell?_alloc_past _ _ _ (by simp <;> omega), World.cell?_alloc_at _ _ _ _ (by simp)]; rfl)
  have qq6 : (w6.alloc (.cells #[.string ⟨#[97]⟩, .int .i64 (-5), .bool true, .int .i64 1, .int .i64 2, .int .i64 3, .int .i64 0, .int .i64 2, .int .i64 9, .string ⟨#[98]⟩, .int .i64 7] 24)).cell? ⟨w6.heap.size, 6, none⟩ = some (.int .i64 0) := by first | (simp; done) | (rw [World.cell?_alloc_at _ _ _ _ (by simp)]; rfl) | (rw [World.cell?_alloc_past _ _ _ (by simp <;> omega), World.cell?_alloc_at _ _ _ _ (by simp)]; rfl) | (rw [World.cell?_alloc_past _ _ _ (by simp <;> omega), World.cell?_alloc_past _ _ _ (by simp <;> omega), World.cell?_alloc_at _ _ _ _ (by simp)]; rfl)
  have qq7 : (w6.alloc (.cells #[.string ⟨#[97]⟩, .int .i64 (-5), .bool true, .int .i64 1, .int .i64 2, .int .i64 3, .int .i64 0, .int .i64 2, .int .i64 9, .string ⟨#[98]⟩, .int .i64 7] 24)).cell? ⟨w6.heap.size, 7, none⟩ = some (.int .i64 2) := by first | (simp; done) | (rw [World.cell?_alloc_at _ _ _ _ (by simp)]; rfl) | (rw [World.cell?_alloc_past _ _ _ (by simp <;> omega), World.cell?_alloc_at _ _ _ _ (by simp)]; rfl) | (rw [World.cell?_alloc_past _ _ _ (by simp <;> omega), World.cell?_alloc_past _ _ _ (by simp <;> omega), World.cell?_alloc_at _ _ _ _ (by simp)]; rfl)
  have qq8 : (w6.alloc (.cells #[.string ⟨#[97]⟩, .int .i64 (-5), .bool true, .int .i64 1, .int .i64 2, .int .i64 3, .int .i64 0, .int .i64 2, .int .i64 9, .string ⟨#[98]⟩, .int .i64 7] 24)).cell? ⟨w6.heap.size, 8, none⟩ = some (.int .i64 9) := by first | (simp; done) | (rw [World.cell?_alloc_at _ _ _ _ (by simp)]; rfl) | (rw [World.cell?_alloc_past _ _ _ (by simp <;> omega), World.cell?_alloc_at _ _ _ _ (by simp)]; rfl) | (rw [World.cell?_alloc_past _ _ _ (by simp <;> omega), World.cell?_alloc_past _ _ _ (by simp <;> omega), World.cell?_alloc_at _ _ _ _ (by simp)]; rfl)
  have qq9 : (w6.alloc (.cells #[.string ⟨#[97]⟩, .int .i64 (-5), .bool true, .int .i64 1, .int .i64 2, .int .i64 3, .int .i64 0, .int .i64 2, .int .i64 9, .string ⟨#[98]⟩, .int .i64 7] 24)).cell? ⟨w6.heap.size, 9, none⟩ = some (.string ⟨#[98]⟩) := by first | (simp; done) | (rw [World.cell?_alloc_at _ _ _ _ (by simp)]; rfl) | (rw [World.cell?_alloc_past _ _ _ (by simp <;> omega), World.cell?_alloc_at _ _ _ _ (by simp)]; rfl) | (rw [World.cell?_alloc_past _ _ _ (by simp <;> omega), World.cell?_alloc_past _ _ _ (by simp <;> omega), World.cell?_alloc_at _ _ _ _ (by simp)]; rfl)
  have qq10 : (w6.alloc (.cells #[.string ⟨#[97]⟩, .int .i64 (-5), .bool true, .int .i64 1, .int .i64 2, .int .i64 3, .int .i64 0, .int .i64 2, .int .i64 9, .string ⟨#[98]⟩, .int .i64 7] 24)).cell? ⟨w6.heap.size, 10, none⟩ = some (.int .i64 7) := by first | (simp; done) | (rw [World.cell?_alloc_at _ _ _ _ (by simp)]; rfl) | (rw [World.cell?_alloc_past _ _ _ (by simp <;> omega), World.cell?_alloc_at _ _ _ _ (by simp)]; rfl) | (rw [World.cell?_alloc_past _ _ _ (by simp <;> omega), World.cell?_alloc_past _ _ _ (by simp <;> omega), World.cell?_alloc_at _ _ _ _ (by simp)]; rfl)
  have hb2 := (by repeat (first | exact hbel | refine belAlloc ?_ _ | refine belDrew ?_ | refine belSet ?_ _ _ (by simp)) : Below W1.heap.size W1 (w6.alloc (.cells #[.string ⟨#[97]⟩, .int .i64 (-5), .bool true, .int .i64 1, .int .i64 2, .int .i64 3, .int .i64 0, .int .i64 2, .int .i64 9, .string ⟨#[98]⟩, .int .i64 7] 24)))
  replace pp0 := keepOnP pp0 hb2
  replace pp1 := keepOnP pp1 hb2
  replace pp2 := keepOnP pp2 hb2
  replace pp3 := keepOnP pp3 hb2
  replace pp4 := keepOnP pp4 hb2
  replace pp5 := keepOnP pp5 hb2
  replace pp6 := keepOnP pp6 hb2
  replace pp7 := keepOnP pp7 hb2
  replace pp8 := keepOnP pp8 hb2
  replace pp9 := keepOnP pp9 hb2
  replace pp10 := keepOnP pp10 hb2
  replace hw := belStep hw hb2
  clear hb2 hbel
  generalize w6.alloc (.cells #[.string ⟨#[97]⟩, .int .i64 (-5), .bool true, .int .i64 1, .int .i64 2, .int .i64 3, .int .i64 0, .int .i64 2, .int .i64 9, .string ⟨#[98]⟩, .int .i64 7] 24) = W2 at *
  replace qq0 := keep qq0
  replace qq1 := keep qq1
  replace qq2 := keep qq2
  replace qq3 := keep qq3
  replace qq4 := keep qq4
  replace qq5 := keep qq5
  replace qq6 := keep qq6
  replace qq7 := keep qq7
  replace qq8 := keep qq8
  replace qq9 := keep qq9
  replace qq10 := keep qq10
  generalize w6.heap.size = Q at *
  have hbel : Below W2.heap.size W2 W2 := Below.refl _ _
  clear w6
  go_wp2_with (first | (go_at_call 16; (with_reducible refine (HPN.out _).mono ?_); rintro e w7 ⟨rfl, hb7⟩; replace hbel := belStep hbel hb7; clear hb7) | (go_at_call 17; (with_reducible refine (CR.out _).mono ?_); rintro e w8 ⟨rfl, hb8⟩; replace hbel := belStep hbel hb8; clear hb8) | (go_at_call 19; (with_reducible refine (CA.out _).mono ?_); rintro e w9 ⟨rfl, rfl⟩) | (go_at_call 26; (with_reducible refine (sums_P0 _).mono ?_); rintro e w10 ⟨rfl, hb10⟩; replace hbel := belStep hbel hb10; clear hb10))
  go_ret
  exact ⟨rfl, belStep hw hbel⟩
end Go.Proofs.Ytnfblpiapendeaa
