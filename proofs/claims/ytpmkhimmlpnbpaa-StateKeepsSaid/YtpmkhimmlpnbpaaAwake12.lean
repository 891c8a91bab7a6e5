
/- The fixed answers of layer 12's statements. -/
import Derived.Test.YtpmkhimmlpnbpaaPodSums
namespace Go.Proofs.Ytpmkhimmlpnbpaa
open Go.RowKit
set_option linter.unusedVariables false
set_option linter.unusedSimpArgs false

def P0 : PodV := ⟨⟨#[97]⟩, -5, true, 1, 2, 3, 0, 2, 9, ⟨#[98]⟩, 7⟩
theorem P0_right : rightB P0 = true := by decide +kernel
theorem P0_ok : P0.ok := by unfold PodV.ok P0 InI maxLen; refine ⟨by decide, by decide, ?_, ?_, ?_, ?_, ?_, ?_, ?_, ?_⟩ <;> (dsimp only; omega)
theorem zeroP_no : rightB zeroP = false := by decide +kernel
theorem zeroP_ok : zeroP.ok := by unfold PodV.ok zeroP InI maxLen; refine ⟨by decide, by decide, ?_, ?_, ?_, ?_, ?_, ?_, ?_, ?_⟩ <;> (dsimp only; omega)
theorem A_no : nameB ⟨#[65]⟩ = false := by decide +kernel
theorem P0_len : P0.bytes.length = 69 := by rw [PodV.bytes_len]; decide
theorem eq3_same (a b c : Int) (v : World) : (Op.equalIn 10000 42 (.agg #[.int .i64 a, .int .i64 b, .int .i64 c]) (.agg #[.int .i64 a, .int .i64 b, .int .i64 c])).run Try.prog v = .ok true v := by
  rw [Op.equalIn]
  simp [run_underlying Try.underlying42, go_sem]
  rw [show List.range' 0 3 = [0, 1, 2] from rfl]
  simp [List.forIn_cons, go_sem]
theorem put_P0 (w : World) : Calls Try.prog 33 #[.agg #[.string ⟨#[97]⟩, .int .i64 (-5), .bool true, .int .i64 1, .int .i64 2, .int .i64 3, .int .i64 0, .int .i64 2, .int .i64 9, .string ⟨#[98]⟩, .int .i64 7]] w fun e w' => ∃ g c, e = .returned (.tuple #[.slice (some ⟨g, 0, none⟩) 69 c, .int .i64 0]) ∧ OwnI w' w.heap.size 5 .u8 (.slice (some ⟨g, 0, none⟩) 69 c) P0.bytes ∧ Below w.heap.size w w' := by
  refine (pod_Put P0 w P0_ok P0_right).mono ?_
  rintro e w1 ⟨v, rfl, hown, hb⟩
  rcases hown.shape with ⟨rfl, h0⟩ | ⟨g, c, rfl, h1, h2, h3, h4⟩
  · have := P0_len; rw [h0] at this; simp at this
  · rw [P0_len] at hown ⊢
    exact ⟨g, c, rfl, hown, hb⟩

theorem cut_P0 (a : Option Addr) (c : Nat) (w : World) (hi : Ints .u8 w a 70 c (P0.bytes ++ [9])) : Calls Try.prog 53 #[.slice a 70 c] w fun e w' => ∃ a2 c2, e = .returned (.tuple #[.agg #[.string ⟨#[97]⟩, .int .i64 (-5), .bool true, .int .i64 1, .int .i64 2, .int .i64 3, .int .i64 0, .int .i64 2, .int .i64 9, .string ⟨#[98]⟩, .int .i64 7], .slice a2 1 c2, .int .i64 0]) ∧ Below w.heap.size w w' := by
  refine (pod_Cut a 70 c _ w hi (by omega) P0 [9] (cutF_put P0_ok (PodV.fine P0_right) [9]) P0_right).mono ?_
  rintro e w1 ⟨v, rfl, hown, hb⟩
  obtain ⟨a2, c2, rfl, _⟩ := ints_of_own hown (fun m hm => by simp at hm; subst hm; exact wf8 _ (by omega))
  exact ⟨a2, c2, rfl, hb⟩
theorem sums_P0 (w : World) : Calls Try.prog 57 #[.slice (some ⟨w.heap.size, 0, none⟩) 2 2] (w.alloc (.cells #[.string ⟨#[97]⟩, .int .i64 (-5), .bool true, .int .i64 1, .int .i64 2, .int .i64 3, .int .i64 0, .int .i64 2, .int .i64 9, .string ⟨#[98]⟩, .int .i64 7, .string ⟨#[97]⟩, .int .i64 (-5), .bool true, .int .i64 1, .int .i64 2, .int .i64 3, .int .i64 0, .int .i64 2, .int .i64 9, .string ⟨#[98]⟩, .int .i64 7] 44)) fun e w' => e = .returned (.agg #[.int .i64 2, .int .i64 4, .int .i64 6]) ∧ Below w.heap.size w w' := by
  have hr := row_new w ([P0, P0].flatMap PodV.cells) 44 2 11 rfl (by unfold maxLen; omega)
  have h := pod_Sums _ 2 2 [P0, P0] _ rfl (fun x hx => by simp at hx; subst hx; exact P0_ok) hr
  refine Calls.mono h ?_
  rintro e w1 ⟨rfl, hb⟩
  exact ⟨rfl, belStep (belAlloc (Below.refl _ _) _) hb⟩

end Go.Proofs.Ytpmkhimmlpnbpaa
