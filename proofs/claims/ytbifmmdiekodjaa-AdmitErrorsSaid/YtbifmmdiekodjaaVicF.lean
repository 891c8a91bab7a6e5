
/- bilgelaw21.awake: contract. -/
import Derived.Test.YtbifmmdiekodjaaVicE
namespace Go.Proofs.Ytbifmmdiekodjaa
open Go.RowKit
set_option linter.unusedVariables false
set_option linter.unusedSimpArgs false

def vA : PodV := ⟨⟨#[97]⟩, 1, false, 4, 0, 0, 0, 0, 0, ⟨#[120]⟩, 0⟩
def vB : PodV := ⟨⟨#[98]⟩, 2, false, 4, 0, 0, 0, 0, 0, ⟨#[120]⟩, 0⟩
def vP : PodV := ⟨⟨#[112]⟩, 9, true, 5, 0, 0, 0, 0, 0, ⟨#[120]⟩, 0⟩
def vQ : PodV := ⟨⟨#[112]⟩, 9, false, 5, 0, 0, 0, 0, 0, ⟨#[120]⟩, 0⟩
def vR : Room := ⟨10, 0, 0⟩
theorem vok (p : PodV) (h : p = vA ∨ p = vB ∨ p = vP ∨ p = vQ) : p.ok := by
  rcases h with rfl | rfl | rfl | rfl <;> (unfold PodV.ok InI; refine ⟨by decide, by decide, ?_, ?_, ?_, ?_, ?_, ?_, ?_, ?_⟩ <;> constructor <;> decide)
theorem dist_ab : Dist [vA, vB] := by
  unfold Dist
  simp only [List.pairwise_cons, List.mem_cons, List.mem_nil_iff, or_false, forall_eq, false_implies, implies_true, List.Pairwise.nil, and_true]
  intro h
  have := congrArg ByteArray.toList h
  revert this
  decide +kernel
theorem sort_ab : sortP [vA, vB] = [vB, vA] := by
  refine (sortP_unique dist_ab (List.Perm.swap _ _ _) ?_).symm
  simp only [List.pairwise_cons, List.mem_cons, List.mem_nil_iff, or_false, forall_eq, false_implies, implies_true, List.Pairwise.nil, and_true]
  unfold ltP
  exact decide_eq_false (by rintro (h | ⟨h, _⟩) <;> revert h <;> decide)
theorem sort_one (s : ByteArray) : sortS [s] = [s] := by
  unfold sortS
  simp [bA_l]
theorem ch_1 : chooseF vR [vA, vB] vP = some [⟨#[97]⟩] := by
  unfold chooseF
  rw [show fitsB vR ([vA, vB] ++ [vP]) = false by decide +kernel, show stF [vA, vB] vP = [] from rfl, show mayF [vA, vB] vP = [vA, vB] from rfl, show fitsB vR ([] ++ [vP]) = true by decide +kernel, sort_ab]
  rw [if_neg (by simp), if_pos rfl]
  unfold goF goF goF
  rw [if_pos (show fitsB vR ([] ++ [vP] ++ [vB]) = true by decide +kernel), if_neg (by rw [show fitsB vR ([] ++ [vP] ++ [vB] ++ [vA]) = false by decide +kernel]; simp)]
  rw [List.map_cons, List.map_nil, sort_one]
  rfl
theorem ch_2 : chooseF vR [vA, vB] vQ = none := by
  unfold chooseF
  rw [show fitsB vR ([vA, vB] ++ [vQ]) = false by decide +kernel, show stF [vA, vB] vQ = [vA, vB] from rfl, show fitsB vR ([vA, vB] ++ [vQ]) = false by decide +kernel]
  rfl
theorem ch_3 : chooseF vR [vA] vQ = some [] := by
  unfold chooseF
  rw [show fitsB vR ([vA] ++ [vQ]) = true by decide +kernel]
  rfl
theorem ft_1 : fitsB vR [vA, vQ] = true := by decide +kernel
theorem ft_2 : fitsB vR [vA, vB, vQ] = false := by decide +kernel
theorem dist_a : Dist [vA] := by unfold Dist; simp

end Go.Proofs.Ytbifmmdiekodjaa
