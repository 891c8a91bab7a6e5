/- bilgelaw21.awake: contract. -/
import Derived.Test.YtnnmganjlhojfaaVicE
namespace Go.Proofs.Ytnnmganjlhojfaa
open Go.RowKit
set_option linter.unusedVariables false
set_option linter.unusedSimpArgs false

def vA : PodV := ⟨⟨#[97]⟩, 1, false, 4, 0, 0, 0, 0, 0, ⟨#[120]⟩, 0⟩
def vB : PodV := ⟨⟨#[98]⟩, 2, false, 4, 0, 0, 0, 0, 0, ⟨#[120]⟩, 0⟩
def vP : PodV := ⟨⟨#[112]⟩, 9, true, 5, 0, 0, 0, 0, 0, ⟨#[120]⟩, 0⟩
def vQ : PodV := ⟨⟨#[112]⟩, 9, false, 5, 0, 0, 0, 0, 0, ⟨#[120]⟩, 0⟩
def vR : Room := ⟨10, 0, 0⟩
theorem vok (p : PodV) (h : p = vA ∨ p = vB ∨ p = vP ∨ p = vQ) : p.ok := by
  rcases h with rfl | rfl | rfl | rfl <;> (unfold PodV.ok InI; refine ⟨by decide, by decide, ?_, ?_, ?_, ?_, ?_, ?_, ?_, ?_⟩ <;> constructor <;> decide)
theorem dist_ab : Dist [vA, vB] := by
  unfold Dist
  simp only [List.pairwise_cons, List.mem_cons, List.mem_nil_iff, or_false, forall_eq, false_implies, implies_true, List.Pairwise.nil, and_true]
  intro h
  have := congrArg ByteArray.toList h
  revert this
  decide +kernel
theorem sort_ab : sortP [vA, vB] = [vB, vA] := by
  refine (sortP_unique dist_ab (List.Perm.swap _ _ _) ?_).symm
  simp only [List.pairwise_cons, List.mem_cons, List.mem_nil_iff, or_false, forall_eq, false_implies, implies_true, List.Pairwise.nil, and_true]
  unfold ltP
  exact decide_eq_false (by rintro (h | ⟨h, _⟩) <;> revert h <;> decide)
theorem sort_one (s : ByteArray) : sortS [s] = [s] := by
  unfold sortS
  simp [bA_l]
theorem ch_1 : chooseF vR [vA, vB] vP = some [⟨#[97]⟩] := by
  unfold chooseF
  rw [show fitsB vR ([vA, vB] ++ [vP]) = false by decide +kernel, show stF [vA, vB] vP = [] from rfl, show mayF [vA, vB] vP = [vA, vB] from rfl, show fitsB vR ([] ++ [vP]) = true by decide +kernel, sort_ab]
  rw [if_neg (by simp), if_pos rfl]
  unfold goF goF goF
  rw [if_pos (show fitsB vR ([] ++ [vP] ++ [vB]) = true by decide +kernel), if_neg (by rw [show fitsB vR ([] ++ [vP] ++ [vB] ++ [vA]) = false by decide +kernel]; simp)]
  rw [List.map_cons, List.map_nil, sort_one]
  rfl
theorem ch_2 : chooseF vR [vA, vB] vQ = none := by
  unfold chooseF
  rw [show fitsB vR ([vA, vB] ++ [vQ]) = false by decide +kernel, show stF [vA, vB] vQ = [vA, vB] from rfl, show fitsB vR ([vA, vB] ++ [vQ]) = false by decide +kernel]
  rfl
theorem ch_3 : chooseF vR [vA] vQ = some [] := by
  unfold chooseF
  rw [show fitsB vR ([vA] ++ [vQ]) = true by decide +kernel]
  rfl
theorem ft_1 : fitsB vR [vA, vQ] = true := by decide +kernel
theorem ft_2 : fitsB vR [vA, vB, vQ] = false := by decide +kernel
theorem dist_a : Dist [vA] := by unfold Dist; simp

set_option maxRecDepth 100000 in
set_option maxHeartbeats 16000000 in
theorem awake21 (w : World) : Calls Try.prog 12 #[] w fun e w' => e = .returned (.bool true) ∧ Below w.heap.size w w' := by
  have hw : Below w.heap.size w w := Below.refl _ _
  have hbel := hw
  have C1 := Lib.hid (show ∀ g v, Row v (some ⟨g, 0, none⟩) 2 2 11 ([vA, vB].flatMap PodV.cells) → Calls Try.prog 16 #[.agg #[.int .i64 10, .int .i64 0, .int .i64 0], .slice (some ⟨g, 0, none⟩) 2 2, .agg #[.string ⟨#[112]⟩, .int .i64 9, .bool true, .int .i64 5, .int .i64 0, .int .i64 0, .int .i64 0, .int .i64 0, .int .i64 0, .string ⟨#[120]⟩, .int .i64 0]] v fun e w' => ∃ b c, e = .returned (.tuple #[.slice (some b) 1 c, .bool true]) ∧ w'.cell? b = some (.string ⟨#[97]⟩) ∧ v.heap.size ≤ b.block ∧ Below v.heap.size v w' from fun g v h => by
    refine (vic_Choose vR vP _ 2 2 [vA, vB] v rfl (fun x hx => vok x (by simp at hx; rcases hx with h | h <;> simp [h])) h dist_ab (by omega) (vok _ (by simp))).mono ?_
    rintro e w' ⟨hr, hb⟩
    rw [ch_1] at hr
    rcases hr with ⟨h0, _⟩ | ⟨G, v5, hG, rfl, hO⟩
    · cases h0
    · cases hG
      obtain ⟨a5, c5, rfl, hr5⟩ := rowR_of_own hO
      obtain ⟨h1, h2, h3, h4, h5⟩ := hr5
      rcases h5 with h5 | ⟨b5, o5, rfl, hc5⟩
      · simp at h5
      · refine ⟨⟨b5, o5, none⟩, c5, rfl, ?_, (World.ownsRow.lt hO b5 rfl).1, hb⟩
        have := hc5 0 (by simp)
        simpa using this)
  have C2 := Lib.hid (show ∀ g v, Row v (some ⟨g, 0, none⟩) 2 2 11 ([vA, vB].flatMap PodV.cells) → Calls Try.prog 16 #[.agg #[.int .i64 10, .int .i64 0, .int .i64 0], .slice (some ⟨g, 0, none⟩) 2 2, .agg #[.string ⟨#[112]⟩, .int .i64 9, .bool false, .int .i64 5, .int .i64 0, .int .i64 0, .int .i64 0, .int .i64 0, .int .i64 0, .string ⟨#[120]⟩, .int .i64 0]] v fun e w' => e = .returned (.tuple #[.slice none 0 0, .bool false]) ∧ Below v.heap.size v w' from fun g v h => by
    refine (vic_Choose vR vQ _ 2 2 [vA, vB] v rfl (fun x hx => vok x (by simp at hx; rcases hx with h | h <;> simp [h])) h dist_ab (by omega) (vok _ (by simp))).mono ?_
    rintro e w' ⟨hr, hb⟩
    rw [ch_2] at hr
    rcases hr with ⟨_, h0⟩ | ⟨G, v5, hG, _, _⟩
    · exact ⟨h0, hb⟩
    · cases hG)
  have C3 := Lib.hid (show ∀ g v, Row v (some ⟨g, 0, none⟩) 1 1 11 ([vA].flatMap PodV.cells) → Calls Try.prog 16 #[.agg #[.int .i64 10, .int .i64 0, .int .i64 0], .slice (some ⟨g, 0, none⟩) 1 1, .agg #[.string ⟨#[112]⟩, .int .i64 9, .bool false, .int .i64 5, .int .i64 0, .int .i64 0, .int .i64 0, .int .i64 0, .int .i64 0, .string ⟨#[120]⟩, .int .i64 0]] v fun e w' => ∃ a c, e = .returned (.tuple #[.slice a 0 c, .bool true]) ∧ Below v.heap.size v w' from fun g v h => by
    refine (vic_Choose vR vQ _ 1 1 [vA] v rfl (fun x hx => vok x (by simp at hx; simp [hx])) h dist_a (by omega) (vok _ (by simp))).mono ?_
    rintro e w' ⟨hr, hb⟩
    rw [ch_3] at hr
    rcases hr with ⟨h0, _⟩ | ⟨G, v5, hG, rfl, hO⟩
    · cases h0
    · cases hG
      obtain ⟨a5, c5, rfl, hr5⟩ := rowR_of_own hO
      exact ⟨a5, c5, rfl, hb⟩)
  have F1 := Lib.hid (show ∀ g v, Row v (some ⟨g, 0, none⟩) 2 2 11 ([vA, vQ].flatMap PodV.cells) → Calls Try.prog 18 #[.agg #[.int .i64 10, .int .i64 0, .int .i64 0], .slice (some ⟨g, 0, none⟩) 2 2] v fun e w' => e = .returned (.bool true) ∧ Below v.heap.size v w' from fun g v h => by
    have := vic_Fits vR _ 2 2 [vA, vQ] v rfl (fun x hx => vok x (by simp at hx; rcases hx with h | h <;> simp [h])) h
    rw [ft_1] at this
    exact this)
  have F2 := Lib.hid (show ∀ g v, Row v (some ⟨g, 0, none⟩) 3 3 11 ([vA, vB, vQ].flatMap PodV.cells) → Calls Try.prog 18 #[.agg #[.int .i64 10, .int .i64 0, .int .i64 0], .slice (some ⟨g, 0, none⟩) 3 3] v fun e w' => e = .returned (.bool false) ∧ Below v.heap.size v w' from fun g v h => by
    have := vic_Fits vR _ 3 3 [vA, vB, vQ] v rfl (fun x hx => vok x (by simp at hx; rcases hx with h | h | h <;> simp [h])) h
    rw [ft_2] at this
    exact this)
  have CM := Lib.hid (show ∀ v, Calls Try.prog 14 #[.agg #[.string ⟨#[112]⟩, .int .i64 9, .bool false, .int .i64 5, .int .i64 0, .int .i64 0, .int .i64 0, .int .i64 0, .int .i64 0, .string ⟨#[120]⟩, .int .i64 0], .agg #[.string ⟨#[97]⟩, .int .i64 1, .bool false, .int .i64 4, .int .i64 0, .int .i64 0, .int .i64 0, .int .i64 0, .int .i64 0, .string ⟨#[120]⟩, .int .i64 0]] v fun e w' => e = .returned (.bool false) ∧ Below v.heap.size v w' from fun v => vic_May vQ vA v)
  go_enter Try.func12, Try.ntmps12
  go_upto_region 3 with fail
  have aa0 : ((w.alloc (.cells #[.string ⟨#[97]⟩, .int .i64 1, .bool false, .int .i64 4, .int .i64 0, .int .i64 0, .int .i64 0, .int .i64 0, .int .i64 0, .string ⟨#[120]⟩, .int .i64 0] 25)).alloc (.cells #[.string ⟨#[98]⟩, .int .i64 2, .bool false, .int .i64 4, .int .i64 0, .int .i64 0, .int .i64 0, .int .i64 0, .int .i64 0, .string ⟨#[120]⟩, .int .i64 0] 25)).cell? ⟨w.heap.size, 0, none⟩ = some (.string ⟨#[97]⟩) := by first | (simp; done) | (rw [World.cell?_alloc_at _ _ _ _ (by simp)]; rfl) | (rw [World.cell?_alloc_past _ _ _ (by simp <;> omega), World.cell?_alloc_at _ _ _ _ (by simp)]; rfl) | (rw [World.cell?_alloc_past _ _ _ (by simp <;> omega), World.cell?_alloc_past _ _ _ (by simp <;> omega), World.cell?_alloc_at _ _ _ _ (by simp)]; rfl)
  have aa1 : ((w.alloc (.cells #[.string ⟨#[97]⟩, .int .i64 1, .bool false, .int .i64 4, .int .i64 0, .int .i64 0, .int .i64 0, .int .i64 0, .int .i64 0, .string ⟨#[120]⟩, .int .i64 0] 25)).alloc (.cells #[.string ⟨#[98]⟩, .int .i64 2, .bool false, .int .i64 4, .int .i64 0, .int .i64 0, .int .i64 0, .int .i64 0, .int .i64 0, .string ⟨#[120]⟩, .int .i64 0] 25)).cell? ⟨w.heap.size, 1, none⟩ = some (.int .i64 1) := by first | (simp; done) | (rw [World.cell?_alloc_at _ _ _ _ (by simp)]; rfl) | (rw [World.cell?_alloc_past _ _ _ (by simp <;> omega), World.cell?_alloc_at _ _ _ _ (by simp)]; rfl) | (rw [World.cell?_alloc_past _ _ _ (by simp <;> omega), World.cell?_alloc_past _ _ _ (by simp <;> omega), World.cell?_alloc_at _ _ _ _ (by simp)]; rfl)
  have aa2 : ((w.alloc (.cells #[.string ⟨#[97]⟩, .int .i64 1, .bool false, .int .i64 4, .int .i64 0, .int .i64 0, .int .i64 0, .int .i64 0, .int .i64 0, .string ⟨#[120]⟩, .int .i64 0] 25)).alloc (.cells #[.string ⟨#[98]⟩, .int .i64 2, .bool false, .int .i64 4, .int .i64 0, .int .i64 0, .int .i64 0, .int .i64 0, .int .i64 0, .string ⟨#[120]⟩, .int .i64 0] 25)).cell? ⟨w.heap.size, 2, none⟩ = some (.bool false) := by first | (simp; done) | (rw [World.cell?_alloc_at _ _ _ _ (by simp)]; rfl) | (rw [World.cell?_alloc_past _ _ _ (by simp <;> omega), World.cell?_alloc_at _ _ _ _ (by simp)]; rfl) | (rw [World.cell?_alloc_past _ _ _ (by simp <;> omega), World.cell?_alloc_past _ _ _ (by simp <;> omega), World.cell?_alloc_at _ _ _ _ (by simp)]; rfl)
  have aa3 : ((w.alloc (.cells #[.string ⟨#[97]⟩, .int .i64 1, .bool false, .int .i64 4, .int .i64 0, .int .i64 0, .int .i64 0, .int .i64 0, .int .i64 0, .string ⟨#[120]⟩, .int .i64 0] 25)).alloc (.cells #[.string ⟨#[98]⟩, .int .i64 2, .bool false, .int .i64 4, .int .i64 0, .int .i64 0, .int .i64 0, .int .i64 0, .int .i64 0, .string ⟨#[120]⟩, .int .i64 0] 25)).cell? ⟨w.heap.size, 3, none⟩ = some (.int .i64 4) := by first | (simp; done) | (rw [World.cell?_alloc_at _ _ _ _ (by simp)]; rfl) | (rw [World.cell?_alloc_past _ _ _ (by simp <;> omega), World.cell?_alloc_at _ _ _ _ (by simp)]; rfl) | (rw [World.cell?_alloc_past _ _ _ (by simp <;> omega), World.cell?_alloc_past _ _ _ (by simp <;> omega), World.cell?_alloc_at _ _ _ _ (by simp)]; rfl)
  have aa4 : ((w.alloc (.cells #[.string ⟨#[97]⟩, .int .i64 1, .bool false, .int .i64 4, .int .i64 0, .int .i64 0, .int .i64 0, .int .i64 0, .int .i64 0, .string ⟨#[120]⟩, .int .i64 0] 25)).alloc (.cells #[.string ⟨#[98]⟩, .int .i64 2, .bool false, .int .i64 4, .int .i64 0, .int .i64 0, .int .i64 0, .int .i64 0, .int .i64 0, .string ⟨#[120]⟩, .int .i64 0] 25)).cell? ⟨w.heap.size, 4, none⟩ = some (.int .i64 0) := by first | (simp; done) | (rw [World.cell?_alloc_at _ _ _ _ (by simp)]; rfl) | (rw [World.cell?_alloc_past _ _ _ (by simp <;> omega), World.cell?_alloc_at _ _ _ _ (by simp)]; rfl) | (rw [World.cell?_alloc_past _ _ _ (by simp <;> omega), World.cell?_alloc_past _ _ _ (by simp <;> omega), World.cell?_alloc_at _ _ _ _ (by simp)]; rfl)
  have aa5 : ((w.alloc (.cells #[.string ⟨#[97]⟩, .int .i64 1, .bool false, .int .i64 4, .int .i64 0, .int .i64 0, .int .i64 0, .int .i64 0, .int .i64 0, .string ⟨#[120]⟩, .int .i64 0] 25)).alloc (.cells #[.string ⟨#[98]⟩, .int .i64 2, .bool false, .int .i64 4, .int .i64 0, .int .i64 0, .int .i64 0, .int .i64 0, .int .i64 0, .string ⟨#[120]⟩, .int .i64 0] 25)).cell? ⟨w.heap.size, 5, none⟩ = some (.int .i64 0) := by first | (simp; done) | (rw [World.cell?_alloc_at _ _ _ _ (by simp)]; rfl) | (rw [World.cell?_alloc_past _ _ _ (by simp <;> omega), World.cell?_alloc_at _ _ _ _ (by simp)]; rfl) | (rw [World.cell?_alloc_past _ _ _ (by simp <;> omega), World.cell?_alloc_past _ _ _ (by simp <;> omega), World.cell?_alloc_at _ _ _ _ (by simp)]; rfl)
  have aa6 : ((w.alloc (.cells #[.string ⟨#[97]⟩, .int .i64 1, .bool false, .int .i64 4, .int .i64 0, .int .i64 0, .int .i64 0, .int .i64 0, .int .i64 0, .string ⟨#[120]⟩, .int .i64 0] 25)).alloc (.cells #[.string ⟨#[98]⟩, .int .i64 2, .bool false, .int .i64 4, .int .i64 0, .int .i64 0, .int .i64 0, .int .i64 0, .int .i64 0, .string ⟨#[120]⟩, .int .i64 0] 25)).cell? ⟨w.heap.size, 6, none⟩ = some (.int .i64 0) := by first | (simp; done) | (rw [World.cell?_alloc_at _ _ _ _ (by simp)]; rfl) | (rw [World.cell?_alloc_past _ _ _ (by simp <;> omega), World.cell?_alloc_at _ _ _ _ (by simp)]; rfl) | (rw [World.cell?_alloc_past _ _ _ (by simp <;> omega), World.cell?_alloc_past _ _ _ (by simp <;> omega), World.cell?_alloc_at _ _ _ _ (by simp)]; rfl)
  have aa7 : ((w.alloc (.cells #[.string ⟨#[97]⟩, .int .i64 1, .bool false, .int .i64 4, .int .i64 0, .int .i64 0, .int .i64 0, .int .i64 0, .int .i64 0, .string ⟨#[120]⟩, .int .i64 0] 25)).alloc (.cells #[.string ⟨#[98]⟩, .int .i64 2, .bool false, .int .i64 4, .int .i64 0, .int .i64 0, .int .i64 0, .int .i64 0, .int .i64 0, .string ⟨#[120]⟩, .int .i64 0] 25)).cell? ⟨w.heap.size, 7, none⟩ = some (.int .i64 0) := by first | (simp; done) | (rw [World.cell?_alloc_at _ _ _ _ (by simp)]; rfl) | (rw [World.cell?_alloc_past _ _ _ (by simp <;> omega), World.cell?_alloc_at _ _ _ _ (by simp)]; rfl) | (rw [World.cell?_alloc_past _ _ _ (by simp <;> omega), World.cell?_alloc_past _ _ _ (by simp <;> omega), World.cell?_alloc_at _ _ _ _ (by simp)]; rfl)
  have aa8 : ((w.alloc (.cells #[.string ⟨#[97]⟩, .int .i64 1, .bool false, .int .i64 4, .int .i64 0, .int .i64 0, .int .i64 0, .int .i64 0, .int .i64 0, .string ⟨#[120]⟩, .int .i64 0] 25)).alloc (.cells #[.string ⟨#[98]⟩, .int .i64 2, .bool false, .int .i64 4, .int .i64 0, .int .i64 0, .int .i64 0, .int .i64 0, .int .i64 0, .string ⟨#[120]⟩, .int .i64 0] 25)).cell? ⟨w.heap.size, 8, none⟩ = some (.int .i64 0) := by first | (simp; done) | (rw [World.cell?_alloc_at _ _ _ _ (by simp)]; rfl) | (rw [World.cell?_alloc_past _ _ _ (by simp <;> omega), World.cell?_alloc_at _ _ _ _ (by simp)]; rfl) | (rw [World.cell?_alloc_past _ _ _ (by simp <;> omega), World.cell?_alloc_past _ _ _ (by simp <;> omega), World.cell?_alloc_at _ _ _ _ (by simp)]; rfl)
  have aa9 : ((w.alloc (.cells #[.string ⟨#[97]⟩, .int .i64 1, .bool false, .int .i64 4, .int .i64 0, .int .i64 0, .int .i64 0, .int .i64 0, .int .i64 0, .string ⟨#[120]⟩, .int .i64 0] 25)).alloc (.cells #[.string ⟨#[98]⟩, .int .i64 2, .bool false, .int .i64 4, .int .i64 0, .int .i64 0, .int .i64 0, .int .i64 0, .int .i64 0, .string ⟨#[120]⟩, .int .i64 0] 25)).cell? ⟨w.heap.size, 9, none⟩ = some (.string ⟨#[120]⟩) := by first | (simp; done) | (rw [World.cell?_alloc_at _ _ _ _ (by simp)]; rfl) | (rw [World.cell?_alloc_past _ _ _ (by simp <;> omega), World.cell?_alloc_at _ _ _ _ (by simp)]; rfl) | (rw [World.cell?_alloc_past _ _ _ (by simp <;> omega), World.cell?_alloc_past _ _ _ (by simp <;> omega), World.cell?_alloc_at _ _ _ _ (by simp)]; rfl)
  have aa10 : ((w.alloc (.cells #[.string ⟨#[97]⟩, .int .i64 1, .bool false, .int .i64 4, .int .i64 0, .int .i64 0, .int .i64 0, .int .i64 0, .int .i64 0, .string ⟨#[120]⟩, .int .i64 0] 25)).alloc (.cells #[.string ⟨#[98]⟩, .int .i64 2, .bool false, .int .i64 4, .int .i64 0, .int .i64 0, .int .i64 0, .int .i64 0, .int .i64 0, .string ⟨#[120]⟩, .int .i64 0] 25)).cell? ⟨w.heap.size, 10, none⟩ = some (.int .i64 0) := by first | (simp; done) | (rw [World.cell?_alloc_at _ _ _ _ (by simp)]; rfl) | (rw [World.cell?_alloc_past _ _ _ (by simp <;> omega), World.cell?_alloc_at _ _ _ _ (by simp)]; rfl) | (rw [World.cell?_alloc_past _ _ _ (by simp <;> omega), World.cell?_alloc_past _ _ _ (by simp <;> omega), World.cell?_alloc_at _ _ _ _ (by simp)]; rfl)
  have bb0 : ((w.alloc (.cells #[.string ⟨#[97]⟩, .int .i64 1, .bool false, .int .i64 4, .int .i64 0, .int .i64 0, .int .i64 0, .int .i64 0, .int .i64 0, .string ⟨#[120]⟩, .int .i64 0] 25)).alloc (.cells #[.string ⟨#[98]⟩, .int .i64 2, .bool false, .int .i64 4, .int .i64 0, .int .i64 0, .int .i64 0, .int .i64 0, .int .i64 0, .string ⟨#[120]⟩, .int .i64 0] 25)).cell? ⟨w.heap.size + 1, 0, none⟩ = some (.string ⟨#[98]⟩) := by first | (simp; done) | (rw [World.cell?_alloc_at _ _ _ _ (by simp)]; rfl) | (rw [World.cell?_alloc_past _ _ _ (by simp <;> omega), World.cell?_alloc_at _ _ _ _ (by simp)]; rfl) | (rw [World.cell?_alloc_past _ _ _ (by simp <;> omega), World.cell?_alloc_past _ _ _ (by simp <;> omega), World.cell?_alloc_at _ _ _ _ (by simp)]; rfl)
  have bb1 : ((w.alloc (.cells #[.string ⟨#[97]⟩, .int .i64 1, .bool false, .int .i64 4, .int .i64 0, .int .i64 0, .int .i64 0, .int .i64 0, .int .i64 0, .string ⟨#[120]⟩, .int .i64 0] 25)).alloc (.cells #[.string ⟨#[98]⟩, .int .i64 2, .bool false, .int .i64 4, .int .i64 0, .int .i64 0, .int .i64 0, .int .i64 0, .int .i64 0, .string ⟨#[120]⟩, .int .i64 0] 25)).cell? ⟨w.heap.size + 1, 1, none⟩ = some (.int .i64 2) := by first | (simp; done) | (rw [World.cell?_alloc_at _ _ _ _ (by simp)]; rfl) | (rw [World.cell?_alloc_past _ _ _ (by simp <;> omega), World.cell?_alloc_at _ _ _ _ (by simp)]; rfl) | (rw [World.cell?_alloc_past _ _ _ (by simp <;> omega), World.cell?_alloc_past _ _ _ (by simp <;> omega), World.cell?_alloc_at _ _ _ _ (by simp)]; rfl)
  have bb2 : ((w.alloc (.cells #[.string ⟨#[97]⟩, .int .i64 1, .bool false, .int .i64 4, .int .i64 0, .int .i64 0, .int .i64 0, .int .i64 0, .int .i64 0, .string ⟨#[120]⟩, .int .i64 0] 25)).alloc (.cells #[.string ⟨#[98]⟩, .int .i64 2, .bool false, .int .i64 4, .int .i64 0, .int .i64 0, .int .i64 0, .int .i64 0, .int .i64 0, .string ⟨#[120]⟩, .int .i64 0] 25)).cell? ⟨w.heap.size + 1, 2, none⟩ = some (.bool false) := by first | (simp; done) | (rw [World.cell?_alloc_at _ _ _ _ (by simp)]; rfl) | (rw [World.cell?_alloc_past _ _ _ (by simp <;> omega), World.cell?_alloc_at _ _ _ _ (by simp)]; rfl) | (rw [World.cell?_alloc_past _ _ _ (by simp <;> omega), World.cell?_alloc_past _ _ _ (by simp <;> omega), World.cell?_alloc_at _ _ _ _ (by simp)]; rfl)
  have bb3 : ((w.alloc (.cells #[.string ⟨#[97]⟩, .int .i64 1, .bool false, .int .i64 4, .int .i64 0, .int .i64 0, .int .i64 0, .int .i64 0, .int .i64 0, .string ⟨#[120]⟩, .int .i64 0] 25)).alloc (.cells #[.string ⟨#[98]⟩, .int .i64 2, .bool false, .int .i64 4, .int .i64 0, .int .i64 0, .int .i64 0, .int .i64 0, .int .i64 0, .string ⟨#[120]⟩, .int .i64 0] 25)).cell? ⟨w.heap.size + 1, 3, none⟩ = some (.int .i64 4) := by first | (simp; done) | (rw [World.cell?_alloc_at _ _ _ _ (by simp)]; rfl) | (rw [World.cell?_alloc_past _ _ _ (by simp <;> omega), World.cell?_alloc_at _ _ _ _ (by simp)]; rfl) | (rw [World.cell?_alloc_past _ _ _ (by simp <;> omega), World.cell?_alloc_past _ _ _ (by simp <;> omega), World.cell?_alloc_at _ _ _ _ (by simp)]; rfl)
  have bb4 : ((w.alloc (.cells #[.string ⟨#[97]⟩, .int .i64 1, .bool false, .int .i64 4, .int .i64 0, .int .i64 0, .int .i64 0, .int .i64 0, .int .i64 0, .string ⟨#[120]⟩, .int .i64 0] 25)).alloc (.cells #[.string ⟨#[98]⟩, .int .i64 2, .bool false, .int .i64 4, .int .i64 0, .int .i64 0, .int .i64 0, .int .i64 0, .int .i64 0, .string ⟨#[120]⟩, .int .i64 0] 25)).cell? ⟨w.heap.size + 1, 4, none⟩ = some (.int .i64 0) := by first | (simp; done) | (rw [World.cell?_alloc_at _ _ _ _ (by simp)]; rfl) | (rw [World.cell?_alloc_past _ _ _ (by simp <;> omega), World.cell?_alloc_at _ _ _ _ (by simp)]; rfl) | (rw [World.cell?_alloc_past _ _ _ (by simp <;> omega), World.cell?_alloc_past _ _ _ (by simp <;> omega), World.cell?_alloc_at _ _ _ _ (by simp)]; rfl)
  have bb5 : ((w.alloc (.cells #[.string ⟨#[97]⟩, .int .i64 1, .bool false, .int .i64 4, .int .i64 0, .int .i64 0, .int .i64 0, .int .i64 0, .int .i64 0, .string ⟨#[120]⟩, .int .i64 0] 25)).alloc (.cells #[.string ⟨#[98]⟩, .int .i64 2, .bool false, .int .i64 4, .int .i64 0, .int .i64 0, .int .i64 0, .int .i64 0, .int .i64 0, .string ⟨#[120]⟩, .int .i64 0] 25)).cell? ⟨w.heap.size + 1, 5, none⟩ = some (.int .i64 0) := by first | (simp; done) | (rw [World.cell?_alloc_at _ _ _ _ (by simp)]; rfl) | (rw [World.cell?_alloc_past _ _ _ (by simp <;> omega), World.cell?_alloc_at _ _ _ _ (by simp)]; rfl) | (rw [World.cell?_alloc_past _ _ _ (by simp <;> omega), World.cell?_alloc_past _ _ _ (by simp <;> omega), World.cell?_alloc_at _ _ _ _ (by simp)]; rfl)
  have bb6 : ((w.alloc (.cells #[.string ⟨#[97]⟩, .int .i64 1, .bool false, .int .i64 4, .int .i64 0, .int .i64 0, .int .i64 0, .int .i64 0, .int .i64 0, .string ⟨#[120]⟩, .int .i64 0] 25)).alloc (.cells #[.string ⟨#[98]⟩, .int .i64 2, .bool false, .int .i64 4, .int .i64 0, .int .i64 0, .int .i64 0, .int .i64 0, .int .i64 0, .string ⟨#[120]⟩, .int .i64 0] 25)).cell? ⟨w.heap.size + 1, 6, none⟩ = some (.int .i64 0) := by first | (simp; done) | (rw [World.cell?_alloc_at _ _ _ _ (by simp)]; rfl) | (rw [World.cell?_alloc_past _ _ _ (by simp <;> omega), World.cell?_alloc_at _ _ _ _ (by simp)]; rfl) | (rw [World.cell?_alloc_past _ _ _ (by simp <;> omega), World.cell?_alloc_past _ _ _ (by simp <;> omega), World.cell?_alloc_at _ _ _ _ (by simp)]; rfl)
  have bb7 : ((w.alloc (.cells #[.string ⟨#[97]⟩, .int .i64 1, .bool false, .int .i64 4, .int .i64 0, .int .i64 0, .int .i64 0, .int .i64 0, .int .i64 0, .string ⟨#[120]⟩, .int .i64 0] 25)).alloc (.cells #[.string ⟨#[98]⟩, .int .i64 2, .bool false, .int .i64 4, .int .i64 0, .int .i64 0, .int .i64 0, .int .i64 0, .int .i64 0, .string ⟨#[120]⟩, .int .i64 0] 25)).cell? ⟨w.heap.size + 1, 7, none⟩ = some (.int .i64 0) := by first | (simp; done) | (rw [World.cell?_alloc_at _ _ _ _ (by simp)]; rfl) | (rw [World.cell?_alloc_past _ _ _ (by simp <;> omega), World.cell?_alloc_at _ _ _ _ (by simp)]; rfl) | (rw [World.cell?_alloc_past _ _ _ (by simp <;> omega), World.cell?_alloc_past _ _ _ (by simp <;> omega), World.cell?_alloc_at _ _ _ _ (by simp)]; rfl)
  have bb8 : ((w.alloc (.cells #[.string ⟨#[97]⟩, .int .i64 1, .bool false, .int .i64 4, .int .i64 0, .int .i64 0, .int .i64 0, .int .i64 0, .int .i64 0, .string ⟨#[120]⟩, .int .i64 0] 25)).alloc (.cells #[.string ⟨#[98]⟩, .int .i64 2, .bool false, .int .i64 4, .int .i64 0, .int .i64 0, .int .i64 0, .int .i64 0, .int .i64 0, .string ⟨#[120]⟩, .int .i64 0] 25)).cell? ⟨w.heap.size + 1, 8, none⟩ = some (.int .i64 0) := by first | (simp; done) | (rw [World.cell?_alloc_at _ _ _ _ (by simp)]; rfl) | (rw [World.cell?_alloc_past _ _ _ (by simp <;> omega), World.cell?_alloc_at _ _ _ _ (by simp)]; rfl) | (rw [World.cell?_alloc_past _ _ _ (by simp <;> omega), World.cell?_alloc_past _ _ _ (by simp <;> omega), World.cell?_alloc_at _ _ _ _ (by simp)]; rfl)
  have bb9 : ((w.alloc (.cells #[.string ⟨#[97]⟩, .int .i64 1, .bool false, .int .i64 4, .int .i64 0, .int .i64 0, .int .i64 0, .int .i64 0, .int .i64 0, .string ⟨#[120]⟩, .int .i64 0] 25)).alloc (.cells #[.string ⟨#[98]⟩, .int .i64 2, .bool false, .int .i64 4, .int .i64 0, .int .i64 0, .int .i64 0, .int .i64 0, .int .i64 0, .string ⟨#[120]⟩, .int .i64 0] 25)).cell? ⟨w.heap.size + 1, 9, none⟩ = some (.string ⟨#[120]⟩) := by first | (simp; done) | (rw [World.cell?_alloc_at _ _ _ _ (by simp)]; rfl) | (rw [World.cell?_alloc_past _ _ _ (by simp <;> omega), World.cell?_alloc_at _ _ _ _ (by simp)]; rfl) | (rw [World.cell?_alloc_past _ _ _ (by simp <;> omega), World.cell?_alloc_past _ _ _ (by simp <;> omega), World.cell?_alloc_at _ _ _ _ (by simp)]; rfl)
  have bb10 : ((w.alloc (.cells #[.string ⟨#[97]⟩, .int .i64 1, .bool false, .int .i64 4, .int .i64 0, .int .i64 0, .int .i64 0, .int .i64 0, .int .i64 0, .string ⟨#[120]⟩, .int .i64 0] 25)).alloc (.cells #[.string ⟨#[98]⟩, .int .i64 2, .bool false, .int .i64 4, .int .i64 0, .int .i64 0, .int .i64 0, .int .i64 0, .int .i64 0, .string ⟨#[120]⟩, .int .i64 0] 25)).cell? ⟨w.heap.size + 1, 10, none⟩ = some (.int .i64 0) := by first | (simp; done) | (rw [World.cell?_alloc_at _ _ _ _ (by simp)]; rfl) | (rw [World.cell?_alloc_past _ _ _ (by simp <;> omega), World.cell?_alloc_at _ _ _ _ (by simp)]; rfl) | (rw [World.cell?_alloc_past _ _ _ (by simp <;> omega), World.cell?_alloc_past _ _ _ (by simp <;> omega), World.cell?_alloc_at _ _ _ _ (by simp)]; rfl)
  have hb2 := (by repeat (first | exact hbel | refine belAlloc ?_ _ | refine belDrew ?_ | refine belSet ?_ _ _ (by simp)) : Below w.heap.size w ((w.alloc (.cells #[.string ⟨#[97]⟩, .int .i64 1, .bool false, .int .i64 4, .int .i64 0, .int .i64 0, .int .i64 0, .int .i64 0, .int .i64 0, .string ⟨#[120]⟩, .int .i64 0] 25)).alloc (.cells #[.string ⟨#[98]⟩, .int .i64 2, .bool false, .int .i64 4, .int .i64 0, .int .i64 0, .int .i64 0, .int .i64 0, .int .i64 0, .string ⟨#[120]⟩, .int .i64 0] 25)))
  replace hw := belStep hw hb2
  have aaB : Blk ((w.alloc (.cells #[.string ⟨#[97]⟩, .int .i64 1, .bool false, .int .i64 4, .int .i64 0, .int .i64 0, .int .i64 0, .int .i64 0, .int .i64 0, .string ⟨#[120]⟩, .int .i64 0] 25)).alloc (.cells #[.string ⟨#[98]⟩, .int .i64 2, .bool false, .int .i64 4, .int .i64 0, .int .i64 0, .int .i64 0, .int .i64 0, .int .i64 0, .string ⟨#[120]⟩, .int .i64 0] 25)) (w.heap.size) [.string ⟨#[97]⟩, .int .i64 1, .bool false, .int .i64 4, .int .i64 0, .int .i64 0, .int .i64 0, .int .i64 0, .int .i64 0, .string ⟨#[120]⟩, .int .i64 0] 25 := (Blk.at (by simp) : Blk (w.alloc (.cells #[.string ⟨#[97]⟩, .int .i64 1, .bool false, .int .i64 4, .int .i64 0, .int .i64 0, .int .i64 0, .int .i64 0, .int .i64 0, .string ⟨#[120]⟩, .int .i64 0] 25)) (w.heap.size) [.string ⟨#[97]⟩, .int .i64 1, .bool false, .int .i64 4, .int .i64 0, .int .i64 0, .int .i64 0, .int .i64 0, .int .i64 0, .string ⟨#[120]⟩, .int .i64 0] 25).later (by repeat (first | exact Below.refl _ _ | refine belAlloc ?_ _))
  have aaF := Blk.keepF aaB
  replace aaB := Blk.keepB aaB
  have bbB : Blk ((w.alloc (.cells #[.string ⟨#[97]⟩, .int .i64 1, .bool false, .int .i64 4, .int .i64 0, .int .i64 0, .int .i64 0, .int .i64 0, .int .i64 0, .string ⟨#[120]⟩, .int .i64 0] 25)).alloc (.cells #[.string ⟨#[98]⟩, .int .i64 2, .bool false, .int .i64 4, .int .i64 0, .int .i64 0, .int .i64 0, .int .i64 0, .int .i64 0, .string ⟨#[120]⟩, .int .i64 0] 25)) (w.heap.size + 1) [.string ⟨#[98]⟩, .int .i64 2, .bool false, .int .i64 4, .int .i64 0, .int .i64 0, .int .i64 0, .int .i64 0, .int .i64 0, .string ⟨#[120]⟩, .int .i64 0] 25 := (Blk.at (by simp) : Blk ((w.alloc (.cells #[.string ⟨#[97]⟩, .int .i64 1, .bool false, .int .i64 4, .int .i64 0, .int .i64 0, .int .i64 0, .int .i64 0, .int .i64 0, .string ⟨#[120]⟩, .int .i64 0] 25)).alloc (.cells #[.string ⟨#[98]⟩, .int .i64 2, .bool false, .int .i64 4, .int .i64 0, .int .i64 0, .int .i64 0, .int .i64 0, .int .i64 0, .string ⟨#[120]⟩, .int .i64 0] 25)) (w.heap.size + 1) [.string ⟨#[98]⟩, .int .i64 2, .bool false, .int .i64 4, .int .i64 0, .int .i64 0, .int .i64 0, .int .i64 0, .int .i64 0, .string ⟨#[120]⟩, .int .i64 0] 25).later (by repeat (first | exact Below.refl _ _ | refine belAlloc ?_ _))
  have bbF := Blk.keepF bbB
  replace bbB := Blk.keepB bbB
  clear hb2 hbel
  generalize (w.alloc (.cells #[.string ⟨#[97]⟩, .int .i64 1, .bool false, .int .i64 4, .int .i64 0, .int .i64 0, .int .i64 0, .int .i64 0, .int .i64 0, .string ⟨#[120]⟩, .int .i64 0] 25)).alloc (.cells #[.string ⟨#[98]⟩, .int .i64 2, .bool false, .int .i64 4, .int .i64 0, .int .i64 0, .int .i64 0, .int .i64 0, .int .i64 0, .string ⟨#[120]⟩, .int .i64 0] 25) = W0 at *
  replace aa0 := keep aa0
  replace aa1 := keep aa1
  replace aa2 := keep aa2
  replace aa3 := keep aa3
  replace aa4 := keep aa4
  replace aa5 := keep aa5
  replace aa6 := keep aa6
  replace aa7 := keep aa7
  replace aa8 := keep aa8
  replace aa9 := keep aa9
  replace aa10 := keep aa10
  replace bb0 := keep bb0
  replace bb1 := keep bb1
  replace bb2 := keep bb2
  replace bb3 := keep bb3
  replace bb4 := keep bb4
  replace bb5 := keep bb5
  replace bb6 := keep bb6
  replace bb7 := keep bb7
  replace bb8 := keep bb8
  replace bb9 := keep bb9
  replace bb10 := keep bb10
  have hbel : Below W0.heap.size W0 W0 := Below.refl _ _
  skip
  have hz0 : w.heap.size + 1 < W0.heap.size := (bbB _ (Below.refl _ _)).lt
  go_upto_region 5 with fail
  have pp0 : ((W0.alloc (.cells #[.string ⟨#[112]⟩, .int .i64 9, .bool true, .int .i64 5, .int .i64 0, .int .i64 0, .int .i64 0, .int .i64 0, .int .i64 0, .string ⟨#[120]⟩, .int .i64 0] 25)).alloc (.cells #[.int .i64 10, .int .i64 0, .int .i64 0] 22)).cell? ⟨W0.heap.size, 0, none⟩ = some (.string ⟨#[112]⟩) := by first | (simp; done) | (rw [World.cell?_alloc_at _ _ _ _ (by simp)]; rfl) | (rw [World.cell?_alloc_past _ _ _ (by simp <;> omega), World.cell?_alloc_at _ _ _ _ (by simp)]; rfl) | (rw [World.cell?_alloc_past _ _ _ (by simp <;> omega), World.cell?_alloc_past _ _ _ (by simp <;> omega), World.cell?_alloc_at _ _ _ _ (by simp)]; rfl)
  have pp1 : ((W0.alloc (.cells #[.string ⟨#[112]⟩, .int .i64 9, .bool true, .int .i64 5, .int .i64 0, .int .i64 0, .int .i64 0, .int .i64 0, .int .i64 0, .string ⟨#[120]⟩, .int .i64 0] 25)).alloc (.cells #[.int .i64 10, .int .i64 0, .int .i64 0] 22)).cell? ⟨W0.heap.size, 1, none⟩ = some (.int .i64 9) := by first | (simp; done) | (rw [World.cell?_alloc_at _ _ _ _ (by simp)]; rfl) | (rw [World.cell?_alloc_past _ _ _ (by simp <;> omega), World.cell?_alloc_at _ _ _ _ (by simp)]; rfl) | (rw [World.cell?_alloc_past _ _ _ (by simp <;> omega), World.cell?_alloc_past _ _ _ (by simp <;> omega), World.cell?_alloc_at _ _ _ _ (by simp)]; rfl)
  have pp2 : ((W0.alloc (.cells #[.string ⟨#[112]⟩, .int .i64 9, .bool true, .int .i64 5, .int .i64 0, .int .i64 0, .int .i64 0, .int .i64 0, .int .i64 0, .string ⟨#[120]⟩, .int .i64 0] 25)).alloc (.cells #[.int .i64 10, .int .i64 0, .int .i64 0] 22)).cell? ⟨W0.heap.size, 2, none⟩ = some (.bool true) := by first | (simp; done) | (rw [World.cell?_alloc_at _ _ _ _ (by simp)]; rfl) | (rw [World.cell?_alloc_past _ _ _ (by simp <;> omega), World.cell?_alloc_at _ _ _ _ (by simp)]; rfl) | (rw [World.cell?_alloc_past _ _ _ (by simp <;> omega), World.cell?_alloc_past _ _ _ (by simp <;> omega), World.cell?_alloc_at _ _ _ _ (by simp)]; rfl)
  have pp3 : ((W0.alloc (.cells #[.string ⟨#[112]⟩, .int .i64 9, .bool true, .int .i64 5, .int .i64 0, .int .i64 0, .int .i64 0, .int .i64 0, .int .i64 0, .string ⟨#[120]⟩, .int .i64 0] 25)).alloc (.cells #[.int .i64 10, .int .i64 0, .int .i64 0] 22)).cell? ⟨W0.heap.size, 3, none⟩ = some (.int .i64 5) := by first | (simp; done) | (rw [World.cell?_alloc_at _ _ _ _ (by simp)]; rfl) | (rw [World.cell?_alloc_past _ _ _ (by simp <;> omega), World.cell?_alloc_at _ _ _ _ (by simp)]; rfl) | (rw [World.cell?_alloc_past _ _ _ (by simp <;> omega), World.cell?_alloc_past _ _ _ (by simp <;> omega), World.cell?_alloc_at _ _ _ _ (by simp)]; rfl)
  have pp4 : ((W0.alloc (.cells #[.string ⟨#[112]⟩, .int .i64 9, .bool true, .int .i64 5, .int .i64 0, .int .i64 0, .int .i64 0, .int .i64 0, .int .i64 0, .string ⟨#[120]⟩, .int .i64 0] 25)).alloc (.cells #[.int .i64 10, .int .i64 0, .int .i64 0] 22)).cell? ⟨W0.heap.size, 4, none⟩ = some (.int .i64 0) := by first | (simp; done) | (rw [World.cell?_alloc_at _ _ _ _ (by simp)]; rfl) | (rw [World.cell?_alloc_past _ _ _ (by simp <;> omega), World.cell?_alloc_at _ _ _ _ (by simp)]; rfl) | (rw [World.cell?_alloc_past _ _ _ (by simp <;> omega), World.cell?_alloc_past _ _ _ (by simp <;> omega), World.cell?_alloc_at _ _ _ _ (by simp)]; rfl)
  have pp5 : ((W0.alloc (.cells #[.string ⟨#[112]⟩, .int .i64 9, .bool true, .int .i64 5, .int .i64 0, .int .i64 0, .int .i64 0, .int .i64 0, .int .i64 0, .string ⟨#[120]⟩, .int .i64 0] 25)).alloc (.cells #[.int .i64 10, .int .i64 0, .int .i64 0] 22)).cell? ⟨W0.heap.size, 5, none⟩ = some (.int .i64 0) := by first | (simp; done) | (rw [World.cell?_alloc_at _ _ _ _ (by simp)]; rfl) | (rw [World.cell?_alloc_past _ _ _ (by simp <;> omega), World.cell?_alloc_at _ _ _ _ (by simp)]; rfl) | (rw [World.cell?_alloc_past _ _ _ (by simp <;> omega), World.cell?_alloc_past _ _ _ (by simp <;> omega), World.cell?_alloc_at _ _ _ _ (by simp)]; rfl)
  have pp6 : ((W0.alloc (.cells #[.string ⟨#[112]⟩, .int .i64 9, .bool true, .int .i64 5, .int .i64 0, .int .i64 0, .int .i64 0, .int .i64 0, .int .i64 0, .string ⟨#[120]⟩, .int .i64 0] 25)).alloc (.cells #[.int .i64 10, .int .i64 0, .int .i64 0] 22)).cell? ⟨W0.heap.size, 6, none⟩ = some (.int .i64 0) := by first | (simp; done) | (rw [World.cell?_alloc_at _ _ _ _ (by simp)]; rfl) | (rw [World.cell?_alloc_past _ _ _ (by simp <;> omega), World.cell?_alloc_at _ _ _ _ (by simp)]; rfl) | (rw [World.cell?_alloc_past _ _ _ (by simp <;> omega), World.cell?_alloc_past _ _ _ (by simp <;> omega), World.cell?_alloc_at _ _ _ _ (by simp)]; rfl)
  have pp7 : ((W0.alloc (.cells #[.string ⟨#[112]⟩, .int .i64 9, .bool true, .int .i64 5, .int .i64 0, .int .i64 0, .int .i64 0, .int .i64 0, .int .i64 0, .string ⟨#[120]⟩, .int .i64 0] 25)).alloc (.cells #[.int .i64 10, .int .i64 0, .int .i64 0] 22)).cell? ⟨W0.heap.size, 7, none⟩ = some (.int .i64 0) := by first | (simp; done) | (rw [World.cell?_alloc_at _ _ _ _ (by simp)]; rfl) | (rw [World.cell?_alloc_past _ _ _ (by simp <;> omega), World.cell?_alloc_at _ _ _ _ (by simp)]; rfl) | (rw [World.cell?_alloc_past _ _ _ (by simp <;> omega), World.cell?_alloc_past _ _ _ (by simp <;> omega), World.cell?_alloc_at _ _ _ _ (by simp)]; rfl)
  have pp8 : ((W0.alloc (.cells #[.string ⟨#[112]⟩, .int .i64 9, .bool true, .int .i64 5, .int .i64 0, .int .i64 0, .int .i64 0, .int .i64 0, .int .i64 0, .string ⟨#[120]⟩, .int .i64 0] 25)).alloc (.cells #[.int .i64 10, .int .i64 0, .int .i64 0] 22)).cell? ⟨W0.heap.size, 8, none⟩ = some (.int .i64 0) := by first | (simp; done) | (rw [World.cell?_alloc_at _ _ _ _ (by simp)]; rfl) | (rw [World.cell?_alloc_past _ _ _ (by simp <;> omega), World.cell?_alloc_at _ _ _ _ (by simp)]; rfl) | (rw [World.cell?_alloc_past _ _ _ (by simp <;> omega), World.cell?_alloc_past _ _ _ (by simp <;> omega), World.cell?_alloc_at _ _ _ _ (by simp)]; rfl)
  have pp9 : ((W0.alloc (.cells #[.string ⟨#[112]⟩, .int .i64 9, .bool true, .int .i64 5, .int .i64 0, .int .i64 0, .int .i64 0, .int .i64 0, .int .i64 0, .string ⟨#[120]⟩, .int .i64 0] 25)).alloc (.cells #[.int .i64 10, .int .i64 0, .int .i64 0] 22)).cell? ⟨W0.heap.size, 9, none⟩ = some (.string ⟨#[120]⟩) := by first | (simp; done) | (rw [World.cell?_alloc_at _ _ _ _ (by simp)]; rfl) | (rw [World.cell?_alloc_past _ _ _ (by simp <;> omega), World.cell?_alloc_at _ _ _ _ (by simp)]; rfl) | (rw [World.cell?_alloc_past _ _ _ (by simp <;> omega), World.cell?_alloc_past _ _ _ (by simp <;> omega), World.cell?_alloc_at _ _ _ _ (by simp)]; rfl)
  have pp10 : ((W0.alloc (.cells #[.string ⟨#[112]⟩, .int .i64 9, .bool true, .int .i64 5, .int .i64 0, .int .i64 0, .int .i64 0, .int .i64 0, .int .i64 0, .string ⟨#[120]⟩, .int .i64 0] 25)).alloc (.cells #[.int .i64 10, .int .i64 0, .int .i64 0] 22)).cell? ⟨W0.heap.size, 10, none⟩ = some (.int .i64 0) := by first | (simp; done) | (rw [World.cell?_alloc_at _ _ _ _ (by simp)]; rfl) | (rw [World.cell?_alloc_past _ _ _ (by simp <;> omega), World.cell?_alloc_at _ _ _ _ (by simp)]; rfl) | (rw [World.cell?_alloc_past _ _ _ (by simp <;> omega), World.cell?_alloc_past _ _ _ (by simp <;> omega), World.cell?_alloc_at _ _ _ _ (by simp)]; rfl)
  have rm0 : ((W0.alloc (.cells #[.string ⟨#[112]⟩, .int .i64 9, .bool true, .int .i64 5, .int .i64 0, .int .i64 0, .int .i64 0, .int .i64 0, .int .i64 0, .string ⟨#[120]⟩, .int .i64 0] 25)).alloc (.cells #[.int .i64 10, .int .i64 0, .int .i64 0] 22)).cell? ⟨W0.heap.size + 1, 0, none⟩ = some (.int .i64 10) := by first | (simp; done) | (rw [World.cell?_alloc_at _ _ _ _ (by simp)]; rfl) | (rw [World.cell?_alloc_past _ _ _ (by simp <;> omega), World.cell?_alloc_at _ _ _ _ (by simp)]; rfl) | (rw [World.cell?_alloc_past _ _ _ (by simp <;> omega), World.cell?_alloc_past _ _ _ (by simp <;> omega), World.cell?_alloc_at _ _ _ _ (by simp)]; rfl)
  have rm1 : ((W0.alloc (.cells #[.string ⟨#[112]⟩, .int .i64 9, .bool true, .int .i64 5, .int .i64 0, .int .i64 0, .int .i64 0, .int .i64 0, .int .i64 0, .string ⟨#[120]⟩, .int .i64 0] 25)).alloc (.cells #[.int .i64 10, .int .i64 0, .int .i64 0] 22)).cell? ⟨W0.heap.size + 1, 1, none⟩ = some (.int .i64 0) := by first | (simp; done) | (rw [World.cell?_alloc_at _ _ _ _ (by simp)]; rfl) | (rw [World.cell?_alloc_past _ _ _ (by simp <;> omega), World.cell?_alloc_at _ _ _ _ (by simp)]; rfl) | (rw [World.cell?_alloc_past _ _ _ (by simp <;> omega), World.cell?_alloc_past _ _ _ (by simp <;> omega), World.cell?_alloc_at _ _ _ _ (by simp)]; rfl)
  have rm2 : ((W0.alloc (.cells #[.string ⟨#[112]⟩, .int .i64 9, .bool true, .int .i64 5, .int .i64 0, .int .i64 0, .int .i64 0, .int .i64 0, .int .i64 0, .string ⟨#[120]⟩, .int .i64 0] 25)).alloc (.cells #[.int .i64 10, .int .i64 0, .int .i64 0] 22)).cell? ⟨W0.heap.size + 1, 2, none⟩ = some (.int .i64 0) := by first | (simp; done) | (rw [World.cell?_alloc_at _ _ _ _ (by simp)]; rfl) | (rw [World.cell?_alloc_past _ _ _ (by simp <;> omega), World.cell?_alloc_at _ _ _ _ (by simp)]; rfl) | (rw [World.cell?_alloc_past _ _ _ (by simp <;> omega), World.cell?_alloc_past _ _ _ (by simp <;> omega), World.cell?_alloc_at _ _ _ _ (by simp)]; rfl)
  have hb2 := (by repeat (first | exact hbel | refine belAlloc ?_ _ | refine belDrew ?_ | refine belSet ?_ _ _ (by simp)) : Below W0.heap.size W0 ((W0.alloc (.cells #[.string ⟨#[112]⟩, .int .i64 9, .bool true, .int .i64 5, .int .i64 0, .int .i64 0, .int .i64 0, .int .i64 0, .int .i64 0, .string ⟨#[120]⟩, .int .i64 0] 25)).alloc (.cells #[.int .i64 10, .int .i64 0, .int .i64 0] 22)))
  replace aa0 := keepOnP aa0 hb2
  replace aa1 := keepOnP aa1 hb2
  replace aa2 := keepOnP aa2 hb2
  replace aa3 := keepOnP aa3 hb2
  replace aa4 := keepOnP aa4 hb2
  replace aa5 := keepOnP aa5 hb2
  replace aa6 := keepOnP aa6 hb2
  replace aa7 := keepOnP aa7 hb2
  replace aa8 := keepOnP aa8 hb2
  replace aa9 := keepOnP aa9 hb2
  replace aa10 := keepOnP aa10 hb2
  replace bb0 := keepOnP bb0 hb2
  replace bb1 := keepOnP bb1 hb2
  replace bb2 := keepOnP bb2 hb2
  replace bb3 := keepOnP bb3 hb2
  replace bb4 := keepOnP bb4 hb2
  replace bb5 := keepOnP bb5 hb2
  replace bb6 := keepOnP bb6 hb2
  replace bb7 := keepOnP bb7 hb2
  replace bb8 := keepOnP bb8 hb2
  replace bb9 := keepOnP bb9 hb2
  replace bb10 := keepOnP bb10 hb2
  replace aaF := keepOnP aaF hb2
  replace aaB := keepOnP aaB hb2
  replace bbF := keepOnP bbF hb2
  replace bbB := keepOnP bbB hb2
  replace hw := belStep hw hb2
  have ppB : Blk ((W0.alloc (.cells #[.string ⟨#[112]⟩, .int .i64 9, .bool true, .int .i64 5, .int .i64 0, .int .i64 0, .int .i64 0, .int .i64 0, .int .i64 0, .string ⟨#[120]⟩, .int .i64 0] 25)).alloc (.cells #[.int .i64 10, .int .i64 0, .int .i64 0] 22)) (W0.heap.size) [.string ⟨#[112]⟩, .int .i64 9, .bool true, .int .i64 5, .int .i64 0, .int .i64 0, .int .i64 0, .int .i64 0, .int .i64 0, .string ⟨#[120]⟩, .int .i64 0] 25 := (Blk.at (by simp) : Blk (W0.alloc (.cells #[.string ⟨#[112]⟩, .int .i64 9, .bool true, .int .i64 5, .int .i64 0, .int .i64 0, .int .i64 0, .int .i64 0, .int .i64 0, .string ⟨#[120]⟩, .int .i64 0] 25)) (W0.heap.size) [.string ⟨#[112]⟩, .int .i64 9, .bool true, .int .i64 5, .int .i64 0, .int .i64 0, .int .i64 0, .int .i64 0, .int .i64 0, .string ⟨#[120]⟩, .int .i64 0] 25).later (by repeat (first | exact Below.refl _ _ | refine belAlloc ?_ _))
  have ppF := Blk.keepF ppB
  replace ppB := Blk.keepB ppB
  have rmB : Blk ((W0.alloc (.cells #[.string ⟨#[112]⟩, .int .i64 9, .bool true, .int .i64 5, .int .i64 0, .int .i64 0, .int .i64 0, .int .i64 0, .int .i64 0, .string ⟨#[120]⟩, .int .i64 0] 25)).alloc (.cells #[.int .i64 10, .int .i64 0, .int .i64 0] 22)) (W0.heap.size + 1) [.int .i64 10, .int .i64 0, .int .i64 0] 22 := (Blk.at (by simp) : Blk ((W0.alloc (.cells #[.string ⟨#[112]⟩, .int .i64 9, .bool true, .int .i64 5, .int .i64 0, .int .i64 0, .int .i64 0, .int .i64 0, .int .i64 0, .string ⟨#[120]⟩, .int .i64 0] 25)).alloc (.cells #[.int .i64 10, .int .i64 0, .int .i64 0] 22)) (W0.heap.size + 1) [.int .i64 10, .int .i64 0, .int .i64 0] 22).later (by repeat (first | exact Below.refl _ _ | refine belAlloc ?_ _))
  have rmF := Blk.keepF rmB
  replace rmB := Blk.keepB rmB
  clear hb2 hbel
  generalize (W0.alloc (.cells #[.string ⟨#[112]⟩, .int .i64 9, .bool true, .int .i64 5, .int .i64 0, .int .i64 0, .int .i64 0, .int .i64 0, .int .i64 0, .string ⟨#[120]⟩, .int .i64 0] 25)).alloc (.cells #[.int .i64 10, .int .i64 0, .int .i64 0] 22) = W1 at *
  replace pp0 := keep pp0
  replace pp1 := keep pp1
  replace pp2 := keep pp2
  replace pp3 := keep pp3
  replace pp4 := keep pp4
  replace pp5 := keep pp5
  replace pp6 := keep pp6
  replace pp7 := keep pp7
  replace pp8 := keep pp8
  replace pp9 := keep pp9
  replace pp10 := keep pp10
  replace rm0 := keep rm0
  replace rm1 := keep rm1
  replace rm2 := keep rm2
  generalize W0.heap.size = NP at *
  have hbel : Below W1.heap.size W1 W1 := Below.refl _ _
  skip
  have hz5 : NP + 1 < W1.heap.size := (rmB _ (Below.refl _ _)).lt
  go_upto_region 6 with (go_at_call 16; (with_reducible refine (C1.out _ _ (row_new W1 [.string ⟨#[97]⟩, .int .i64 1, .bool false, .int .i64 4, .int .i64 0, .int .i64 0, .int .i64 0, .int .i64 0, .int .i64 0, .string ⟨#[120]⟩, .int .i64 0, .string ⟨#[98]⟩, .int .i64 2, .bool false, .int .i64 4, .int .i64 0, .int .i64 0, .int .i64 0, .int .i64 0, .int .i64 0, .string ⟨#[120]⟩, .int .i64 0] 25 2 11 rfl (by unfold maxLen; omega))).mono ?_); rintro e w5 ⟨b5, c5, rfl, hc5, hn5, hb5⟩; replace hbel := belStep (belAlloc hbel _) hb5)
  have hA5 := (aaB _ hbel).far (a := ⟨NP, 2, none⟩) (show NP ≠ w.heap.size by omega) (.bool false)
  have hB5 := (bbB _ hbel).far (a := ⟨NP, 2, none⟩) (show NP ≠ w.heap.size + 1 by omega) (.bool false)
  have hP5 := (ppB _ hbel).set 2 (.bool false)
  have hR5 := (rmB _ hbel).far (a := ⟨NP, 2, none⟩) (show NP ≠ NP + 1 by omega) (.bool false)
  have hpf := ppF _ hbel 2
  have hL5 : (w5.setCell ⟨NP, 2, none⟩ (.bool false)).cell? b5 = some (.string ⟨#[97]⟩) := by
    rw [World.cell?_setCell_far]
    · exact hc5
    · simp at hn5; show NP ≠ b5.block; omega
  have hw5 : Below w.heap.size w (w5.setCell ⟨NP, 2, none⟩ (.bool false)) := belSet (belStep hw hbel) ⟨NP, 2, none⟩ (.bool false) (show w.heap.size ≤ NP by omega)
  go_upto_region 7 with fail
  clear hbel hb5 hc5 hn5 aaB aaF bbB bbF ppB ppF rmB rmF hw hpf aa0 aa1 aa2 aa3 aa4 aa5 aa6 aa7 aa8 aa9 aa10 bb0 bb1 bb2 bb3 bb4 bb5 bb6 bb7 bb8 bb9 bb10 pp0 pp1 pp2 pp3 pp4 pp5 pp6 pp7 pp8 pp9 pp10 rm0 rm1 rm2
  generalize w5.setCell ⟨NP, 2, none⟩ (.bool false) = W2 at *
  have a0 := keep (hA5.cell (j := 0) rfl)
  have a1 := keep (hA5.cell (j := 1) rfl)
  have a2 := keep (hA5.cell (j := 2) rfl)
  have a3 := keep (hA5.cell (j := 3) rfl)
  have a4 := keep (hA5.cell (j := 4) rfl)
  have a5 := keep (hA5.cell (j := 5) rfl)
  have a6 := keep (hA5.cell (j := 6) rfl)
  have a7 := keep (hA5.cell (j := 7) rfl)
  have a8 := keep (hA5.cell (j := 8) rfl)
  have a9 := keep (hA5.cell (j := 9) rfl)
  have a10 := keep (hA5.cell (j := 10) rfl)
  have b0 := keep (hB5.cell (j := 0) rfl)
  have b1 := keep (hB5.cell (j := 1) rfl)
  have b2 := keep (hB5.cell (j := 2) rfl)
  have b3 := keep (hB5.cell (j := 3) rfl)
  have b4 := keep (hB5.cell (j := 4) rfl)
  have b5 := keep (hB5.cell (j := 5) rfl)
  have b6 := keep (hB5.cell (j := 6) rfl)
  have b7 := keep (hB5.cell (j := 7) rfl)
  have b8 := keep (hB5.cell (j := 8) rfl)
  have b9 := keep (hB5.cell (j := 9) rfl)
  have b10 := keep (hB5.cell (j := 10) rfl)
  have p0 := keep (hP5.cell (j := 0) rfl)
  have p1 := keep (hP5.cell (j := 1) rfl)
  have p2 := keep (hP5.cell (j := 2) rfl)
  have p3 := keep (hP5.cell (j := 3) rfl)
  have p4 := keep (hP5.cell (j := 4) rfl)
  have p5 := keep (hP5.cell (j := 5) rfl)
  have p6 := keep (hP5.cell (j := 6) rfl)
  have p7 := keep (hP5.cell (j := 7) rfl)
  have p8 := keep (hP5.cell (j := 8) rfl)
  have p9 := keep (hP5.cell (j := 9) rfl)
  have p10 := keep (hP5.cell (j := 10) rfl)
  have r0 := keep (hR5.cell (j := 0) rfl)
  have r1 := keep (hR5.cell (j := 1) rfl)
  have r2 := keep (hR5.cell (j := 2) rfl)
  have cL := keep hL5
  have hw := hw5
  have hbel : Below W2.heap.size W2 W2 := Below.refl _ _
  clear hA5 hB5 hP5 hR5 hL5 hw5
  go_upto_region 8 with (go_at_call 16; (with_reducible refine (C2.out _ _ (row_new W2 [.string ⟨#[97]⟩, .int .i64 1, .bool false, .int .i64 4, .int .i64 0, .int .i64 0, .int .i64 0, .int .i64 0, .int .i64 0, .string ⟨#[120]⟩, .int .i64 0, .string ⟨#[98]⟩, .int .i64 2, .bool false, .int .i64 4, .int .i64 0, .int .i64 0, .int .i64 0, .int .i64 0, .int .i64 0, .string ⟨#[120]⟩, .int .i64 0] 25 2 11 rfl (by unfold maxLen; omega))).mono ?_); rintro e w6 ⟨rfl, hb6⟩; replace hbel := belStep (belAlloc hbel _) hb6; clear hb6)
  go_upto_region 9 with (go_at_call 16; (with_reducible refine (C3.out _ _ (row_new w6 [.string ⟨#[97]⟩, .int .i64 1, .bool false, .int .i64 4, .int .i64 0, .int .i64 0, .int .i64 0, .int .i64 0, .int .i64 0, .string ⟨#[120]⟩, .int .i64 0] 25 1 11 rfl (by unfold maxLen; omega))).mono ?_); rintro e w7 ⟨a7, c7, rfl, hb7⟩; replace hbel := belStep (belAlloc hbel _) hb7; clear hb7)
  go_wp2_with (first | (go_at_call 18; (with_reducible refine (F1.out _ _ (row_new w7 [.string ⟨#[97]⟩, .int .i64 1, .bool false, .int .i64 4, .int .i64 0, .int .i64 0, .int .i64 0, .int .i64 0, .int .i64 0, .string ⟨#[120]⟩, .int .i64 0, .string ⟨#[112]⟩, .int .i64 9, .bool false, .int .i64 5, .int .i64 0, .int .i64 0, .int .i64 0, .int .i64 0, .int .i64 0, .string ⟨#[120]⟩, .int .i64 0] 25 2 11 rfl (by unfold maxLen; omega))).mono ?_); rintro e w8 ⟨rfl, hb8⟩; replace hbel := belStep (belAlloc hbel _) hb8; clear hb8) | (go_at_call 18; (with_reducible refine (F2.out _ _ (row_new w8 [.string ⟨#[97]⟩, .int .i64 1, .bool false, .int .i64 4, .int .i64 0, .int .i64 0, .int .i64 0, .int .i64 0, .int .i64 0, .string ⟨#[120]⟩, .int .i64 0, .string ⟨#[98]⟩, .int .i64 2, .bool false, .int .i64 4, .int .i64 0, .int .i64 0, .int .i64 0, .int .i64 0, .int .i64 0, .string ⟨#[120]⟩, .int .i64 0, .string ⟨#[112]⟩, .int .i64 9, .bool false, .int .i64 5, .int .i64 0, .int .i64 0, .int .i64 0, .int .i64 0, .int .i64 0, .string ⟨#[120]⟩, .int .i64 0] 25 3 11 rfl (by unfold maxLen; omega))).mono ?_); rintro e w9 ⟨rfl, hb9⟩; replace hbel := belStep (belAlloc hbel _) hb9; clear hb9) | (go_at_call 14; (with_reducible refine (CM.out _).mono ?_); rintro e w1 ⟨rfl, hb1⟩; replace hbel := belStep hbel hb1; clear hb1))
  go_ret
  exact ⟨rfl, belStep hw hbel⟩
end Go.Proofs.Ytnnmganjlhojfaa
