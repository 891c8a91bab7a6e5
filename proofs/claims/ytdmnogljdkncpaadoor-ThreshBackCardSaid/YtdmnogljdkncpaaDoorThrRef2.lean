
/- bilgeref06.Right: contract; the reference's reading as a function, equal to the program's. -/
import Derived.Test.YtdmnogljdkncpaaDoorThrTextMath
namespace Go.Proofs.YtdmnogljdkncpaaDoor
open Go.RowKit
set_option linter.unusedVariables false
set_option linter.unusedSimpArgs false

/-- What the reference reads behind and before the first of each mark. -/
def thR (l : List UInt8) : Option ThrV :=
  if (cutC 60 l).2.2 then
    match limR (cutC 58 (cutC 60 l).2.1).1 with
    | none => none
    | some (p, a) =>
      if (⟨(sigF (cutC 60 l).1).getD (-1), p, a, (cutC 58 (cutC 60 l).2.1).2.2, if (cutC 58 (cutC 60 l).2.1).2.2 then numR (cutC 58 (cutC 60 l).2.1).2.1 else 0⟩ : ThrV).right then
        some ⟨(sigF (cutC 60 l).1).getD (-1), p, a, (cutC 58 (cutC 60 l).2.1).2.2, if (cutC 58 (cutC 60 l).2.1).2.2 then numR (cutC 58 (cutC 60 l).2.1).2.1 else 0⟩
      else none
  else none
theorem sigF_bd {l : List UInt8} {k : Int} (h : sigF l = some k) : 0 ≤ k ∧ k ≤ 2 := by
  unfold sigF at h
  split at h
  · simp only [Option.some.injEq] at h; omega
  · split at h
    · simp only [Option.some.injEq] at h; omega
    · split at h
      · simp only [Option.some.injEq] at h; omega
      · cases h
theorem rt_false {sg pc am gr : Int} {so : Bool} (h : sg < 0 ∨ 2 < sg ∨ pc < 0 ∨ 100 < pc ∨ am < 0 ∨ (pc = 0 ∧ am = 0) ∨ (pc ≠ 0 ∧ am ≠ 0)) : (⟨sg, pc, am, so, gr⟩ : ThrV).right = false := by
  rw [Bool.eq_false_iff]
  intro q
  unfold ThrV.right at q
  simp only [Bool.and_eq_true, Bool.or_eq_true, decide_eq_true_eq, beq_iff_eq] at q
  obtain ⟨⟨⟨q1, q2⟩, q3⟩, q4⟩ := q
  omega
theorem rt_so {sg pc am gr : Int} (h1 : 0 ≤ sg ∧ sg ≤ 2) (h2 : 0 ≤ pc ∧ pc ≤ 100) (h3 : 0 ≤ am) (h4 : (pc = 0 ∧ am ≠ 0) ∨ (pc ≠ 0 ∧ am = 0)) : (⟨sg, pc, am, true, gr⟩ : ThrV).right = (decide (1 ≤ gr) && decide (gr ≤ 1000)) ∧ (⟨sg, pc, am, false, gr⟩ : ThrV).right = (gr == 0) := by
  unfold ThrV.right
  have e : (decide (0 ≤ sg) && decide (sg ≤ 2) && ((decide (1 ≤ pc) && decide (pc ≤ 100) && am == 0) || (pc == 0 && decide (0 < am)))) = true := by
    simp only [Bool.and_eq_true, Bool.or_eq_true, decide_eq_true_eq, beq_iff_eq]
    omega
  simp only
  rw [e]
  simp only [Bool.true_and, if_true, Bool.false_eq_true, if_false, and_self]
theorem th_eq (l : List UInt8) : thR l = thF l := by
  unfold thR thF
  split
  · generalize (cutC 60 l).1 = a1
    generalize (cutC 60 l).2.1 = v0
    rw [lim_eq]
    generalize (cutC 58 v0).1 = b1
    generalize (cutC 58 v0).2.1 = b2
    generalize (cutC 58 v0).2.2 = so
    cases limR b1 with
    | none =>
      cases sigF a1 <;> rfl
    | some pa =>
      obtain ⟨p, a⟩ := pa
      simp only
      cases hs : sigF a1 with
      | none =>
        rw [if_neg]
        intro q
        unfold ThrV.right at q
        simp at q
      | some k =>
        have hk := sigF_bd hs
        simp only [Option.getD_some]
        unfold grF
        by_cases hp : (1 ≤ p ∧ p ≤ 100 ∧ a = 0) ∨ (p = 0 ∧ 0 < a)
        · rw [if_pos hp]
          cases so with
          | false =>
            simp only [Bool.false_eq_true, if_false]
            rw [if_pos (by rw [(rt_so (gr := 0) hk (by omega) (by omega) (show (p = 0 ∧ a ≠ 0) ∨ (p ≠ 0 ∧ a = 0) by omega)).2]; rfl)]
          | true =>
            simp only [if_true]
            rw [numR_dgv _ _ (by omega)]
            by_cases hg : 1 ≤ numR b2 ∧ numR b2 ≤ 1000
            · rw [if_pos hg, if_pos (by rw [(rt_so hk (by omega) (by omega) (show (p = 0 ∧ a ≠ 0) ∨ (p ≠ 0 ∧ a = 0) by omega)).1, decide_eq_true hg.1, decide_eq_true hg.2]; rfl)]
            · rw [if_neg hg, if_neg]
              intro q
              unfold ThrV.right at q
              simp only [Bool.and_eq_true, Bool.or_eq_true, decide_eq_true_eq, beq_iff_eq, if_true] at q
              exact hg q.2
        · rw [if_neg hp, if_neg]
          intro q
          unfold ThrV.right at q
          simp only [Bool.and_eq_true, Bool.or_eq_true, decide_eq_true_eq, beq_iff_eq] at q
          obtain ⟨⟨⟨q1, q2⟩, q3⟩, q4⟩ := q
          omega
  · rfl
