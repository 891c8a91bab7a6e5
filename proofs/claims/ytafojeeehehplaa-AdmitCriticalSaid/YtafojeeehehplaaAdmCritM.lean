/- What AdmitCritical rests on. -/
import Derived.Test.YtafojeeehehplaaAdmLM
import Derived.Test.YtafojeeehehplaaAppG
namespace Go.Proofs.Ytafojeeehehplaa
open Go.RowKit
set_option linter.unusedVariables false
set_option linter.unusedSimpArgs false
theorem bar_crit {O : On} {p : PodV} (h : p.crit = true) : barredF O p = none := by unfold barredF; rw [h]; rfl
theorem choose_some {R : Room} {L : List PodV} {p : PodV} {G : List ByteArray} (hf : FitOK R L p) (hc : chooseF R L p = some G) : fitsB R (stF L p ++ [p]) = true := by
  unfold chooseF at hc
  by_cases h1 : fitsB R (L ++ [p]) = true
  · refine fits_mono h1 (List.filter_sublist.append (List.Sublist.refl _)) (fun x hx => ?_) (Int.le_refl _) (Int.le_refl _) (Int.le_refl _)
    rcases List.mem_append.1 hx with h | h
    · exact (hf.rl x h).1
    · simp at h; subst h; exact hf.rp
  · rw [if_neg h1] at hc
    by_cases h2 : fitsB R (stF L p ++ [p]) = true
    · exact h2
    · rw [if_neg h2] at hc; cases hc
theorem choose_none {R : Room} {L : List PodV} {p : PodV} (hc : chooseF R L p = none) : fitsB R (stF L p ++ [p]) = false := by
  unfold chooseF at hc
  by_cases h1 : fitsB R (L ++ [p]) = true
  · rw [if_pos h1] at hc; cases hc
  · rw [if_neg h1] at hc
    by_cases h2 : fitsB R (stF L p ++ [p]) = true
    · rw [if_pos h2] at hc; cases hc
    · simpa using h2
end Go.Proofs.Ytafojeeehehplaa
