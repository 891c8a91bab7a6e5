
/- Contracts of package sat and of its reference, each by one plain function. -/
import Derived.Test.YtekakalhknjdaaaDoorBase
namespace Go.Proofs.YtekakalhknjdaaaDoor
open Go.RowKit
set_option linter.unusedVariables false

def satAdd (a b : Int) : Int := min (max a 0 + max b 0) 9223372036854775807
def satMul (a b : Int) : Int := min (max a 0 * max b 0) 9223372036854775807
def satLess (a b : Int) : Int := max (max a 0 - max b 0) 0
def satSum (l : List Int) : Int := l.foldl satAdd 0
def satHeld (a : Int) : Int := min a 9223372036854775807
theorem satAdd_bd (a b : Int) : 0 ≤ satAdd a b ∧ satAdd a b ≤ 9223372036854775807 := by unfold satAdd; omega
theorem satLess_bd (a b : Int) (h : InI a) : 0 ≤ satLess a b ∧ satLess a b ≤ 9223372036854775807 := by unfold satLess; unfold InI at h; omega

theorem inI_add (a b : Int) : InI (satAdd a b) := by have := satAdd_bd a b; unfold InI; omega
theorem inI_0 : InI 0 := by unfold InI; omega
theorem satAdd_comm (a b : Int) : satAdd a b = satAdd b a := by unfold satAdd; rw [Int.add_comm]
theorem satAdd_assoc (a b c : Int) : satAdd (satAdd a b) c = satAdd a (satAdd b c) := by unfold satAdd; omega
theorem satMul_comm (a b : Int) : satMul a b = satMul b a := by unfold satMul; rw [Int.mul_comm]









theorem mul_fits (x y : Int) (hx : 0 ≤ x) (hy : 1 ≤ y) : (9223372036854775807 / y < x) ↔ 9223372036854775807 < x * y := by
  constructor
  · intro h
    exact (Int.ediv_lt_iff_lt_mul (by omega)).1 h
  · intro h
    exact (Int.ediv_lt_iff_lt_mul (by omega)).2 h


theorem mul_round (o x y m : Int) (ho : 0 ≤ o) (hx : 0 ≤ x) (hy : 0 < y) (ho1 : o ≤ 9223372036854775807) (hx1 : x ≤ 9223372036854775807)
    (h : min (o + x * y) 9223372036854775807 = m) :
    (y % 2 = 1 → min (satAdd o x + satAdd x x * (y / 2)) 9223372036854775807 = m) ∧ (y % 2 ≠ 1 → min (o + satAdd x x * (y / 2)) 9223372036854775807 = m) := by
  have e : x * y = x * (y / 2) + x * (y / 2) + x * (y % 2) := by
    rw [← Int.mul_add, ← Int.mul_add]; congr 1; omega
  have hd : 0 ≤ y / 2 := by omega
  have hp : 0 ≤ x * (y / 2) := Int.mul_nonneg hx hd
  have hs : satAdd x x = min (x + x) 9223372036854775807 := by unfold satAdd; omega
  have hso : satAdd o x = min (o + x) 9223372036854775807 := by unfold satAdd; omega
  rw [hs, hso]
  have e2 : (x + x) * (y / 2) = x * (y / 2) + x * (y / 2) := by rw [Int.add_mul]
  have r : y % 2 = 0 ∨ y % 2 = 1 := by omega
  have hxr : x * (y % 2) = if y % 2 = 1 then x else 0 := by rcases r with r | r <;> simp [r]
  rw [hxr] at e
  by_cases hc : x + x ≤ 9223372036854775807
  · rw [show min (x + x) 9223372036854775807 = x + x by omega, e2]
    refine ⟨fun hr => ?_, fun hr => ?_⟩
    · rw [if_pos hr] at e; omega
    · rw [if_neg hr] at e; omega
  · rw [show min (x + x) 9223372036854775807 = 9223372036854775807 by omega]
    by_cases hy2 : y / 2 = 0
    · rw [hy2] at e e2 hp ⊢
      refine ⟨fun hr => ?_, fun hr => ?_⟩
      · rw [if_pos hr] at e; omega
      · omega
    · have hge : x ≤ x * (y / 2) := by
        have := Int.mul_le_mul_of_nonneg_left (show (1 : Int) ≤ y / 2 by omega) hx
        omega
      refine ⟨fun hr => ?_, fun hr => ?_⟩
      · rw [if_pos hr] at e; omega
      · rw [if_neg hr] at e; omega




end Go.Proofs.YtekakalhknjdaaaDoor
