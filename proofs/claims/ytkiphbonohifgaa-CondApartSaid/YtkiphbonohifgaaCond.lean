
/- Contracts of package cond and of its reference, each by one plain function. -/
import Derived.Test.YtkiphbonohifgaaBase
namespace Go.Proofs.Ytkiphbonohifgaa
open Go.RowKit
set_option linter.unusedVariables false

/-- A condition behind a round: is it on, and how many calm rounds there were. -/
def stepOn (on : Bool) (calm : Int) (holds met fresh : Bool) (n : Int) : Bool :=
  (fresh && holds) || (on && (!fresh || met || decide (calm + 1 < n)))
def stepCalm (on : Bool) (calm : Int) (holds met fresh : Bool) (n : Int) : Int :=
  if (fresh && holds) || !on || !fresh || met then 0 else if calm + 1 < n then calm + 1 else 0
def rightC (on : Bool) (calm : Int) (n : Int) : Bool := if on then decide (0 ≤ calm ∧ calm < n) else calm == 0

theorem ret_cond {a c : Bool} {b d : Int} (h : a = c) (h' : b = d) : Ending.returned (.agg #[.bool a, .int .i64 b]) = .returned (.agg #[.bool c, .int .i64 d]) := by rw [h, h']

set_option maxHeartbeats 1000000 in
theorem cond_Right (on : Bool) (calm n : Int) (w : World) :
    Calls Try.prog 9 #[.agg #[.bool on, .int .i64 calm], .int .i64 n] w fun e w' => e = .returned (.bool (rightC on calm n)) ∧ Below w.heap.size w w' := by
  cases on
  · go_enter Try.func9, Try.ntmps9
    go_wp2
    go_ret
    exact ⟨ret_bool rfl, (Below.refl _ _).alloc (Nat.le_refl _) _⟩
  · have key : (¬ 0 ≤ calm) ∨ (0 ≤ calm) := by omega
    rcases key with h | h
    all_goals
      go_enter Try.func9, Try.ntmps9
      go_wp2
      go_ret
      exact ⟨ret_bool (by simp [rightC]; omega), (Below.refl _ _).alloc (Nat.le_refl _) _⟩

set_option maxHeartbeats 1000000 in
theorem cond_Step (on : Bool) (calm : Int) (holds met fresh : Bool) (n : Int) (w : World) (hc : 0 ≤ calm) (hc1 : calm < 9223372036854775807) :
    Calls Try.prog 8 #[.agg #[.bool on, .int .i64 calm], .bool holds, .bool met, .bool fresh, .int .i64 n] w fun e w' =>
      e = .returned (.agg #[.bool (stepOn on calm holds met fresh n), .int .i64 (stepCalm on calm holds met fresh n)]) ∧ Below w.heap.size w w' := by
  have key : (n ≤ calm + 1) ∨ ¬ (n ≤ calm + 1) := by omega
  cases fresh <;> cases holds <;> cases on <;> cases met
  all_goals
    go_enter Try.func8, Try.ntmps8
    go_wp2
    all_goals (
      simp [bodyPost, results, Try.results8, go_sem]
      refine ⟨⟨?_, ?_⟩, ((Below.refl _ _).alloc (Nat.le_refl _) _).alloc (by simp) _⟩ <;> (simp [stepOn, stepCalm]; try omega))

set_option maxHeartbeats 1000000 in
theorem cref_Right (on : Bool) (calm n : Int) (w : World) :
    Calls Try.prog 6 #[.agg #[.bool on, .int .i64 calm], .int .i64 n] w fun e w' => e = .returned (.bool (rightC on calm n)) ∧ Below w.heap.size w w' := by
  cases on
  · go_enter Try.func6, Try.ntmps6
    go_wp2
    go_ret
    exact ⟨ret_bool rfl, (Below.refl _ _).alloc (Nat.le_refl _) _⟩
  · have key : (¬ 0 ≤ calm) ∨ (0 ≤ calm) := by omega
    rcases key with h | h
    all_goals
      go_enter Try.func6, Try.ntmps6
      go_wp2
      go_ret
      exact ⟨ret_bool (by simp [rightC]; omega), (Below.refl _ _).alloc (Nat.le_refl _) _⟩

set_option maxHeartbeats 400000 in
theorem period_any (n : Int) (w : World) :
    Calls Try.prog 5 #[.int .i64 n] w fun e w' => e = .returned (.bool (decide (1 ≤ n ∧ n ≤ 1000))) ∧ w = w' := by
  have key : (¬ 1 ≤ n) ∨ (1 ≤ n) := by omega
  rcases key with h | h
  all_goals
    go_enter Try.func5, Try.ntmps5
    go_wp2
    go_ret
    exact ⟨ret_bool (by simp; omega), rfl⟩
end Go.Proofs.Ytkiphbonohifgaa
