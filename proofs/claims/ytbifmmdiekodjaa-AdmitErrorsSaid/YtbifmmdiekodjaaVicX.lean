
/- Exact sums: the two words of bilgeref21.Exact, and what they say of fitting. -/
import Derived.Test.YtbifmmdiekodjaaVicOpen
namespace Go.Proofs.Ytbifmmdiekodjaa
open Go.RowKit
set_option linter.unusedVariables false
set_option linter.unusedSimpArgs false
def sumX (f : PodV → Int) (L : List PodV) : Int := L.foldl (fun s p => s + f p) 0
theorem sumX_next (f : PodV → Int) {L : List PodV} {k : Nat} {p : PodV} (h : L[k]? = some p) : sumX f (L.take (k + 1)) = sumX f (L.take k) + f p := by
  unfold sumX
  rw [List.take_add_one, h, List.foldl_append]
  rfl
theorem sum_both (f : PodV → Int) : ∀ (L : List PodV) (s S : Int), s = min S 9223372036854775807 → 0 ≤ S → (∀ x ∈ L, 0 ≤ f x) →
    L.foldl (fun s p => satAdd s (f p)) s = min (L.foldl (fun s p => s + f p) S) 9223372036854775807 ∧ 0 ≤ L.foldl (fun s p => s + f p) S
  | [], s, S, h, h0, _ => ⟨h, h0⟩
  | x :: L, s, S, h, h0, hp => by
    have hx := hp x (by simp)
    rw [List.foldl_cons, List.foldl_cons]
    exact sum_both f L _ _ (by unfold satAdd; omega) (by omega) (fun y hy => hp y (by simp [hy]))
theorem sumF_X (f : PodV → Int) (L : List PodV) (h : ∀ x ∈ L, 0 ≤ f x) : sumF f L = min (sumX f L) 9223372036854775807 ∧ 0 ≤ sumX f L := sum_both f L 0 0 (by omega) (by omega) h
def exG (room S : Int) : Bool := decide (S < 9223372036854775807) && decide (S ≤ room)
theorem fit1_X (room : Int) (f : PodV → Int) (L : List PodV) (h : ∀ x ∈ L, 0 ≤ f x) : fit1 room (sumF f L) = exG room (sumX f L) := by
  have hx := (sumF_X f L h).1
  rw [Bool.eq_iff_iff]
  unfold fit1 exG
  simp only [Bool.and_eq_true, decide_eq_true_eq, Bool.not_eq_true', beq_eq_false_iff_ne, ne_eq]
  omega
def exB (R : Room) (L : List PodV) : Nat → Bool
  | 0 => true
  | 1 => exG R.a (sumX PodV.r0 L)
  | 2 => exG R.a (sumX PodV.r0 L) && exG R.b (sumX PodV.r1 L)
  | _ => exG R.a (sumX PodV.r0 L) && exG R.b (sumX PodV.r1 L) && exG R.c (sumX PodV.r2 L)
theorem fits_X (R : Room) (L : List PodV) (h : ∀ x ∈ L, rightB x = true) : fitsB R L = exB R L 3 := by
  show (fit1 R.a (sumF PodV.r0 L) && (fit1 R.b (sumF PodV.r1 L) && fit1 R.c (sumF PodV.r2 L))) = (exG R.a (sumX PodV.r0 L) && exG R.b (sumX PodV.r1 L) && exG R.c (sumX PodV.r2 L))
  rw [fit1_X R.a PodV.r0 L (fun x hx => (PodV.right_pos x (h x hx)).1), fit1_X R.b PodV.r1 L (fun x hx => (PodV.right_pos x (h x hx)).2.1), fit1_X R.c PodV.r2 L (fun x hx => (PodV.right_pos x (h x hx)).2.2), Bool.and_assoc]
theorem ex_cases {room S : Int} (hS : 0 ≤ S) : (exG room S = true ∧ ¬ 0 < S / 18446744073709551616 ∧ ¬ 9223372036854775807 ≤ S % 18446744073709551616 ∧ ¬ room < S % 18446744073709551616) ∨
    (exG room S = false ∧ (0 < S / 18446744073709551616 ∨ (¬ 0 < S / 18446744073709551616 ∧ 9223372036854775807 ≤ S % 18446744073709551616) ∨ (¬ 0 < S / 18446744073709551616 ∧ ¬ 9223372036854775807 ≤ S % 18446744073709551616 ∧ room < S % 18446744073709551616))) := by
  unfold exG
  by_cases h : S < 9223372036854775807 ∧ S ≤ room
  · refine .inl ⟨by simp [h.1, h.2], ?_⟩
    omega
  · refine .inr ⟨?_, ?_⟩
    · rcases Bool.eq_false_or_eq_true (decide (S < 9223372036854775807) && decide (S ≤ room)) with k | k
      · simp only [Bool.and_eq_true, decide_eq_true_eq] at k; exact absurd k h
      · exact k
    · omega
end Go.Proofs.Ytbifmmdiekodjaa
