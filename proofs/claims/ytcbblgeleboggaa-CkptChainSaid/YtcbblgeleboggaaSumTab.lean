
/- The table of package sum, and its sums. -/
import Derived.Test.YtcbblgeleboggaaSum
namespace Go.Proofs.Ytcbblgeleboggaa
open Go.RowKit
set_option linter.unusedVariables false
set_option linter.unusedSimpArgs false

theorem st1_xor (a b : Nat) : st1 (a ^^^ b) = st1 a ^^^ st1 b := by
  unfold st1
  have h1 : (a ^^^ b) / 2 = a / 2 ^^^ b / 2 := Nat.xor_div_two
  have h2 : (a ^^^ b) % 2 = 1 ↔ ¬ (a % 2 = 1 ↔ b % 2 = 1) := Nat.xor_mod_two_eq_one
  rw [h1]
  by_cases ha : a % 2 = 1 <;> by_cases hb : b % 2 = 1
  · rw [if_neg (by simp [h2, ha, hb]), if_pos ha, if_pos hb]
    rw [Nat.xor_assoc (a / 2), Nat.xor_comm (b / 2) 3988292384, ← Nat.xor_assoc 3988292384 3988292384, Nat.xor_self, Nat.zero_xor]
  · rw [if_pos (by simp [h2, ha, hb]), if_pos ha, if_neg hb]
    rw [Nat.xor_assoc, Nat.xor_assoc, Nat.xor_comm (b / 2)]
  · rw [if_pos (by simp [h2, ha, hb]), if_neg ha, if_pos hb]
    rw [Nat.xor_assoc]
  · rw [if_neg (by simp [h2, ha, hb]), if_neg ha, if_neg hb]
theorem st1_split (x : Nat) : st1 x = (x / 2) ^^^ st1 (x % 2) := by
  rcases Nat.mod_two_eq_zero_or_one x with h | h
  · rw [h]; unfold st1; rw [if_neg (by omega), if_neg (by omega)]; simp
  · rw [h]; unfold st1; rw [if_pos h, if_pos (by omega)]; simp
theorem stN_split (k : Nat) : ∀ w : Nat, stN k w = (w / 2 ^ k) ^^^ stN k (w % 2 ^ k) := by
  induction k with
  | zero => intro w; simp [stN, Nat.mod_one]
  | succ k ih =>
    intro w
    have e1 : w % 2 ^ (k + 1) / 2 ^ k = w / 2 ^ k % 2 := by rw [Nat.pow_succ]; exact Nat.mod_mul_right_div_self w (2 ^ k) 2
    have e2 : w % 2 ^ (k + 1) % 2 ^ k = w % 2 ^ k := by rw [Nat.pow_succ]; exact Nat.mod_mul_right_mod w (2 ^ k) 2
    have e3 : w / 2 ^ k / 2 = w / 2 ^ (k + 1) := by rw [Nat.pow_succ, Nat.div_div_eq_div_mul]
    show st1 (stN k w) = _ ^^^ st1 (stN k (w % 2 ^ (k + 1)))
    rw [ih w, ih (w % 2 ^ (k + 1)), e1, e2, st1_xor, st1_xor, st1_split (w / 2 ^ k), e3, Nat.xor_assoc]
theorem stN_add (a b w : Nat) : stN (a + b) w = stN a (stN b w) := by
  induction a with
  | zero => simp [stN]
  | succ a ih => rw [Nat.succ_add]; show st1 _ = st1 _; rw [ih]
/-- A word turned by four bits: by the table. -/
theorem nibble (w : Nat) : stN 4 w = (w / 16) ^^^ stN 4 (w % 16) := stN_split 4 w
theorem and15 (v : Nat) (h : v < 4294967296) : bits .and .u32 (v : Int) 15 = ((v % 16 : Nat) : Int) := by
  have := bits_mask .u32 32 (Nat.le_refl _) (fun n h0 h1 => IntWalk.u32_in n ⟨h0, by omega⟩) 4 (by omega) (v : Int) (by omega) (by omega)
  simpa using this

/-- The table, while the first i words of it are laid. -/
def tab (i : Nat) (j : Nat) : Int := if j < i then (stN 4 j : Nat) else 0
def tabC (i : Nat) : List Value := [.int .u32 (tab i 0), .int .u32 (tab i 1), .int .u32 (tab i 2), .int .u32 (tab i 3), .int .u32 (tab i 4), .int .u32 (tab i 5), .int .u32 (tab i 6), .int .u32 (tab i 7), .int .u32 (tab i 8), .int .u32 (tab i 9), .int .u32 (tab i 10), .int .u32 (tab i 11), .int .u32 (tab i 12), .int .u32 (tab i 13), .int .u32 (tab i 14), .int .u32 (tab i 15)]
theorem tabC_get (i : Nat) {j : Nat} (h : j < 16) : (tabC i)[j]? = some (.int .u32 (tab i j)) := by
  have : j = 0 ∨ j = 1 ∨ j = 2 ∨ j = 3 ∨ j = 4 ∨ j = 5 ∨ j = 6 ∨ j = 7 ∨ j = 8 ∨ j = 9 ∨ j = 10 ∨ j = 11 ∨ j = 12 ∨ j = 13 ∨ j = 14 ∨ j = 15 := by omega
  rcases this with rfl | rfl | rfl | rfl | rfl | rfl | rfl | rfl | rfl | rfl | rfl | rfl | rfl | rfl | rfl | rfl <;> rfl
theorem tabC_set {j : Nat} (h : j < 16) : (tabC j).set j (.int .u32 (stN 4 j : Nat)) = tabC (j + 1) := by
  have : j = 0 ∨ j = 1 ∨ j = 2 ∨ j = 3 ∨ j = 4 ∨ j = 5 ∨ j = 6 ∨ j = 7 ∨ j = 8 ∨ j = 9 ∨ j = 10 ∨ j = 11 ∨ j = 12 ∨ j = 13 ∨ j = 14 ∨ j = 15 := by omega
  rcases this with rfl | rfl | rfl | rfl | rfl | rfl | rfl | rfl | rfl | rfl | rfl | rfl | rfl | rfl | rfl | rfl <;> rfl
theorem and1 (v : Nat) (h : v < 4294967296) : bits .and .u32 (v : Int) 1 = ((v % 2 : Nat) : Int) := by
  have := bits_mask .u32 32 (Nat.le_refl _) (fun n h0 h1 => IntWalk.u32_in n ⟨h0, by omega⟩) 1 (by omega) (v : Int) (by omega) (by omega)
  simpa using this

set_option maxRecDepth 100000 in
set_option maxHeartbeats 4000000 in
theorem sum_table (w : World) :
    Calls Try.prog 80 #[] w fun e w' => e = .returned (.agg #[.int .u32 (tab 16 0), .int .u32 (tab 16 1), .int .u32 (tab 16 2), .int .u32 (tab 16 3), .int .u32 (tab 16 4), .int .u32 (tab 16 5), .int .u32 (tab 16 6), .int .u32 (tab 16 7), .int .u32 (tab 16 8), .int .u32 (tab 16 9), .int .u32 (tab 16 10), .int .u32 (tab 16 11), .int .u32 (tab 16 12), .int .u32 (tab 16 13), .int .u32 (tab 16 14), .int .u32 (tab 16 15)]) ∧ Below w.heap.size w w' := by
  have hw : Below w.heap.size w w := Below.refl _ _
  have hbel := hw
  go_enter Try.func80, Try.ntmps80
  go_upto_region 1 with fail
  have q0 : (w.alloc (.cells #[.int .u32 0, .int .u32 0, .int .u32 0, .int .u32 0, .int .u32 0, .int .u32 0, .int .u32 0, .int .u32 0, .int .u32 0, .int .u32 0, .int .u32 0, .int .u32 0, .int .u32 0, .int .u32 0, .int .u32 0, .int .u32 0] 117)).cell? ⟨w.heap.size, 0, none⟩ = some (.int .u32 0) := by first | (simp; done) | (rw [World.cell?_alloc_at _ _ _ _ (by simp)]; rfl) | (rw [World.cell?_alloc_past _ _ _ (by simp <;> omega), World.cell?_alloc_at _ _ _ _ (by simp)]; rfl) | (rw [World.cell?_alloc_past _ _ _ (by simp <;> omega), World.cell?_alloc_past _ _ _ (by simp <;> omega), World.cell?_alloc_at _ _ _ _ (by simp)]; rfl)
  have q1 : (w.alloc (.cells #[.int .u32 0, .int .u32 0, .int .u32 0, .int .u32 0, .int .u32 0, .int .u32 0, .int .u32 0, .int .u32 0, .int .u32 0, .int .u32 0, .int .u32 0, .int .u32 0, .int .u32 0, .int .u32 0, .int .u32 0, .int .u32 0] 117)).cell? ⟨w.heap.size, 1, none⟩ = some (.int .u32 0) := by first | (simp; done) | (rw [World.cell?_alloc_at _ _ _ _ (by simp)]; rfl) | (rw [World.cell?_alloc_past _ _ _ (by simp <;> omega), World.cell?_alloc_at _ _ _ _ (by simp)]; rfl) | (rw [World.cell?_alloc_past _ _ _ (by simp <;> omega), World.cell?_alloc_past _ _ _ (by simp <;> omega), World.cell?_alloc_at _ _ _ _ (by simp)]; rfl)
  have q2 : (w.alloc (.cells #[.int .u32 0, .int .u32 0, .int .u32 0, .int .u32 0, .int .u32 0, .int .u32 0, .int .u32 0, .int .u32 0, .int .u32 0, .int .u32 0, .int .u32 0, .int .u32 0, .int .u32 0, .int .u32 0, .int .u32 0, .int .u32 0] 117)).cell? ⟨w.heap.size, 2, none⟩ = some (.int .u32 0) := by first | (simp; done) | (rw [World.cell?_alloc_at _ _ _ _ (by simp)]; rfl) | (rw [World.cell?_alloc_past _ _ _ (by simp <;> omega), World.cell?_alloc_at _ _ _ _ (by simp)]; rfl) | (rw [World.cell?_alloc_past _ _ _ (by simp <;> omega), World.cell?_alloc_past _ _ _ (by simp <;> omega), World.cell?_alloc_at _ _ _ _ (by simp)]; rfl)
  have q3 : (w.alloc (.cells #[.int .u32 0, .int .u32 0, .int .u32 0, .int .u32 0, .int .u32 0, .int .u32 0, .int .u32 0, .int .u32 0, .int .u32 0, .int .u32 0, .int .u32 0, .int .u32 0, .int .u32 0, .int .u32 0, .int .u32 0, .int .u32 0] 117)).cell? ⟨w.heap.size, 3, none⟩ = some (.int .u32 0) := by first | (simp; done) | (rw [World.cell?_alloc_at _ _ _ _ (by simp)]; rfl) | (rw [World.cell?_alloc_past _ _ _ (by simp <;> omega), World.cell?_alloc_at _ _ _ _ (by simp)]; rfl) | (rw [World.cell?_alloc_past _ _ _ (by simp <;> omega), World.cell?_alloc_past _ _ _ (by simp <;> omega), World.cell?_alloc_at _ _ _ _ (by simp)]; rfl)
  have q4 : (w.alloc (.cells #[.int .u32 0, .int .u32 0, .int .u32 0, .int .u32 0, .int .u32 0, .int .u32 0, .int .u32 0, .int .u32 0, .int .u32 0, .int .u32 0, .int .u32 0, .int .u32 0, .int .u32 0, .int .u32 0, .int .u32 0, .int .u32 0] 117)).cell? ⟨w.heap.size, 4, none⟩ = some (.int .u32 0) := by first | (simp; done) | (rw [World.cell?_alloc_at _ _ _ _ (by simp)]; rfl) | (rw [World.cell?_alloc_past _ _ _ (by simp <;> omega), World.cell?_alloc_at _ _ _ _ (by simp)]; rfl) | (rw [World.cell?_alloc_past _ _ _ (by simp <;> omega), World.cell?_alloc_past _ _ _ (by simp <;> omega), World.cell?_alloc_at _ _ _ _ (by simp)]; rfl)
  have q5 : (w.alloc (.cells #[.int .u32 0, .int .u32 0, .int .u32 0, .int .u32 0, .int .u32 0, .int .u32 0, .int .u32 0, .int .u32 0, .int .u32 0, .int .u32 0, .int .u32 0, .int .u32 0, .int .u32 0, .int .u32 0, .int .u32 0, .int .u32 0] 117)).cell? ⟨w.heap.size, 5, none⟩ = some (.int .u32 0) := by first | (simp; done) | (rw [World.cell?_alloc_at _ _ _ _ (by simp)]; rfl) | (rw [World.cell?_alloc_past _ _ _ (by simp <;> omega), World.cell?_alloc_at _ _ _ _ (by simp)]; rfl) | (rw [World.cell?_alloc_past _ _ _ (by simp <;> omega), World.cell?_alloc_past _ _ _ (by simp <;> omega), World.cell?_alloc_at _ _ _ _ (by simp)]; rfl)
  have q6 : (w.alloc (.cells #[.int .u32 0, .int .u32 0, .int .u32 0, .int .u32 0, .int .u32 0, .int .u32 0, .int .u32 0, .int .u32 0, .int .u32 0, .int .u32 0, .int .u32 0, .int .u32 0, .int .u32 0, .int .u32 0, .int .u32 0, .int .u32 0] 117)).cell? ⟨w.heap.size, 6, none⟩ = some (.int .u32 0) := by first | (simp; done) | (rw [World.cell?_alloc_at _ _ _ _ (by simp)]; rfl) | (rw [World.cell?_alloc_past _ _ _ (by simp <;> omega), World.cell?_alloc_at _ _ _ _ (by simp)]; rfl) | (rw [World.cell?_alloc_past _ _ _ (by simp <;> omega), World.cell?_alloc_past _ _ _ (by simp <;> omega), World.cell?_alloc_at _ _ _ _ (by simp)]; rfl)
  have q7 : (w.alloc (.cells #[.int .u32 0, .int .u32 0, .int .u32 0, .int .u32 0, .int .u32 0, .int .u32 0, .int .u32 0, .int .u32 0, .int .u32 0, .int .u32 0, .int .u32 0, .int .u32 0, .int .u32 0, .int .u32 0, .int .u32 0, .int .u32 0] 117)).cell? ⟨w.heap.size, 7, none⟩ = some (.int .u32 0) := by first | (simp; done) | (rw [World.cell?_alloc_at _ _ _ _ (by simp)]; rfl) | (rw [World.cell?_alloc_past _ _ _ (by simp <;> omega), World.cell?_alloc_at _ _ _ _ (by simp)]; rfl) | (rw [World.cell?_alloc_past _ _ _ (by simp <;> omega), World.cell?_alloc_past _ _ _ (by simp <;> omega), World.cell?_alloc_at _ _ _ _ (by simp)]; rfl)
  have q8 : (w.alloc (.cells #[.int .u32 0, .int .u32 0, .int .u32 0, .int .u32 0, .int .u32 0, .int .u32 0, .int .u32 0, .int .u32 0, .int .u32 0, .int .u32 0, .int .u32 0, .int .u32 0, .int .u32 0, .int .u32 0, .int .u32 0, .int .u32 0] 117)).cell? ⟨w.heap.size, 8, none⟩ = some (.int .u32 0) := by first | (simp; done) | (rw [World.cell?_alloc_at _ _ _ _ (by simp)]; rfl) | (rw [World.cell?_alloc_past _ _ _ (by simp <;> omega), World.cell?_alloc_at _ _ _ _ (by simp)]; rfl) | (rw [World.cell?_alloc_past _ _ _ (by simp <;> omega), World.cell?_alloc_past _ _ _ (by simp <;> omega), World.cell?_alloc_at _ _ _ _ (by simp)]; rfl)
  have q9 : (w.alloc (.cells #[.int .u32 0, .int .u32 0, .int .u32 0, .int .u32 0, .int .u32 0, .int .u32 0, .int .u32 0, .int .u32 0, .int .u32 0, .int .u32 0, .int .u32 0, .int .u32 0, .int .u32 0, .int .u32 0, .int .u32 0, .int .u32 0] 117)).cell? ⟨w.heap.size, 9, none⟩ = some (.int .u32 0) := by first | (simp; done) | (rw [World.cell?_alloc_at _ _ _ _ (by simp)]; rfl) | (rw [World.cell?_alloc_past _ _ _ (by simp <;> omega), World.cell?_alloc_at _ _ _ _ (by simp)]; rfl) | (rw [World.cell?_alloc_past _ _ _ (by simp <;> omega), World.cell?_alloc_past _ _ _ (by simp <;> omega), World.cell?_alloc_at _ _ _ _ (by simp)]; rfl)
  have q10 : (w.alloc (.cells #[.int .u32 0, .int .u32 0, .int .u32 0, .int .u32 0, .int .u32 0, .int .u32 0, .int .u32 0, .int .u32 0, .int .u32 0, .int .u32 0, .int .u32 0, .int .u32 0, .int .u32 0, .int .u32 0, .int .u32 0, .int .u32 0] 117)).cell? ⟨w.heap.size, 10, none⟩ = some (.int .u32 0) := by first | (simp; done) | (rw [World.cell?_alloc_at _ _ _ _ (by simp)]; rfl) | (rw [World.cell?_alloc_past _ _ _ (by simp <;> omega), World.cell?_alloc_at _ _ _ _ (by simp)]; rfl) | (rw [World.cell?_alloc_past _ _ _ (by simp <;> omega), World.cell?_alloc_past _ _ _ (by simp <;> omega), World.cell?_alloc_at _ _ _ _ (by simp)]; rfl)
  have q11 : (w.alloc (.cells #[.int .u32 0, .int .u32 0, .int .u32 0, .int .u32 0, .int .u32 0, .int .u32 0, .int .u32 0, .int .u32 0, .int .u32 0, .int .u32 0, .int .u32 0, .int .u32 0, .int .u32 0, .int .u32 0, .int .u32 0, .int .u32 0] 117)).cell? ⟨w.heap.size, 11, none⟩ = some (.int .u32 0) := by first | (simp; done) | (rw [World.cell?_alloc_at _ _ _ _ (by simp)]; rfl) | (rw [World.cell?_alloc_past _ _ _ (by simp <;> omega), World.cell?_alloc_at _ _ _ _ (by simp)]; rfl) | (rw [World.cell?_alloc_past _ _ _ (by simp <;> omega), World.cell?_alloc_past _ _ _ (by simp <;> omega), World.cell?_alloc_at _ _ _ _ (by simp)]; rfl)
  have q12 : (w.alloc (.cells #[.int .u32 0, .int .u32 0, .int .u32 0, .int .u32 0, .int .u32 0, .int .u32 0, .int .u32 0, .int .u32 0, .int .u32 0, .int .u32 0, .int .u32 0, .int .u32 0, .int .u32 0, .int .u32 0, .int .u32 0, .int .u32 0] 117)).cell? ⟨w.heap.size, 12, none⟩ = some (.int .u32 0) := by first | (simp; done) | (rw [World.cell?_alloc_at _ _ _ _ (by simp)]; rfl) | (rw [World.cell?_alloc_past _ _ _ (by simp <;> omega), World.cell?_alloc_at _ _ _ _ (by simp)]; rfl) | (rw [World.cell?_alloc_past _ _ _ (by simp <;> omega), World.cell?_alloc_past _ _ _ (by simp <;> omega), World.cell?_alloc_at _ _ _ _ (by simp)]; rfl)
  have q13 : (w.alloc (.cells #[.int .u32 0, .int .u32 0, .int .u32 0, .int .u32 0, .int .u32 0, .int .u32 0, .int .u32 0, .int .u32 0, .int .u32 0, .int .u32 0, .int .u32 0, .int .u32 0, .int .u32 0, .int .u32 0, .int .u32 0, .int .u32 0] 117)).cell? ⟨w.heap.size, 13, none⟩ = some (.int .u32 0) := by first | (simp; done) | (rw [World.cell?_alloc_at _ _ _ _ (by simp)]; rfl) | (rw [World.cell?_alloc_past _ _ _ (by simp <;> omega), World.cell?_alloc_at _ _ _ _ (by simp)]; rfl) | (rw [World.cell?_alloc_past _ _ _ (by simp <;> omega), World.cell?_alloc_past _ _ _ (by simp <;> omega), World.cell?_alloc_at _ _ _ _ (by simp)]; rfl)
  have q14 : (w.alloc (.cells #[.int .u32 0, .int .u32 0, .int .u32 0, .int .u32 0, .int .u32 0, .int .u32 0, .int .u32 0, .int .u32 0, .int .u32 0, .int .u32 0, .int .u32 0, .int .u32 0, .int .u32 0, .int .u32 0, .int .u32 0, .int .u32 0] 117)).cell? ⟨w.heap.size, 14, none⟩ = some (.int .u32 0) := by first | (simp; done) | (rw [World.cell?_alloc_at _ _ _ _ (by simp)]; rfl) | (rw [World.cell?_alloc_past _ _ _ (by simp <;> omega), World.cell?_alloc_at _ _ _ _ (by simp)]; rfl) | (rw [World.cell?_alloc_past _ _ _ (by simp <;> omega), World.cell?_alloc_past _ _ _ (by simp <;> omega), World.cell?_alloc_at _ _ _ _ (by simp)]; rfl)
  have q15 : (w.alloc (.cells #[.int .u32 0, .int .u32 0, .int .u32 0, .int .u32 0, .int .u32 0, .int .u32 0, .int .u32 0, .int .u32 0, .int .u32 0, .int .u32 0, .int .u32 0, .int .u32 0, .int .u32 0, .int .u32 0, .int .u32 0, .int .u32 0] 117)).cell? ⟨w.heap.size, 15, none⟩ = some (.int .u32 0) := by first | (simp; done) | (rw [World.cell?_alloc_at _ _ _ _ (by simp)]; rfl) | (rw [World.cell?_alloc_past _ _ _ (by simp <;> omega), World.cell?_alloc_at _ _ _ _ (by simp)]; rfl) | (rw [World.cell?_alloc_past _ _ _ (by simp <;> omega), World.cell?_alloc_past _ _ _ (by simp <;> omega), World.cell?_alloc_at _ _ _ _ (by simp)]; rfl)
  have hb2 := (by repeat (first | exact hbel | refine belAlloc ?_ _ | refine belDrew ?_ | refine belSet ?_ _ _ (by simp)) : Below w.heap.size w (w.alloc (.cells #[.int .u32 0, .int .u32 0, .int .u32 0, .int .u32 0, .int .u32 0, .int .u32 0, .int .u32 0, .int .u32 0, .int .u32 0, .int .u32 0, .int .u32 0, .int .u32 0, .int .u32 0, .int .u32 0, .int .u32 0, .int .u32 0] 117)))
  replace hw := belStep hw hb2
  have qB : Blk (w.alloc (.cells #[.int .u32 0, .int .u32 0, .int .u32 0, .int .u32 0, .int .u32 0, .int .u32 0, .int .u32 0, .int .u32 0, .int .u32 0, .int .u32 0, .int .u32 0, .int .u32 0, .int .u32 0, .int .u32 0, .int .u32 0, .int .u32 0] 117)) (w.heap.size) [.int .u32 0, .int .u32 0, .int .u32 0, .int .u32 0, .int .u32 0, .int .u32 0, .int .u32 0, .int .u32 0, .int .u32 0, .int .u32 0, .int .u32 0, .int .u32 0, .int .u32 0, .int .u32 0, .int .u32 0, .int .u32 0] 117 := (Blk.at (by simp) : Blk (w.alloc (.cells #[.int .u32 0, .int .u32 0, .int .u32 0, .int .u32 0, .int .u32 0, .int .u32 0, .int .u32 0, .int .u32 0, .int .u32 0, .int .u32 0, .int .u32 0, .int .u32 0, .int .u32 0, .int .u32 0, .int .u32 0, .int .u32 0] 117)) (w.heap.size) [.int .u32 0, .int .u32 0, .int .u32 0, .int .u32 0, .int .u32 0, .int .u32 0, .int .u32 0, .int .u32 0, .int .u32 0, .int .u32 0, .int .u32 0, .int .u32 0, .int .u32 0, .int .u32 0, .int .u32 0, .int .u32 0] 117).later (by repeat (first | exact Below.refl _ _ | refine belAlloc ?_ _))
  have qF := Blk.keepF qB
  replace qB := Blk.keepB qB
  clear hb2 hbel
  generalize w.alloc (.cells #[.int .u32 0, .int .u32 0, .int .u32 0, .int .u32 0, .int .u32 0, .int .u32 0, .int .u32 0, .int .u32 0, .int .u32 0, .int .u32 0, .int .u32 0, .int .u32 0, .int .u32 0, .int .u32 0, .int .u32 0, .int .u32 0] 117) = W0 at *
  replace q0 := keep q0
  replace q1 := keep q1
  replace q2 := keep q2
  replace q3 := keep q3
  replace q4 := keep q4
  replace q5 := keep q5
  replace q6 := keep q6
  replace q7 := keep q7
  replace q8 := keep q8
  replace q9 := keep q9
  replace q10 := keep q10
  replace q11 := keep q11
  replace q12 := keep q12
  replace q13 := keep q13
  replace q14 := keep q14
  replace q15 := keep q15
  have hbel : Below W0.heap.size W0 W0 := Below.refl _ _
  skip
  go_wp2
  go_loopw [5] (fun i wr => ∃ k : Nat, k ≤ 16 ∧ i = .int .i64 k ∧ Below W0.heap.size W0 wr ∧ Blk wr W0.heap.size (tabC k) 117) (fun i _ => 16 - (intOf i).toNat)
  case atStart => exact ⟨0, by omega, rfl, belAlloc (Below.refl _ _) _, Blk.new W0 (tabC 0) _⟩
  case round =>
    obtain ⟨k, hk, rfl, hbr, hblk⟩ := hrel
    have hbel : Below wr.heap.size wr wr := Below.refl _ _
    by_cases hlt : k < 16
    · have hF := hblk.keepF
      have hB := hblk.keepB
      have xk := keep (hblk.cell (tabC_get k hlt))
      have hM : W0.heap.size < wr.heap.size := hblk.lt
      have hk2 : (k : Int) % 4294967296 = (k : Int) := by omega
      clear hblk
      go_wp2
      go_loopw [3, 10] (fun x j wr' => ∃ (m v : Nat), m ≤ 4 ∧ j = .int .i64 m ∧ x = .int .u32 v ∧ stN m k = v ∧ wr = wr') (fun _ j _ => 4 - (intOf j).toNat)
      case atStart => exact ⟨0, k, by omega, rfl, rfl, rfl, rfl⟩
      case round =>
        obtain ⟨m, v, hm, rfl, rfl, hsv, rfl⟩ := hrel
        by_cases hm8 : m < 4
        · have hv : v < 4294967296 := by rw [← hsv]; exact stN_lt m (by omega)
          have hsn : stN (m + 1) k = st1 v := by rw [← hsv]; rfl
          have HS := Lib.hid hsn
          have h1 := and1 v hv
          have key : (bits .and .u32 (v : Int) 1 = 1 ∧ bits .xor .u32 ((v : Int) / 2) 3988292384 = ((st1 v : Nat) : Int)) ∨ (bits .and .u32 (v : Int) 1 = 0 ∧ (v : Int) / 2 = ((st1 v : Nat) : Int)) := by
            rw [h1]
            unfold st1
            rcases Nat.mod_two_eq_zero_or_one v with q | q
            · right; rw [if_neg (by omega)]; omega
            · left
              rw [if_pos q]
              refine ⟨by omega, ?_⟩
              have := xor32 (v / 2) 3988292384 (by omega) (by omega)
              simpa using this
          obtain ⟨v', ev⟩ : ∃ y, st1 v = y := ⟨_, rfl⟩
          rw [ev] at key HS
          clear hsv hsn ev h1
          rcases key with ⟨q1, q2⟩ | ⟨q1, q2⟩
          all_goals
            go_wp2
            go_roundw
            case rel => exact ⟨m + 1, v', by omega, by push_cast; rfl, rfl, HS.out, by first | rfl | trivial⟩
            case measure => simp [intOf] <;> omega
        · obtain rfl : m = 4 := by omega
          subst hsv
          have HT := Lib.hid (tabC_set hlt)
          go_wp2
          go_roundw
          case rel => exact ⟨k + 1, by omega, by push_cast; rfl, belSet hbr _ _ (Nat.le_refl _), HT.out ▸ (hB _ hbel).set k _⟩
          case measure => simp [intOf] <;> omega
    · obtain rfl : k = 16 := by omega
      replace qF := keepOnP qF hbr
      have hqb := ((qB _ (Below.refl _ _)).later hbr)
      have hlt0 : w.heap.size < wr.heap.size := hqb.lt
      replace hw := belStep hw hbr
      have z0 := keep (hblk.cell (tabC_get 16 (j := 0) (by omega)))
      replace q0 := keepOnP q0 hbr
      have z1 := keep (hblk.cell (tabC_get 16 (j := 1) (by omega)))
      replace q1 := keepOnP q1 hbr
      have z2 := keep (hblk.cell (tabC_get 16 (j := 2) (by omega)))
      replace q2 := keepOnP q2 hbr
      have z3 := keep (hblk.cell (tabC_get 16 (j := 3) (by omega)))
      replace q3 := keepOnP q3 hbr
      have z4 := keep (hblk.cell (tabC_get 16 (j := 4) (by omega)))
      replace q4 := keepOnP q4 hbr
      have z5 := keep (hblk.cell (tabC_get 16 (j := 5) (by omega)))
      replace q5 := keepOnP q5 hbr
      have z6 := keep (hblk.cell (tabC_get 16 (j := 6) (by omega)))
      replace q6 := keepOnP q6 hbr
      have z7 := keep (hblk.cell (tabC_get 16 (j := 7) (by omega)))
      replace q7 := keepOnP q7 hbr
      have z8 := keep (hblk.cell (tabC_get 16 (j := 8) (by omega)))
      replace q8 := keepOnP q8 hbr
      have z9 := keep (hblk.cell (tabC_get 16 (j := 9) (by omega)))
      replace q9 := keepOnP q9 hbr
      have z10 := keep (hblk.cell (tabC_get 16 (j := 10) (by omega)))
      replace q10 := keepOnP q10 hbr
      have z11 := keep (hblk.cell (tabC_get 16 (j := 11) (by omega)))
      replace q11 := keepOnP q11 hbr
      have z12 := keep (hblk.cell (tabC_get 16 (j := 12) (by omega)))
      replace q12 := keepOnP q12 hbr
      have z13 := keep (hblk.cell (tabC_get 16 (j := 13) (by omega)))
      replace q13 := keepOnP q13 hbr
      have z14 := keep (hblk.cell (tabC_get 16 (j := 14) (by omega)))
      replace q14 := keepOnP q14 hbr
      have z15 := keep (hblk.cell (tabC_get 16 (j := 15) (by omega)))
      replace q15 := keepOnP q15 hbr
      clear hblk hbr qB
      go_wp2
      have gg := ((((((((((((((((hqb.set 0 (.int .u32 (tab 16 0))).set 1 (.int .u32 (tab 16 1))).set 2 (.int .u32 (tab 16 2))).set 3 (.int .u32 (tab 16 3))).set 4 (.int .u32 (tab 16 4))).set 5 (.int .u32 (tab 16 5))).set 6 (.int .u32 (tab 16 6))).set 7 (.int .u32 (tab 16 7))).set 8 (.int .u32 (tab 16 8))).set 9 (.int .u32 (tab 16 9))).set 10 (.int .u32 (tab 16 10))).set 11 (.int .u32 (tab 16 11))).set 12 (.int .u32 (tab 16 12))).set 13 (.int .u32 (tab 16 13))).set 14 (.int .u32 (tab 16 14))).set 15 (.int .u32 (tab 16 15)))
      have g0 := gg.cell (j := 0) rfl
      have g1 := gg.cell (j := 1) rfl
      have g2 := gg.cell (j := 2) rfl
      have g3 := gg.cell (j := 3) rfl
      have g4 := gg.cell (j := 4) rfl
      have g5 := gg.cell (j := 5) rfl
      have g6 := gg.cell (j := 6) rfl
      have g7 := gg.cell (j := 7) rfl
      have g8 := gg.cell (j := 8) rfl
      have g9 := gg.cell (j := 9) rfl
      have g10 := gg.cell (j := 10) rfl
      have g11 := gg.cell (j := 11) rfl
      have g12 := gg.cell (j := 12) rfl
      have g13 := gg.cell (j := 13) rfl
      have g14 := gg.cell (j := 14) rfl
      have g15 := gg.cell (j := 15) rfl
      simp [bodyPost, results, Try.results80, go_sem, g0, g1, g2, g3, g4, g5, g6, g7, g8, g9, g10, g11, g12, g13, g14, g15]
      exact Below.setCell (Below.setCell (Below.setCell (Below.setCell (Below.setCell (Below.setCell (Below.setCell (Below.setCell (Below.setCell (Below.setCell (Below.setCell (Below.setCell (Below.setCell (Below.setCell (Below.setCell (Below.setCell (hw) (Nat.le_refl _) _) (Nat.le_refl _) _) (Nat.le_refl _) _) (Nat.le_refl _) _) (Nat.le_refl _) _) (Nat.le_refl _) _) (Nat.le_refl _) _) (Nat.le_refl _) _) (Nat.le_refl _) _) (Nat.le_refl _) _) (Nat.le_refl _) _) (Nat.le_refl _) _) (Nat.le_refl _) _) (Nat.le_refl _) _) (Nat.le_refl _) _) (Nat.le_refl _) _
end Go.Proofs.Ytcbblgeleboggaa
