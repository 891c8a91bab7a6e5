
/- sum.Parts, sum.Of: contracts. -/
import Derived.Test.YtcbblgeleboggaaSumTab
namespace Go.Proofs.Ytcbblgeleboggaa
open Go.RowKit
set_option linter.unusedVariables false
set_option linter.unusedSimpArgs false

/-- Slices of bytes, one behind the other. -/
abbrev Part := Option Addr × Nat × Nat × List Int
def partV (x : Part) : List Value := [.slice x.1 x.2.1 x.2.2.1]
def Parts (w : World) (a : Option Addr) (len cap : Nat) (P : List Part) : Prop :=
  P.length = len ∧ Row w a len cap 1 (P.flatMap partV) ∧ ∀ x ∈ P, Ints .u8 w x.1 x.2.1 x.2.2.1 x.2.2.2
theorem Parts.later {w w' : World} {a : Option Addr} {len cap : Nat} {P : List Part} (h : Parts w a len cap P) (hb : Below w.heap.size w w') : Parts w' a len cap P :=
  ⟨h.1, h.2.1.later hb, fun x hx => (h.2.2 x hx).later hb⟩
def joinP (P : List Part) : List Int := P.flatMap fun x => x.2.2.2
theorem joinP_bytes {w : World} {a : Option Addr} {len cap : Nat} {P : List Part} (h : Parts w a len cap P) : Bytes (joinP P) := by
  intro c hc
  obtain ⟨x, hx, hm⟩ := List.mem_flatMap.1 hc
  exact bytes_of (h.2.2 x hx) c hm
theorem joinP_next {P : List Part} {k : Nat} {x : Part} (h : P[k]? = some x) : joinP (P.take (k + 1)) = joinP (P.take k) ++ x.2.2.2 := by
  have hk : k < P.length := (List.getElem?_eq_some_iff.1 h).1
  have e : P[k] = x := by rw [List.getElem?_eq_getElem hk] at h; exact Option.some.inj h
  rw [List.take_succ_eq_append_getElem hk, e]; simp [joinP]
theorem tab_at {j : Nat} (h : j < 16) : tab 16 j = (stN 4 j : Nat) := by unfold tab; rw [if_pos h]
theorem step4 (v : Nat) (h : v < 4294967296) : bits .xor .u32 ((v : Int) / 16) ((stN 4 (v % 16) : Nat) : Int) = ((stN 4 v : Nat) : Int) := by
  have := xor32 (v / 16) (stN 4 (v % 16)) (by omega) (stN_lt 4 (by omega))
  rw [nibble v]
  simpa using this

set_option maxRecDepth 100000 in
set_option maxHeartbeats 4000000 in
theorem sum_Parts (a : Option Addr) (len cap : Nat) (P : List Part) (w : World) (hP : Parts w a len cap P) :
    Calls Try.prog 73 #[.slice a len cap] w fun e w' => e = .returned (.int .u32 (sumOf (joinP P))) ∧ Below w.heap.size w w' := by
  have hbd : len ≤ cap ∧ cap ≤ 9223372036854775807 := by obtain ⟨_, ⟨_, h1, h2, _⟩, _⟩ := hP; unfold maxLen at h2; exact ⟨h1, h2⟩
  obtain ⟨hbd1, hbd2⟩ := hbd
  obtain rfl : P.length = len := hP.1
  have HP := Lib.hid hP
  clear hP
  have hw : Below w.heap.size w w := Below.refl _ _
  have hbel := hw
  go_enter Try.func73, Try.ntmps73
  go_upto_region 2 with (first | (go_at_call 80; (with_reducible refine (sum_table _).mono ?_); rintro e w1 ⟨rfl, hb1⟩; replace hbel := belStep hbel hb1; clear hb1))
  have t0 : (w1.alloc (.cells #[.int .u32 (tab 16 0), .int .u32 (tab 16 1), .int .u32 (tab 16 2), .int .u32 (tab 16 3), .int .u32 (tab 16 4), .int .u32 (tab 16 5), .int .u32 (tab 16 6), .int .u32 (tab 16 7), .int .u32 (tab 16 8), .int .u32 (tab 16 9), .int .u32 (tab 16 10), .int .u32 (tab 16 11), .int .u32 (tab 16 12), .int .u32 (tab 16 13), .int .u32 (tab 16 14), .int .u32 (tab 16 15)] 117)).cell? ⟨w1.heap.size, 0, none⟩ = some (.int .u32 (tab 16 0)) := by first | (simp; done) | (rw [World.cell?_alloc_at _ _ _ _ (by simp)]; rfl) | (rw [World.cell?_alloc_past _ _ _ (by simp <;> omega), World.cell?_alloc_at _ _ _ _ (by simp)]; rfl) | (rw [World.cell?_alloc_past _ _ _ (by simp <;> omega), World.cell?_alloc_past _ _ _ (by simp <;> omega), World.cell?_alloc_at _ _ _ _ (by simp)]; rfl)
  have t1 : (w1.alloc (.cells #[.int .u32 (tab 16 0), .int .u32 (tab 16 1), .int .u32 (tab 16 2), .int .u32 (tab 16 3), .int .u32 (tab 16 4), .int .u32 (tab 16 5), .int .u32 (tab 16 6), .int .u32 (tab 16 7), .int .u32 (tab 16 8), .int .u32 (tab 16 9), .int .u32 (tab 16 10), .int .u32 (tab 16 11), .int .u32 (tab 16 12), .int .u32 (tab 16 13), .int .u32 (tab 16 14), .int .u32 (tab 16 15)] 117)).cell? ⟨w1.heap.size, 1, none⟩ = some (.int .u32 (tab 16 1)) := by first | (simp; done) | (rw [World.cell?_alloc_at _ _ _ _ (by simp)]; rfl) | (rw [World.cell?_alloc_past _ _ _ (by simp <;> omega), World.cell?_alloc_at _ _ _ _ (by simp)]; rfl) | (rw [World.cell?_alloc_past _ _ _ (by simp <;> omega), World.cell?_alloc_past _ _ _ (by simp <;> omega), World.cell?_alloc_at _ _ _ _ (by simp)]; rfl)
  have t2 : (w1.alloc (.cells #[.int .u32 (tab 16 0), .int .u32 (tab 16 1), .int .u32 (tab 16 2), .int .u32 (tab 16 3), .int .u32 (tab 16 4), .int .u32 (tab 16 5), .int .u32 (tab 16 6), .int .u32 (tab 16 7), .int .u32 (tab 16 8), .int .u32 (tab 16 9), .int .u32 (tab 16 10), .int .u32 (tab 16 11), .int .u32 (tab 16 12), .int .u32 (tab 16 13), .int .u32 (tab 16 14), .int .u32 (tab 16 15)] 117)).cell? ⟨w1.heap.size, 2, none⟩ = some (.int .u32 (tab 16 2)) := by first | (simp; done) | (rw [World.cell?_alloc_at _ _ _ _ (by simp)]; rfl) | (rw [World.cell?_alloc_past _ _ _ (by simp <;> omega), World.cell?_alloc_at _ _ _ _ (by simp)]; rfl) | (rw [World.cell?_alloc_past _ _ _ (by simp <;> omega), World.cell?_alloc_past _ _ _ (by simp <;> omega), World.cell?_alloc_at _ _ _ _ (by simp)]; rfl)
  have t3 : (w1.alloc (.cells #[.int .u32 (tab 16 0), .int .u32 (tab 16 1), .int .u32 (tab 16 2), .int .u32 (tab 16 3), .int .u32 (tab 16 4), .int .u32 (tab 16 5), .int .u32 (tab 16 6), .int .u32 (tab 16 7), .int .u32 (tab 16 8), .int .u32 (tab 16 9), .int .u32 (tab 16 10), .int .u32 (tab 16 11), .int .u32 (tab 16 12), .int .u32 (tab 16 13), .int .u32 (tab 16 14), .int .u32 (tab 16 15)] 117)).cell? ⟨w1.heap.size, 3, none⟩ = some (.int .u32 (tab 16 3)) := by first | (simp; done) | (rw [World.cell?_alloc_at _ _ _ _ (by simp)]; rfl) | (rw [World.cell?_alloc_past _ _ _ (by simp <;> omega), World.cell?_alloc_at _ _ _ _ (by simp)]; rfl) | (rw [World.cell?_alloc_past _ _ _ (by simp <;> omega), World.cell?_alloc_past _ _ _ (by simp <;> omega), World.cell?_alloc_at _ _ _ _ (by simp)]; rfl)
  have t4 : (w1.alloc (.cells #[.int .u32 (tab 16 0), .int .u32 (tab 16 1), .int .u32 (tab 16 2), .int .u32 (tab 16 3), .int .u32 (tab 16 4), .int .u32 (tab 16 5), .int .u32 (tab 16 6), .int .u32 (tab 16 7), .int .u32 (tab 16 8), .int .u32 (tab 16 9), .int .u32 (tab 16 10), .int .u32 (tab 16 11), .int .u32 (tab 16 12), .int .u32 (tab 16 13), .int .u32 (tab 16 14), .int .u32 (tab 16 15)] 117)).cell? ⟨w1.heap.size, 4, none⟩ = some (.int .u32 (tab 16 4)) := by first | (simp; done) | (rw [World.cell?_alloc_at _ _ _ _ (by simp)]; rfl) | (rw [World.cell?_alloc_past _ _ _ (by simp <;> omega), World.cell?_alloc_at _ _ _ _ (by simp)]; rfl) | (rw [World.cell?_alloc_past _ _ _ (by simp <;> omega), World.cell?_alloc_past _ _ _ (by simp <;> omega), World.cell?_alloc_at _ _ _ _ (by simp)]; rfl)
  have t5 : (w1.alloc (.cells #[.int .u32 (tab 16 0), .int .u32 (tab 16 1), .int .u32 (tab 16 2), .int .u32 (tab 16 3), .int .u32 (tab 16 4), .int .u32 (tab 16 5), .int .u32 (tab 16 6), .int .u32 (tab 16 7), .int .u32 (tab 16 8), .int .u32 (tab 16 9), .int .u32 (tab 16 10), .int .u32 (tab 16 11), .int .u32 (tab 16 12), .int .u32 (tab 16 13), .int .u32 (tab 16 14), .int .u32 (tab 16 15)] 117)).cell? ⟨w1.heap.size, 5, none⟩ = some (.int .u32 (tab 16 5)) := by first | (simp; done) | (rw [World.cell?_alloc_at _ _ _ _ (by simp)]; rfl) | (rw [World.cell?_alloc_past _ _ _ (by simp <;> omega), World.cell?_alloc_at _ _ _ _ (by simp)]; rfl) | (rw [World.cell?_alloc_past _ _ _ (by simp <;> omega), World.cell?_alloc_past _ _ _ (by simp <;> omega), World.cell?_alloc_at _ _ _ _ (by simp)]; rfl)
  have t6 : (w1.alloc (.cells #[.int .u32 (tab 16 0), .int .u32 (tab 16 1), .int .u32 (tab 16 2), .int .u32 (tab 16 3), .int .u32 (tab 16 4), .int .u32 (tab 16 5), .int .u32 (tab 16 6), .int .u32 (tab 16 7), .int .u32 (tab 16 8), .int .u32 (tab 16 9), .int .u32 (tab 16 10), .int .u32 (tab 16 11), .int .u32 (tab 16 12), .int .u32 (tab 16 13), .int .u32 (tab 16 14), .int .u32 (tab 16 15)] 117)).cell? ⟨w1.heap.size, 6, none⟩ = some (.int .u32 (tab 16 6)) := by first | (simp; done) | (rw [World.cell?_alloc_at _ _ _ _ (by simp)]; rfl) | (rw [World.cell?_alloc_past _ _ _ (by simp <;> omega), World.cell?_alloc_at _ _ _ _ (by simp)]; rfl) | (rw [World.cell?_alloc_past _ _ _ (by simp <;> omega), World.cell?_alloc_past _ _ _ (by simp <;> omega), World.cell?_alloc_at _ _ _ _ (by simp)]; rfl)
  have t7 : (w1.alloc (.cells #[.int .u32 (tab 16 0), .int .u32 (tab 16 1), .int .u32 (tab 16 2), .int .u32 (tab 16 3), .int .u32 (tab 16 4), .int .u32 (tab 16 5), .int .u32 (tab 16 6), .int .u32 (tab 16 7), .int .u32 (tab 16 8), .int .u32 (tab 16 9), .int .u32 (tab 16 10), .int .u32 (tab 16 11), .int .u32 (tab 16 12), .int .u32 (tab 16 13), .int .u32 (tab 16 14), .int .u32 (tab 16 15)] 117)).cell? ⟨w1.heap.size, 7, none⟩ = some (.int .u32 (tab 16 7)) := by first | (simp; done) | (rw [World.cell?_alloc_at _ _ _ _ (by simp)]; rfl) | (rw [World.cell?_alloc_past _ _ _ (by simp <;> omega), World.cell?_alloc_at _ _ _ _ (by simp)]; rfl) | (rw [World.cell?_alloc_past _ _ _ (by simp <;> omega), World.cell?_alloc_past _ _ _ (by simp <;> omega), World.cell?_alloc_at _ _ _ _ (by simp)]; rfl)
  have t8 : (w1.alloc (.cells #[.int .u32 (tab 16 0), .int .u32 (tab 16 1), .int .u32 (tab 16 2), .int .u32 (tab 16 3), .int .u32 (tab 16 4), .int .u32 (tab 16 5), .int .u32 (tab 16 6), .int .u32 (tab 16 7), .int .u32 (tab 16 8), .int .u32 (tab 16 9), .int .u32 (tab 16 10), .int .u32 (tab 16 11), .int .u32 (tab 16 12), .int .u32 (tab 16 13), .int .u32 (tab 16 14), .int .u32 (tab 16 15)] 117)).cell? ⟨w1.heap.size, 8, none⟩ = some (.int .u32 (tab 16 8)) := by first | (simp; done) | (rw [World.cell?_alloc_at _ _ _ _ (by simp)]; rfl) | (rw [World.cell?_alloc_past _ _ _ (by simp <;> omega), World.cell?_alloc_at _ _ _ _ (by simp)]; rfl) | (rw [World.cell?_alloc_past _ _ _ (by simp <;> omega), World.cell?_alloc_past _ _ _ (by simp <;> omega), World.cell?_alloc_at _ _ _ _ (by simp)]; rfl)
  have t9 : (w1.alloc (.cells #[.int .u32 (tab 16 0), .int .u32 (tab 16 1), .int .u32 (tab 16 2), .int .u32 (tab 16 3), .int .u32 (tab 16 4), .int .u32 (tab 16 5), .int .u32 (tab 16 6), .int .u32 (tab 16 7), .int .u32 (tab 16 8), .int .u32 (tab 16 9), .int .u32 (tab 16 10), .int .u32 (tab 16 11), .int .u32 (tab 16 12), .int .u32 (tab 16 13), .int .u32 (tab 16 14), .int .u32 (tab 16 15)] 117)).cell? ⟨w1.heap.size, 9, none⟩ = some (.int .u32 (tab 16 9)) := by first | (simp; done) | (rw [World.cell?_alloc_at _ _ _ _ (by simp)]; rfl) | (rw [World.cell?_alloc_past _ _ _ (by simp <;> omega), World.cell?_alloc_at _ _ _ _ (by simp)]; rfl) | (rw [World.cell?_alloc_past _ _ _ (by simp <;> omega), World.cell?_alloc_past _ _ _ (by simp <;> omega), World.cell?_alloc_at _ _ _ _ (by simp)]; rfl)
  have t10 : (w1.alloc (.cells #[.int .u32 (tab 16 0), .int .u32 (tab 16 1), .int .u32 (tab 16 2), .int .u32 (tab 16 3), .int .u32 (tab 16 4), .int .u32 (tab 16 5), .int .u32 (tab 16 6), .int .u32 (tab 16 7), .int .u32 (tab 16 8), .int .u32 (tab 16 9), .int .u32 (tab 16 10), .int .u32 (tab 16 11), .int .u32 (tab 16 12), .int .u32 (tab 16 13), .int .u32 (tab 16 14), .int .u32 (tab 16 15)] 117)).cell? ⟨w1.heap.size, 10, none⟩ = some (.int .u32 (tab 16 10)) := by first | (simp; done) | (rw [World.cell?_alloc_at _ _ _ _ (by simp)]; rfl) | (rw [World.cell?_alloc_past _ _ _ (by simp <;> omega), World.cell?_alloc_at _ _ _ _ (by simp)]; rfl) | (rw [World.cell?_alloc_past _ _ _ (by simp <;> omega), World.cell?_alloc_past _ _ _ (by simp <;> omega), World.cell?_alloc_at _ _ _ _ (by simp)]; rfl)
  have t11 : (w1.alloc (.cells #[.int .u32 (tab 16 0), .int .u32 (tab 16 1), .int .u32 (tab 16 2), .int .u32 (tab 16 3), .int .u32 (tab 16 4), .int .u32 (tab 16 5), .int .u32 (tab 16 6), .int .u32 (tab 16 7), .int .u32 (tab 16 8), .int .u32 (tab 16 9), .int .u32 (tab 16 10), .int .u32 (tab 16 11), .int .u32 (tab 16 12), .int .u32 (tab 16 13), .int .u32 (tab 16 14), .int .u32 (tab 16 15)] 117)).cell? ⟨w1.heap.size, 11, none⟩ = some (.int .u32 (tab 16 11)) := by first | (simp; done) | (rw [World.cell?_alloc_at _ _ _ _ (by simp)]; rfl) | (rw [World.cell?_alloc_past _ _ _ (by simp <;> omega), World.cell?_alloc_at _ _ _ _ (by simp)]; rfl) | (rw [World.cell?_alloc_past _ _ _ (by simp <;> omega), World.cell?_alloc_past _ _ _ (by simp <;> omega), World.cell?_alloc_at _ _ _ _ (by simp)]; rfl)
  have t12 : (w1.alloc (.cells #[.int .u32 (tab 16 0), .int .u32 (tab 16 1), .int .u32 (tab 16 2), .int .u32 (tab 16 3), .int .u32 (tab 16 4), .int .u32 (tab 16 5), .int .u32 (tab 16 6), .int .u32 (tab 16 7), .int .u32 (tab 16 8), .int .u32 (tab 16 9), .int .u32 (tab 16 10), .int .u32 (tab 16 11), .int .u32 (tab 16 12), .int .u32 (tab 16 13), .int .u32 (tab 16 14), .int .u32 (tab 16 15)] 117)).cell? ⟨w1.heap.size, 12, none⟩ = some (.int .u32 (tab 16 12)) := by first | (simp; done) | (rw [World.cell?_alloc_at _ _ _ _ (by simp)]; rfl) | (rw [World.cell?_alloc_past _ _ _ (by simp <;> omega), World.cell?_alloc_at _ _ _ _ (by simp)]; rfl) | (rw [World.cell?_alloc_past _ _ _ (by simp <;> omega), World.cell?_alloc_past _ _ _ (by simp <;> omega), World.cell?_alloc_at _ _ _ _ (by simp)]; rfl)
  have t13 : (w1.alloc (.cells #[.int .u32 (tab 16 0), .int .u32 (tab 16 1), .int .u32 (tab 16 2), .int .u32 (tab 16 3), .int .u32 (tab 16 4), .int .u32 (tab 16 5), .int .u32 (tab 16 6), .int .u32 (tab 16 7), .int .u32 (tab 16 8), .int .u32 (tab 16 9), .int .u32 (tab 16 10), .int .u32 (tab 16 11), .int .u32 (tab 16 12), .int .u32 (tab 16 13), .int .u32 (tab 16 14), .int .u32 (tab 16 15)] 117)).cell? ⟨w1.heap.size, 13, none⟩ = some (.int .u32 (tab 16 13)) := by first | (simp; done) | (rw [World.cell?_alloc_at _ _ _ _ (by simp)]; rfl) | (rw [World.cell?_alloc_past _ _ _ (by simp <;> omega), World.cell?_alloc_at _ _ _ _ (by simp)]; rfl) | (rw [World.cell?_alloc_past _ _ _ (by simp <;> omega), World.cell?_alloc_past _ _ _ (by simp <;> omega), World.cell?_alloc_at _ _ _ _ (by simp)]; rfl)
  have t14 : (w1.alloc (.cells #[.int .u32 (tab 16 0), .int .u32 (tab 16 1), .int .u32 (tab 16 2), .int .u32 (tab 16 3), .int .u32 (tab 16 4), .int .u32 (tab 16 5), .int .u32 (tab 16 6), .int .u32 (tab 16 7), .int .u32 (tab 16 8), .int .u32 (tab 16 9), .int .u32 (tab 16 10), .int .u32 (tab 16 11), .int .u32 (tab 16 12), .int .u32 (tab 16 13), .int .u32 (tab 16 14), .int .u32 (tab 16 15)] 117)).cell? ⟨w1.heap.size, 14, none⟩ = some (.int .u32 (tab 16 14)) := by first | (simp; done) | (rw [World.cell?_alloc_at _ _ _ _ (by simp)]; rfl) | (rw [World.cell?_alloc_past _ _ _ (by simp <;> omega), World.cell?_alloc_at _ _ _ _ (by simp)]; rfl) | (rw [World.cell?_alloc_past _ _ _ (by simp <;> omega), World.cell?_alloc_past _ _ _ (by simp <;> omega), World.cell?_alloc_at _ _ _ _ (by simp)]; rfl)
  have t15 : (w1.alloc (.cells #[.int .u32 (tab 16 0), .int .u32 (tab 16 1), .int .u32 (tab 16 2), .int .u32 (tab 16 3), .int .u32 (tab 16 4), .int .u32 (tab 16 5), .int .u32 (tab 16 6), .int .u32 (tab 16 7), .int .u32 (tab 16 8), .int .u32 (tab 16 9), .int .u32 (tab 16 10), .int .u32 (tab 16 11), .int .u32 (tab 16 12), .int .u32 (tab 16 13), .int .u32 (tab 16 14), .int .u32 (tab 16 15)] 117)).cell? ⟨w1.heap.size, 15, none⟩ = some (.int .u32 (tab 16 15)) := by first | (simp; done) | (rw [World.cell?_alloc_at _ _ _ _ (by simp)]; rfl) | (rw [World.cell?_alloc_past _ _ _ (by simp <;> omega), World.cell?_alloc_at _ _ _ _ (by simp)]; rfl) | (rw [World.cell?_alloc_past _ _ _ (by simp <;> omega), World.cell?_alloc_past _ _ _ (by simp <;> omega), World.cell?_alloc_at _ _ _ _ (by simp)]; rfl)
  have hb2 := (by repeat (first | exact hbel | refine belAlloc ?_ _ | refine belDrew ?_ | refine belSet ?_ _ _ (by simp)) : Below w.heap.size w (w1.alloc (.cells #[.int .u32 (tab 16 0), .int .u32 (tab 16 1), .int .u32 (tab 16 2), .int .u32 (tab 16 3), .int .u32 (tab 16 4), .int .u32 (tab 16 5), .int .u32 (tab 16 6), .int .u32 (tab 16 7), .int .u32 (tab 16 8), .int .u32 (tab 16 9), .int .u32 (tab 16 10), .int .u32 (tab 16 11), .int .u32 (tab 16 12), .int .u32 (tab 16 13), .int .u32 (tab 16 14), .int .u32 (tab 16 15)] 117)))
  replace hw := belStep hw hb2
  clear hb2 hbel
  generalize w1.alloc (.cells #[.int .u32 (tab 16 0), .int .u32 (tab 16 1), .int .u32 (tab 16 2), .int .u32 (tab 16 3), .int .u32 (tab 16 4), .int .u32 (tab 16 5), .int .u32 (tab 16 6), .int .u32 (tab 16 7), .int .u32 (tab 16 8), .int .u32 (tab 16 9), .int .u32 (tab 16 10), .int .u32 (tab 16 11), .int .u32 (tab 16 12), .int .u32 (tab 16 13), .int .u32 (tab 16 14), .int .u32 (tab 16 15)] 117) = W1 at *
  replace t0 := keep t0
  replace t1 := keep t1
  replace t2 := keep t2
  replace t3 := keep t3
  replace t4 := keep t4
  replace t5 := keep t5
  replace t6 := keep t6
  replace t7 := keep t7
  replace t8 := keep t8
  replace t9 := keep t9
  replace t10 := keep t10
  replace t11 := keep t11
  replace t12 := keep t12
  replace t13 := keep t13
  replace t14 := keep t14
  replace t15 := keep t15
  generalize w1.heap.size = MT at *
  have hbel : Below W1.heap.size W1 W1 := Below.refl _ _
  clear w1
  have ht : ∀ j, j < 16 → ∀ v, Below W1.heap.size W1 v → v.cell? ⟨MT, j, none⟩ = some (.int .u32 ((stN 4 j : Nat) : Int)) := by
    intro j hj v hv
    rw [← tab_at hj]
    have : j = 0 ∨ j = 1 ∨ j = 2 ∨ j = 3 ∨ j = 4 ∨ j = 5 ∨ j = 6 ∨ j = 7 ∨ j = 8 ∨ j = 9 ∨ j = 10 ∨ j = 11 ∨ j = 12 ∨ j = 13 ∨ j = 14 ∨ j = 15 := by omega
    rcases this with rfl | rfl | rfl | rfl | rfl | rfl | rfl | rfl | rfl | rfl | rfl | rfl | rfl | rfl | rfl | rfl
    all_goals (first | exact t0 v hv | exact t1 v hv | exact t2 v hv | exact t3 v hv | exact t4 v hv | exact t5 v hv | exact t6 v hv | exact t7 v hv | exact t8 v hv | exact t9 v hv | exact t10 v hv | exact t11 v hv | exact t12 v hv | exact t13 v hv | exact t14 v hv | exact t15 v hv)
  have HT := Lib.hid ht
  clear ht t0 t1 t2 t3 t4 t5 t6 t7 t8 t9 t10 t11 t12 t13 t14 t15
  replace HP := Lib.hid (HP.out.later hw)
  have HBy := Lib.hid (joinP_bytes HP.out)
  go_wp2
  go_loopw [4, 12] (fun x i wr => ∃ (k n : Nat), k ≤ P.length ∧ i = .int .i64 k ∧ x = .int .u32 n ∧ n < 4294967296 ∧ crcL 4294967295 (joinP (P.take k)) = n ∧ W1 = wr) (fun _ i _ => P.length - (intOf i).toNat)
  case atStart => exact ⟨0, 4294967295, Nat.zero_le _, rfl, rfl, by omega, rfl, rfl⟩
  case round =>
    obtain ⟨k, n, hk, rfl, rfl, hn, hst, rfl⟩ := hrel
    have hbel : Below W1.heap.size W1 W1 := Below.refl _ _
    by_cases hlt : k < P.length
    · obtain ⟨⟨pa, pl, pc, pb⟩, hx⟩ : ∃ x, P[k]? = some x := ⟨P[k], List.getElem?_eq_getElem hlt⟩
      have hp := HP.out.2.2 _ (List.mem_of_getElem? hx)
      simp only at hp
      have hnext := joinP_next hx
      simp only at hnext
      obtain ⟨b, off, rfl, _, hc⟩ := HP.out.2.1.elem (fun _ => rfl) (by omega) hx
      have x0 := keep (hc 0 _ rfl)
      simp only [Nat.mul_one, Nat.add_zero] at x0
      have hpb := hp.bounds
      have hby := bytes_of hp
      have HPp := Lib.hid hp
      have HNx := Lib.hid hnext
      have hcr : crcL 4294967295 (joinP (P.take (k + 1))) = crcL n pb := by rw [hnext, crcL_append, hst]
      have HC := Lib.hid hcr
      clear hx hp hnext hc hst hcr
      go_wp2
      go_loopw [4, 18] (fun x i wr => ∃ (j v : Nat), j ≤ pl ∧ i = .int .i64 j ∧ x = .int .u32 v ∧ v < 4294967296 ∧ crcL n (pb.take j) = v ∧ W1 = wr) (fun _ i _ => pl - (intOf i).toNat)
      case atStart => exact ⟨0, n, Nat.zero_le _, rfl, rfl, hn, rfl, rfl⟩
      case round =>
        obtain ⟨j, v, hj, rfl, rfl, hv, hsv, rfl⟩ := hrel
        by_cases hjl : j < pl
        · obtain ⟨bb, ob, rfl, _, hc⟩ := HPp.out.opened (by omega)
          have hb := hby (el pb j) (el_mem (by omega))
          have hnx := crcL_next n (l := pb) (k := j) (by omega)
          obtain ⟨c, ec⟩ : ∃ c : Nat, el pb j = (c : Int) := ⟨(el pb j).toNat, by omega⟩
          have y0 := keep (hc j hjl)
          rw [ec] at y0 hb
          rw [hsv, ec, Int.toNat_natCast] at hnx
          have hc2 : (c : Int) % 4294967296 = (c : Int) := by omega
          have hxr := xor32 v c hv (by omega)
          have hlt2 : v ^^^ c < 4294967296 := xor32_lt hv (by omega)
          obtain ⟨v0, e0⟩ : ∃ y, v ^^^ c = y := ⟨_, rfl⟩
          rw [e0] at hxr hlt2 hnx
          have HN := Lib.hid hnx
          clear hnx hsv e0 hc
          go_wp2
          go_loopw [4, 26] (fun x i wr => ∃ (m u : Nat), m ≤ 2 ∧ i = .int .i64 m ∧ x = .int .u32 u ∧ stN (4 * m) v0 = u ∧ W1 = wr) (fun _ i _ => 2 - (intOf i).toNat)
          case atStart => exact ⟨0, v0, by omega, rfl, rfl, rfl, rfl⟩
          case round =>
            obtain ⟨m, u, hm, rfl, rfl, hsu, rfl⟩ := hrel
            by_cases hm2 : m < 2
            · have hu : u < 4294967296 := by rw [← hsu]; exact stN_lt _ hlt2
              have hsn : stN (4 * (m + 1)) v0 = stN 4 u := by rw [← hsu, ← stN_add]; congr 1; omega
              have z0 := HT.out (u % 16) (by omega)
              have q1 := and15 u hu
              have q2 := step4 u hu
              have q3 : ((u % 16 : Nat) : Int) < 16 := by omega
              have HS := Lib.hid hsn
              obtain ⟨u', eu⟩ : ∃ y, stN 4 u = y := ⟨_, rfl⟩
              obtain ⟨r, er⟩ : ∃ y, u % 16 = y := ⟨_, rfl⟩
              obtain ⟨tv, et⟩ : ∃ y, stN 4 r = y := ⟨_, rfl⟩
              rw [eu] at HS q2
              rw [er] at z0 q1 q2 q3
              rw [et] at z0 q2
              clear hsu hsn eu er et HT
              go_wp2
              go_roundw
              case rel => exact ⟨m + 1, u', by omega, by push_cast; rfl, rfl, HS.out, by first | rfl | trivial⟩
              case measure => simp [intOf] <;> omega
            · obtain rfl : m = 2 := by omega
              rw [show 4 * 2 = 8 from rfl] at hsu
              rw [hsu] at HN
              have hu : u < 4294967296 := by rw [← hsu]; exact stN_lt _ hlt2
              clear hsu
              go_wp2
              go_roundw
              case rel => exact ⟨j + 1, u, by omega, by push_cast; rfl, rfl, hu, HN.out, by first | rfl | trivial⟩
              case measure => simp [intOf] <;> omega
        · obtain rfl : j = pl := by omega
          rw [List.take_of_length_le (by omega)] at hsv
          rw [hsv] at HC
          clear hsv
          go_wp2
          go_roundw
          case rel => exact ⟨k + 1, v, by omega, by push_cast; rfl, rfl, hv, HC.out, by first | rfl | trivial⟩
          case measure => simp [intOf] <;> omega
    · obtain rfl : k = P.length := by omega
      have hx : bits .xor .u32 (n : Int) 4294967295 = ((n ^^^ 4294967295 : Nat) : Int) := xor32 n 4294967295 hn (by omega)
      have hr : sumOf (joinP P) = n ^^^ 4294967295 := by unfold sumOf; rw [← hst, List.take_length]
      have HRr := Lib.hid hr
      clear hst hr
      go_wp2
      go_ret
      exact ⟨by rw [HRr.out]; rfl, hw⟩
end Go.Proofs.Ytcbblgeleboggaa
