/- The fixed answers of layer 14's statements: the call returns true, and makes memory of its own alone. -/
import Derived.Test.YthhpkmpaldcloaaBoxRun
namespace Go.Proofs.Ythhpkmpaldcloaa
open Go.RowKit
set_option linter.unusedVariables false

theorem do_at (s t k : Int) (b : Bool) (r : Int) (s' t' e' : Int) (h1 : doS s t k b r = s') (h2 : doN s t k b r = t') (h3 : doE s k = e') (hs : InI s) (ht : InI t) (hk : InI k) (w : World) :
    Calls Try.prog 17 #[.agg #[.int .i64 s, .int .i64 t], .int .i64 k, .bool b, .int .i64 r] w fun e w' => e = .returned (.tuple #[.agg #[.int .i64 s', .int .i64 t'], .int .i64 e']) ∧ Below w.heap.size w w' := by
  subst h1 h2 h3
  exact box_Do s t k b r w hs ht hk

theorem run_awake (w : World) (fr : Nat × Nat) :
    Calls Try.prog 22 #[.slice (some ⟨w.heap.size, 0, none⟩) 3 3, .slice none 0 0, .int .i64 0] (w.alloc (.cells #[.int .i64 1, .int .i64 2, .int .i64 2] 3 fr)) fun e w' =>
      e = .returned (.tuple #[.agg #[.int .i64 3, .int .i64 0], .int .i64 2]) ∧ Below (w.alloc (.cells #[.int .i64 1, .int .i64 2, .int .i64 2] 3 fr)).heap.size (w.alloc (.cells #[.int .i64 1, .int .i64 2, .int .i64 2] 3 fr)) w' := by
  have h := box_Run _ 3 3 [1, 2, 2] none 0 0 [] 0 _ (ints_new w [1, 2, 2] 3 fr (by unfold maxLen; simp) (by intro n hn; simp at hn; rcases hn with rfl | rfl <;> decide)) (bools_nil _)
  rw [show runB [] 0 [1, 2, 2] 3 = (3, 0, 2) from by decide] at h
  exact h

theorem may_at (s t k : Int) (b : Bool) (h : (toS s k != 0) = b) (hs : InI s) (hk : InI k) (w : World) :
    Calls Try.prog 19 #[.agg #[.int .i64 s, .int .i64 t], .int .i64 k] w fun e w' => e = .returned (.bool b) ∧ Below w.heap.size w w' := by
  subst h
  exact box_May s t k w hs hk
theorem over_at (s t : Int) (b : Bool) (h : (s == 5 || s == 6) = b) (w : World) :
    Calls Try.prog 21 #[.agg #[.int .i64 s, .int .i64 t]] w fun e w' => e = .returned (.bool b) ∧ Below w.heap.size w w' := by
  subst h
  exact box_Over s t w

set_option maxRecDepth 100000 in
set_option maxHeartbeats 8000000 in
theorem awake14 (w : World) : Calls Try.prog 16 #[] w fun e w' => e = .returned (.bool true) ∧ Below w.heap.size w w' := by
  have i6 : ∀ n : Int, 0 ≤ n → n ≤ 6 → InI n := fun n _ _ => by unfold InI; omega
  have s1 := do_at 1 0 1 true 1 2 0 0 (by decide) (by decide) (by decide) (by unfold InI; omega) (by unfold InI; omega) (by unfold InI; omega)
  have s2 := do_at 2 0 2 false 1 2 1 0 (by decide) (by decide) (by decide) (by unfold InI; omega) (by unfold InI; omega) (by unfold InI; omega)
  have s3 := do_at 2 1 2 false 1 6 2 0 (by decide) (by decide) (by decide) (by unfold InI; omega) (by unfold InI; omega) (by unfold InI; omega)
  have s4 := do_at 6 2 2 true 1 6 2 7 (by decide) (by decide) (by decide) (by unfold InI; omega) (by unfold InI; omega) (by unfold InI; omega)
  have m1 := may_at 6 2 4 true (by decide) (by unfold InI; omega) (by unfold InI; omega)
  have m2 := may_at 6 2 2 false (by decide) (by unfold InI; omega) (by unfold InI; omega)
  have o1 := over_at 6 2 true (by decide)
  have S1 := Lib.hid s1
  have S2 := Lib.hid s2
  have S3 := Lib.hid s3
  have S4 := Lib.hid s4
  have M1 := Lib.hid m1
  have M2 := Lib.hid m2
  have O1 := Lib.hid o1
  clear s1 s2 s3 s4 m1 m2 o1
  have hw : Below w.heap.size w w := Below.refl _ _
  have hbel := hw
  go_enter Try.func16, Try.ntmps16
  go_upto_region 2 with (first | (go_at_call 23; (with_reducible refine (box_New _).mono ?_); rintro e w1 ⟨rfl, hb1⟩; replace hbel := belStep hbel hb1; clear hb1))
  have a0 : (w1.alloc (.cells #[.int .i64 1, .int .i64 0] 23)).cell? ⟨w1.heap.size, 0, none⟩ = some (.int .i64 1) := by first | (simp; done) | (rw [World.cell?_alloc_at _ _ _ _ (by simp)]; rfl) | (rw [World.cell?_alloc_past _ _ _ (by simp <;> omega), World.cell?_alloc_at _ _ _ _ (by simp)]; rfl) | (rw [World.cell?_alloc_past _ _ _ (by simp <;> omega), World.cell?_alloc_past _ _ _ (by simp <;> omega), World.cell?_alloc_at _ _ _ _ (by simp)]; rfl)
  have a1 : (w1.alloc (.cells #[.int .i64 1, .int .i64 0] 23)).cell? ⟨w1.heap.size, 1, none⟩ = some (.int .i64 0) := by first | (simp; done) | (rw [World.cell?_alloc_at _ _ _ _ (by simp)]; rfl) | (rw [World.cell?_alloc_past _ _ _ (by simp <;> omega), World.cell?_alloc_at _ _ _ _ (by simp)]; rfl) | (rw [World.cell?_alloc_past _ _ _ (by simp <;> omega), World.cell?_alloc_past _ _ _ (by simp <;> omega), World.cell?_alloc_at _ _ _ _ (by simp)]; rfl)
  have hb2 := (by repeat (first | exact hbel | refine belAlloc ?_ _ | refine belDrew ?_ | refine belSet ?_ _ _ (by simp)) : Below w.heap.size w (w1.alloc (.cells #[.int .i64 1, .int .i64 0] 23)))
  replace hw := belStep hw hb2
  clear hb2 hbel
  generalize w1.alloc (.cells #[.int .i64 1, .int .i64 0] 23) = W1 at *
  replace a0 := keep a0
  replace a1 := keep a1
  generalize w1.heap.size = n1 at *
  have hbel : Below W1.heap.size W1 W1 := Below.refl _ _
  clear w1
  go_upto_region 3 with (first | (go_at_call 17; (with_reducible refine (S1.out _).mono ?_); rintro e w1 ⟨rfl, hb1⟩; replace hbel := belStep hbel hb1; clear hb1))
  have b0 : (w1.alloc (.cells #[.int .i64 2, .int .i64 0] 23)).cell? ⟨w1.heap.size, 0, none⟩ = some (.int .i64 2) := by first | (simp; done) | (rw [World.cell?_alloc_at _ _ _ _ (by simp)]; rfl) | (rw [World.cell?_alloc_past _ _ _ (by simp <;> omega), World.cell?_alloc_at _ _ _ _ (by simp)]; rfl) | (rw [World.cell?_alloc_past _ _ _ (by simp <;> omega), World.cell?_alloc_past _ _ _ (by simp <;> omega), World.cell?_alloc_at _ _ _ _ (by simp)]; rfl)
  have b1 : (w1.alloc (.cells #[.int .i64 2, .int .i64 0] 23)).cell? ⟨w1.heap.size, 1, none⟩ = some (.int .i64 0) := by first | (simp; done) | (rw [World.cell?_alloc_at _ _ _ _ (by simp)]; rfl) | (rw [World.cell?_alloc_past _ _ _ (by simp <;> omega), World.cell?_alloc_at _ _ _ _ (by simp)]; rfl) | (rw [World.cell?_alloc_past _ _ _ (by simp <;> omega), World.cell?_alloc_past _ _ _ (by simp <;> omega), World.cell?_alloc_at _ _ _ _ (by simp)]; rfl)
  have hb2 := (by repeat (first | exact hbel | refine belAlloc ?_ _ | refine belDrew ?_ | refine belSet ?_ _ _ (by simp)) : Below W1.heap.size W1 (w1.alloc (.cells #[.int .i64 2, .int .i64 0] 23)))
  replace a0 := keepOnP a0 hb2
  replace a1 := keepOnP a1 hb2
  replace hw := belStep hw hb2
  clear hb2 hbel
  generalize w1.alloc (.cells #[.int .i64 2, .int .i64 0] 23) = W2 at *
  replace b0 := keep b0
  replace b1 := keep b1
  generalize w1.heap.size = n2 at *
  have hbel : Below W2.heap.size W2 W2 := Below.refl _ _
  clear w1
  go_upto_region 4 with (first | (go_at_call 17; (with_reducible refine (S2.out _).mono ?_); rintro e w1 ⟨rfl, hb1⟩; replace hbel := belStep hbel hb1; clear hb1))
  have c0 : (w1.alloc (.cells #[.int .i64 2, .int .i64 1] 23)).cell? ⟨w1.heap.size, 0, none⟩ = some (.int .i64 2) := by first | (simp; done) | (rw [World.cell?_alloc_at _ _ _ _ (by simp)]; rfl) | (rw [World.cell?_alloc_past _ _ _ (by simp <;> omega), World.cell?_alloc_at _ _ _ _ (by simp)]; rfl) | (rw [World.cell?_alloc_past _ _ _ (by simp <;> omega), World.cell?_alloc_past _ _ _ (by simp <;> omega), World.cell?_alloc_at _ _ _ _ (by simp)]; rfl)
  have c1 : (w1.alloc (.cells #[.int .i64 2, .int .i64 1] 23)).cell? ⟨w1.heap.size, 1, none⟩ = some (.int .i64 1) := by first | (simp; done) | (rw [World.cell?_alloc_at _ _ _ _ (by simp)]; rfl) | (rw [World.cell?_alloc_past _ _ _ (by simp <;> omega), World.cell?_alloc_at _ _ _ _ (by simp)]; rfl) | (rw [World.cell?_alloc_past _ _ _ (by simp <;> omega), World.cell?_alloc_past _ _ _ (by simp <;> omega), World.cell?_alloc_at _ _ _ _ (by simp)]; rfl)
  have hb2 := (by repeat (first | exact hbel | refine belAlloc ?_ _ | refine belDrew ?_ | refine belSet ?_ _ _ (by simp)) : Below W2.heap.size W2 (w1.alloc (.cells #[.int .i64 2, .int .i64 1] 23)))
  replace a0 := keepOnP a0 hb2
  replace a1 := keepOnP a1 hb2
  replace b0 := keepOnP b0 hb2
  replace b1 := keepOnP b1 hb2
  replace hw := belStep hw hb2
  clear hb2 hbel
  generalize w1.alloc (.cells #[.int .i64 2, .int .i64 1] 23) = W3 at *
  replace c0 := keep c0
  replace c1 := keep c1
  generalize w1.heap.size = n3 at *
  have hbel : Below W3.heap.size W3 W3 := Below.refl _ _
  clear w1
  go_upto_region 5 with (first | (go_at_call 17; (with_reducible refine (S3.out _).mono ?_); rintro e w1 ⟨rfl, hb1⟩; replace hbel := belStep hbel hb1; clear hb1))
  have d0 : (w1.alloc (.cells #[.int .i64 6, .int .i64 2] 23)).cell? ⟨w1.heap.size, 0, none⟩ = some (.int .i64 6) := by first | (simp; done) | (rw [World.cell?_alloc_at _ _ _ _ (by simp)]; rfl) | (rw [World.cell?_alloc_past _ _ _ (by simp <;> omega), World.cell?_alloc_at _ _ _ _ (by simp)]; rfl) | (rw [World.cell?_alloc_past _ _ _ (by simp <;> omega), World.cell?_alloc_past _ _ _ (by simp <;> omega), World.cell?_alloc_at _ _ _ _ (by simp)]; rfl)
  have d1 : (w1.alloc (.cells #[.int .i64 6, .int .i64 2] 23)).cell? ⟨w1.heap.size, 1, none⟩ = some (.int .i64 2) := by first | (simp; done) | (rw [World.cell?_alloc_at _ _ _ _ (by simp)]; rfl) | (rw [World.cell?_alloc_past _ _ _ (by simp <;> omega), World.cell?_alloc_at _ _ _ _ (by simp)]; rfl) | (rw [World.cell?_alloc_past _ _ _ (by simp <;> omega), World.cell?_alloc_past _ _ _ (by simp <;> omega), World.cell?_alloc_at _ _ _ _ (by simp)]; rfl)
  have hb2 := (by repeat (first | exact hbel | refine belAlloc ?_ _ | refine belDrew ?_ | refine belSet ?_ _ _ (by simp)) : Below W3.heap.size W3 (w1.alloc (.cells #[.int .i64 6, .int .i64 2] 23)))
  replace a0 := keepOnP a0 hb2
  replace a1 := keepOnP a1 hb2
  replace b0 := keepOnP b0 hb2
  replace b1 := keepOnP b1 hb2
  replace c0 := keepOnP c0 hb2
  replace c1 := keepOnP c1 hb2
  replace hw := belStep hw hb2
  clear hb2 hbel
  generalize w1.alloc (.cells #[.int .i64 6, .int .i64 2] 23) = W4 at *
  replace d0 := keep d0
  replace d1 := keep d1
  generalize w1.heap.size = n4 at *
  have hbel : Below W4.heap.size W4 W4 := Below.refl _ _
  clear w1
  go_upto_region 6 with (first | (go_at_call 17; (with_reducible refine (S4.out _).mono ?_); rintro e w1 ⟨rfl, hb1⟩; replace hbel := belStep hbel hb1; clear hb1))
  have f0 : (w1.alloc (.cells #[.int .i64 6, .int .i64 2] 23)).cell? ⟨w1.heap.size, 0, none⟩ = some (.int .i64 6) := by first | (simp; done) | (rw [World.cell?_alloc_at _ _ _ _ (by simp)]; rfl) | (rw [World.cell?_alloc_past _ _ _ (by simp <;> omega), World.cell?_alloc_at _ _ _ _ (by simp)]; rfl) | (rw [World.cell?_alloc_past _ _ _ (by simp <;> omega), World.cell?_alloc_past _ _ _ (by simp <;> omega), World.cell?_alloc_at _ _ _ _ (by simp)]; rfl)
  have f1 : (w1.alloc (.cells #[.int .i64 6, .int .i64 2] 23)).cell? ⟨w1.heap.size, 1, none⟩ = some (.int .i64 2) := by first | (simp; done) | (rw [World.cell?_alloc_at _ _ _ _ (by simp)]; rfl) | (rw [World.cell?_alloc_past _ _ _ (by simp <;> omega), World.cell?_alloc_at _ _ _ _ (by simp)]; rfl) | (rw [World.cell?_alloc_past _ _ _ (by simp <;> omega), World.cell?_alloc_past _ _ _ (by simp <;> omega), World.cell?_alloc_at _ _ _ _ (by simp)]; rfl)
  have hb2 := (by repeat (first | exact hbel | refine belAlloc ?_ _ | refine belDrew ?_ | refine belSet ?_ _ _ (by simp)) : Below W4.heap.size W4 (w1.alloc (.cells #[.int .i64 6, .int .i64 2] 23)))
  replace a0 := keepOnP a0 hb2
  replace a1 := keepOnP a1 hb2
  replace b0 := keepOnP b0 hb2
  replace b1 := keepOnP b1 hb2
  replace c0 := keepOnP c0 hb2
  replace c1 := keepOnP c1 hb2
  replace d0 := keepOnP d0 hb2
  replace d1 := keepOnP d1 hb2
  replace hw := belStep hw hb2
  clear hb2 hbel
  generalize w1.alloc (.cells #[.int .i64 6, .int .i64 2] 23) = W5 at *
  replace f0 := keep f0
  replace f1 := keep f1
  generalize w1.heap.size = n5 at *
  have hbel : Below W5.heap.size W5 W5 := Below.refl _ _
  clear w1
  go_upto_region 7 with (first | (go_at_call 22; refine (run_awake _ _).mono ?_; rintro e w1 ⟨rfl, hb1⟩; replace hbel := belStep (belAlloc hbel _) hb1; clear hb1))
  have g0 : (w1.alloc (.cells #[.int .i64 3, .int .i64 0] 23)).cell? ⟨w1.heap.size, 0, none⟩ = some (.int .i64 3) := by first | (simp; done) | (rw [World.cell?_alloc_at _ _ _ _ (by simp)]; rfl) | (rw [World.cell?_alloc_past _ _ _ (by simp <;> omega), World.cell?_alloc_at _ _ _ _ (by simp)]; rfl) | (rw [World.cell?_alloc_past _ _ _ (by simp <;> omega), World.cell?_alloc_past _ _ _ (by simp <;> omega), World.cell?_alloc_at _ _ _ _ (by simp)]; rfl)
  have g1 : (w1.alloc (.cells #[.int .i64 3, .int .i64 0] 23)).cell? ⟨w1.heap.size, 1, none⟩ = some (.int .i64 0) := by first | (simp; done) | (rw [World.cell?_alloc_at _ _ _ _ (by simp)]; rfl) | (rw [World.cell?_alloc_past _ _ _ (by simp <;> omega), World.cell?_alloc_at _ _ _ _ (by simp)]; rfl) | (rw [World.cell?_alloc_past _ _ _ (by simp <;> omega), World.cell?_alloc_past _ _ _ (by simp <;> omega), World.cell?_alloc_at _ _ _ _ (by simp)]; rfl)
  have hb2 := (by repeat (first | exact hbel | refine belAlloc ?_ _ | refine belDrew ?_ | refine belSet ?_ _ _ (by simp)) : Below W5.heap.size W5 (w1.alloc (.cells #[.int .i64 3, .int .i64 0] 23)))
  replace a0 := keepOnP a0 hb2
  replace a1 := keepOnP a1 hb2
  replace b0 := keepOnP b0 hb2
  replace b1 := keepOnP b1 hb2
  replace c0 := keepOnP c0 hb2
  replace c1 := keepOnP c1 hb2
  replace d0 := keepOnP d0 hb2
  replace d1 := keepOnP d1 hb2
  replace f0 := keepOnP f0 hb2
  replace f1 := keepOnP f1 hb2
  replace hw := belStep hw hb2
  clear hb2 hbel
  generalize w1.alloc (.cells #[.int .i64 3, .int .i64 0] 23) = W6 at *
  replace g0 := keep g0
  replace g1 := keep g1
  generalize w1.heap.size = n6 at *
  have hbel : Below W6.heap.size W6 W6 := Below.refl _ _
  clear w1
  go_wp2_with (first | (go_at_call 21; (with_reducible refine (O1.out _).mono ?_); rintro e w1 ⟨rfl, hb1⟩; replace hbel := belStep hbel hb1; clear hb1) | (go_at_call 19; (with_reducible refine (M1.out _).mono ?_); rintro e w1 ⟨rfl, hb1⟩; replace hbel := belStep hbel hb1; clear hb1) | (go_at_call 19; (with_reducible refine (M2.out _).mono ?_); rintro e w1 ⟨rfl, hb1⟩; replace hbel := belStep hbel hb1; clear hb1))
  go_ret
  exact ⟨rfl, belStep hw hbel⟩

theorem Ints.take {k : IntKind} {w : World} {a : Option Addr} {len cap : Nat} {l : List Int} (h : Ints k w a len cap l) {n : Nat} (hn : n ≤ len) (ha : a ≠ none) : Ints k w a n cap (l.take n) := by
  obtain ⟨⟨h1, h2, h3, h4, h5⟩, hw⟩ := h
  simp at h1
  refine ⟨⟨by simp; omega, by omega, h3, fun e => absurd e ha, ?_⟩, fun m hm => hw m (List.mem_of_mem_take hm)⟩
  rcases h5 with h5 | ⟨b, off, e, hc⟩
  · left; simp at h5; subst h5; simp
  · right
    refine ⟨b, off, e, fun i hi => ?_⟩
    simp at hi
    rw [hc i (by simp; omega)]
    simp [hi]

theorem runB_take (lb : List Bool) (r : Int) (l : List Int) (n k : Nat) (hk : k ≤ n) (hn : n ≤ l.length) : runB lb r (l.take n) k = runB lb r l k := by
  induction k with
  | zero => rfl
  | succ k ih =>
    have e : el (l.take n) k = el l k := by unfold el; simp [List.getD_eq_getElem?_getD, show k < n by omega]
    simp only [runB, e, ih (by omega)]

/-- The first n of l, run. -/
theorem run_take (a : Option Addr) (len cap : Nat) (l : List Int) (b : Option Addr) (lenb capb : Nat) (lb : List Bool) (r : Int) (n : Nat) (hn : n ≤ len) (ha : a ≠ none) (s t m : Int) (h : runB lb r l n = (s, t, m)) (w : World) (hl : Ints .i64 w a len cap l) (hlb : Bools w b lenb capb lb) :
    Calls Try.prog 22 #[.slice a n cap, .slice b lenb capb, .int .i64 r] w fun e w' => e = .returned (.tuple #[.agg #[.int .i64 s, .int .i64 t], .int .i64 m]) ∧ Below w.heap.size w w' := by
  have := hl.bounds
  have q := box_Run a n cap (l.take n) b lenb capb lb r w (hl.take hn ha) hlb
  rw [runB_take lb r l n n (Nat.le_refl _) (by omega), h] at q
  exact q

theorem open_box {H : Type} {enc : TypeId × Value → H} {W : World} {v : Value} {b : Nat} {d : DataW H} {p : List MemPlace} (o : Value.okWide Try.prog W .any b 23 v) (h : DataW.Trod enc Try.prog W 0 (fun _ => true) true 23 v d p) :
    ∃ s t, v = .agg #[.int .i64 s, .int .i64 t] ∧ InI s ∧ InI t := by
  obtain ⟨cs, rfl⟩ := agg_of_struct Try.underlying23 o
  obtain ⟨hl, hf⟩ := Rd.struct Try.underlying23 (Rd.of h)
  rw [agg_cells] at hl hf
  rw [show Try.prog.cellsOf 23 = 2 by kernel_rfl] at hl
  obtain ⟨a, b, e⟩ := list2 hl
  rw [e] at hf
  have h0 := hf 0 _ rfl
  have h1 := hf 1 _ rfl
  simp [show Try.prog.cellsOf 3 = 1 by kernel_rfl] at h0 h1
  obtain ⟨s, e0, w0⟩ := Rd.int Try.underlying3 h0
  obtain ⟨t, e1, w1⟩ := Rd.int Try.underlying3 h1
  simp at e0 e1
  subst e0 e1
  exact ⟨s, t, by rw [← e], inI_of_wf w0, inI_of_wf w1⟩
end Go.Proofs.Ythhpkmpaldcloaa
