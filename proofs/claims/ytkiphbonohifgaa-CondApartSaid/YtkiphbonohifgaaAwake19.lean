
/- The fixed answers of layer 19's statements: the call returns true, and makes memory of its own alone. -/
import Derived.Test.YtkiphbonohifgaaCondAllR
namespace Go.Proofs.Ytkiphbonohifgaa
open Go.RowKit
set_option linter.unusedVariables false
theorem row_cells {w : World} {a : Option Addr} {len cap size : Nat} {cs : List Value} (h : Row w a len cap size cs) (hne : cs ≠ []) :
    ∃ b off, a = some ⟨b, off, none⟩ ∧ ∀ j v, cs[j]? = some v → w.cell? ⟨b, off + j, none⟩ = some v := by
  obtain ⟨_, _, _, _, h5⟩ := h
  rcases h5 with h | ⟨b, off, rfl, hc⟩
  · exact absurd h hne
  · refine ⟨b, off, rfl, fun j v hj => ?_⟩
    have : j < cs.length := (List.getElem?_eq_some_iff.1 hj).1
    rw [hc j this, hj]

theorem step_at (on : Bool) (calm : Int) (holds met fresh : Bool) (n : Int) (b : Bool) (c : Int) (h0 : 0 ≤ calm) (h1 : calm < 9223372036854775807) (hb : stepOn on calm holds met fresh n = b) (hc : stepCalm on calm holds met fresh n = c) (w : World) :
    Calls Try.prog 8 #[.agg #[.bool on, .int .i64 calm], .bool holds, .bool met, .bool fresh, .int .i64 n] w fun e w' => e = .returned (.agg #[.bool b, .int .i64 c]) ∧ Below w.heap.size w w' := by
  rw [← hb, ← hc]; exact cond_Step _ _ _ _ _ _ _ h0 h1

set_option maxHeartbeats 2000000 in
theorem awake19 (w : World) : Calls Try.prog 4 #[] w fun e w' => e = .returned (.bool true) ∧ Below w.heap.size w w' := by
  have s1 := step_at false 0 true true true 2 true 0 (by omega) (by omega) rfl rfl
  have s2 := step_at true 0 false false true 2 true 1 (by omega) (by omega) rfl rfl
  have s3 := step_at true 1 false false true 2 false 0 (by omega) (by omega) rfl rfl
  have s4 := step_at true 1 false false false 2 true 0 (by omega) (by omega) rfl rfl
  have ca : ∀ v, Calls Try.prog 7 #[.agg #[.bool false, .int .i64 0, .bool false, .int .i64 0, .bool false, .int .i64 0], .agg #[.bool false, .bool true, .bool false], .agg #[.bool false, .bool false, .bool false], .bool true, .int .i64 2] v fun e w' =>
      (∃ a cap, e = .returned (.tuple #[.agg #[.bool false, .int .i64 0, .bool true, .int .i64 0, .bool false, .int .i64 0], .slice a 1 cap]) ∧ Row w' a 1 cap 4 (evCells 6 1)) ∧ Below v.heap.size v w' :=
    fun v => cond_All ⟨false, 0, false, 0, false, 0, false, true, false, false, false, false, true, 2⟩ v (by unfold Three.fits; simp)
  have r1 : rightC true 1 2 = true := by decide
  have r2 : rightC true 1 1 = false := by decide
  have CA := Lib.hid ca
  have S1 := Lib.hid s1
  have S2 := Lib.hid s2
  have S3 := Lib.hid s3
  have S4 := Lib.hid s4
  clear ca s1 s2 s3 s4
  have hw : Below w.heap.size w w := Below.refl _ _
  have hbel := hw
  go_enter Try.func4, Try.ntmps4
  go_upto_region 2 with (first | (go_at_call 8; (with_reducible refine (S1.out _).mono ?_); rintro e w1 ⟨rfl, hb1⟩; replace hbel := belStep hbel hb1; clear hb1))
  have a0 : (w1.alloc (.cells #[.bool true, .int .i64 0] 23)).cell? ⟨w1.heap.size, 0, none⟩ = some (.bool true) := by first | (simp; done) | (rw [World.cell?_alloc_at _ _ _ _ (by simp)]; rfl) | (rw [World.cell?_alloc_past _ _ _ (by simp <;> omega), World.cell?_alloc_at _ _ _ _ (by simp)]; rfl) | (rw [World.cell?_alloc_past _ _ _ (by simp <;> omega), World.cell?_alloc_past _ _ _ (by simp <;> omega), World.cell?_alloc_at _ _ _ _ (by simp)]; rfl)
  have a1 : (w1.alloc (.cells #[.bool true, .int .i64 0] 23)).cell? ⟨w1.heap.size, 1, none⟩ = some (.int .i64 0) := by first | (simp; done) | (rw [World.cell?_alloc_at _ _ _ _ (by simp)]; rfl) | (rw [World.cell?_alloc_past _ _ _ (by simp <;> omega), World.cell?_alloc_at _ _ _ _ (by simp)]; rfl) | (rw [World.cell?_alloc_past _ _ _ (by simp <;> omega), World.cell?_alloc_past _ _ _ (by simp <;> omega), World.cell?_alloc_at _ _ _ _ (by simp)]; rfl)
  have hb2 := (by repeat (first | exact hbel | refine belAlloc ?_ _ | refine belDrew ?_ | refine belSet ?_ _ _ (by simp)) : Below w.heap.size w (w1.alloc (.cells #[.bool true, .int .i64 0] 23)))
  replace hw := belStep hw hb2
  clear hb2 hbel
  generalize w1.alloc (.cells #[.bool true, .int .i64 0] 23) = W1 at *
  replace a0 := keep a0
  replace a1 := keep a1
  generalize w1.heap.size = n1 at *
  have hbel : Below W1.heap.size W1 W1 := Below.refl _ _
  clear w1
  go_upto_region 3 with (first | (go_at_call 8; (with_reducible refine (S2.out _).mono ?_); rintro e w1 ⟨rfl, hb1⟩; replace hbel := belStep hbel hb1; clear hb1))
  have b0 : (w1.alloc (.cells #[.bool true, .int .i64 1] 23)).cell? ⟨w1.heap.size, 0, none⟩ = some (.bool true) := by first | (simp; done) | (rw [World.cell?_alloc_at _ _ _ _ (by simp)]; rfl) | (rw [World.cell?_alloc_past _ _ _ (by simp <;> omega), World.cell?_alloc_at _ _ _ _ (by simp)]; rfl) | (rw [World.cell?_alloc_past _ _ _ (by simp <;> omega), World.cell?_alloc_past _ _ _ (by simp <;> omega), World.cell?_alloc_at _ _ _ _ (by simp)]; rfl)
  have b1 : (w1.alloc (.cells #[.bool true, .int .i64 1] 23)).cell? ⟨w1.heap.size, 1, none⟩ = some (.int .i64 1) := by first | (simp; done) | (rw [World.cell?_alloc_at _ _ _ _ (by simp)]; rfl) | (rw [World.cell?_alloc_past _ _ _ (by simp <;> omega), World.cell?_alloc_at _ _ _ _ (by simp)]; rfl) | (rw [World.cell?_alloc_past _ _ _ (by simp <;> omega), World.cell?_alloc_past _ _ _ (by simp <;> omega), World.cell?_alloc_at _ _ _ _ (by simp)]; rfl)
  have hb2 := (by repeat (first | exact hbel | refine belAlloc ?_ _ | refine belDrew ?_ | refine belSet ?_ _ _ (by simp)) : Below W1.heap.size W1 (w1.alloc (.cells #[.bool true, .int .i64 1] 23)))
  replace a0 := keepOnP a0 hb2
  replace a1 := keepOnP a1 hb2
  replace hw := belStep hw hb2
  clear hb2 hbel
  generalize w1.alloc (.cells #[.bool true, .int .i64 1] 23) = W2 at *
  replace b0 := keep b0
  replace b1 := keep b1
  generalize w1.heap.size = n2 at *
  have hbel : Below W2.heap.size W2 W2 := Below.refl _ _
  clear w1
  go_upto_region 4 with (first | (go_at_call 8; (with_reducible refine (S3.out _).mono ?_); rintro e w1 ⟨rfl, hb1⟩; replace hbel := belStep hbel hb1; clear hb1))
  have c0 : (w1.alloc (.cells #[.bool false, .int .i64 0] 23)).cell? ⟨w1.heap.size, 0, none⟩ = some (.bool false) := by first | (simp; done) | (rw [World.cell?_alloc_at _ _ _ _ (by simp)]; rfl) | (rw [World.cell?_alloc_past _ _ _ (by simp <;> omega), World.cell?_alloc_at _ _ _ _ (by simp)]; rfl) | (rw [World.cell?_alloc_past _ _ _ (by simp <;> omega), World.cell?_alloc_past _ _ _ (by simp <;> omega), World.cell?_alloc_at _ _ _ _ (by simp)]; rfl)
  have c1 : (w1.alloc (.cells #[.bool false, .int .i64 0] 23)).cell? ⟨w1.heap.size, 1, none⟩ = some (.int .i64 0) := by first | (simp; done) | (rw [World.cell?_alloc_at _ _ _ _ (by simp)]; rfl) | (rw [World.cell?_alloc_past _ _ _ (by simp <;> omega), World.cell?_alloc_at _ _ _ _ (by simp)]; rfl) | (rw [World.cell?_alloc_past _ _ _ (by simp <;> omega), World.cell?_alloc_past _ _ _ (by simp <;> omega), World.cell?_alloc_at _ _ _ _ (by simp)]; rfl)
  have hb2 := (by repeat (first | exact hbel | refine belAlloc ?_ _ | refine belDrew ?_ | refine belSet ?_ _ _ (by simp)) : Below W2.heap.size W2 (w1.alloc (.cells #[.bool false, .int .i64 0] 23)))
  replace a0 := keepOnP a0 hb2
  replace a1 := keepOnP a1 hb2
  replace b0 := keepOnP b0 hb2
  replace b1 := keepOnP b1 hb2
  replace hw := belStep hw hb2
  clear hb2 hbel
  generalize w1.alloc (.cells #[.bool false, .int .i64 0] 23) = W3 at *
  replace c0 := keep c0
  replace c1 := keep c1
  generalize w1.heap.size = n3 at *
  have hbel : Below W3.heap.size W3 W3 := Below.refl _ _
  clear w1
  go_upto_region 5 with (first | (go_at_call 8; (with_reducible refine (S4.out _).mono ?_); rintro e w1 ⟨rfl, hb1⟩; replace hbel := belStep hbel hb1; clear hb1))
  have d0 : (w1.alloc (.cells #[.bool true, .int .i64 0] 23)).cell? ⟨w1.heap.size, 0, none⟩ = some (.bool true) := by first | (simp; done) | (rw [World.cell?_alloc_at _ _ _ _ (by simp)]; rfl) | (rw [World.cell?_alloc_past _ _ _ (by simp <;> omega), World.cell?_alloc_at _ _ _ _ (by simp)]; rfl) | (rw [World.cell?_alloc_past _ _ _ (by simp <;> omega), World.cell?_alloc_past _ _ _ (by simp <;> omega), World.cell?_alloc_at _ _ _ _ (by simp)]; rfl)
  have d1 : (w1.alloc (.cells #[.bool true, .int .i64 0] 23)).cell? ⟨w1.heap.size, 1, none⟩ = some (.int .i64 0) := by first | (simp; done) | (rw [World.cell?_alloc_at _ _ _ _ (by simp)]; rfl) | (rw [World.cell?_alloc_past _ _ _ (by simp <;> omega), World.cell?_alloc_at _ _ _ _ (by simp)]; rfl) | (rw [World.cell?_alloc_past _ _ _ (by simp <;> omega), World.cell?_alloc_past _ _ _ (by simp <;> omega), World.cell?_alloc_at _ _ _ _ (by simp)]; rfl)
  have hb2 := (by repeat (first | exact hbel | refine belAlloc ?_ _ | refine belDrew ?_ | refine belSet ?_ _ _ (by simp)) : Below W3.heap.size W3 (w1.alloc (.cells #[.bool true, .int .i64 0] 23)))
  replace a0 := keepOnP a0 hb2
  replace a1 := keepOnP a1 hb2
  replace b0 := keepOnP b0 hb2
  replace b1 := keepOnP b1 hb2
  replace c0 := keepOnP c0 hb2
  replace c1 := keepOnP c1 hb2
  replace hw := belStep hw hb2
  clear hb2 hbel
  generalize w1.alloc (.cells #[.bool true, .int .i64 0] 23) = W4 at *
  replace d0 := keep d0
  replace d1 := keep d1
  generalize w1.heap.size = n4 at *
  have hbel : Below W4.heap.size W4 W4 := Below.refl _ _
  clear w1
  go_upto_region 6 with (first | (go_at_call 7; (with_reducible refine (CA.out _).mono ?_); rintro e w1 ⟨⟨ea, ec, rfl, hrow⟩, hb1⟩; have HR := Lib.hid hrow; clear hrow; replace hbel := belStep hbel hb1; clear hb1))
  obtain ⟨eb, eo, rfl, hcell⟩ := row_cells (HR.out.later ((Below.refl _ _).alloc (Nat.le_refl _) (.cells #[.bool false, .int .i64 0, .bool true, .int .i64 0, .bool false, .int .i64 0] 24))) (by simp [evCells])
  have q0 := hcell 0 _ rfl
  have q1 := hcell 1 _ rfl
  have q2 := hcell 2 _ rfl
  have q3 := hcell 3 _ rfl
  clear hcell HR
  have e0 : (w1.alloc (.cells #[.bool false, .int .i64 0, .bool true, .int .i64 0, .bool false, .int .i64 0] 24)).cell? ⟨w1.heap.size, 0, none⟩ = some (.bool false) := by first | (simp; done) | (rw [World.cell?_alloc_at _ _ _ _ (by simp)]; rfl) | (rw [World.cell?_alloc_past _ _ _ (by simp <;> omega), World.cell?_alloc_at _ _ _ _ (by simp)]; rfl) | (rw [World.cell?_alloc_past _ _ _ (by simp <;> omega), World.cell?_alloc_past _ _ _ (by simp <;> omega), World.cell?_alloc_at _ _ _ _ (by simp)]; rfl)
  have e2 : (w1.alloc (.cells #[.bool false, .int .i64 0, .bool true, .int .i64 0, .bool false, .int .i64 0] 24)).cell? ⟨w1.heap.size, 2, none⟩ = some (.bool true) := by first | (simp; done) | (rw [World.cell?_alloc_at _ _ _ _ (by simp)]; rfl) | (rw [World.cell?_alloc_past _ _ _ (by simp <;> omega), World.cell?_alloc_at _ _ _ _ (by simp)]; rfl) | (rw [World.cell?_alloc_past _ _ _ (by simp <;> omega), World.cell?_alloc_past _ _ _ (by simp <;> omega), World.cell?_alloc_at _ _ _ _ (by simp)]; rfl)
  have hb2 := (by repeat (first | exact hbel | refine belAlloc ?_ _ | refine belDrew ?_ | refine belSet ?_ _ _ (by simp)) : Below W4.heap.size W4 (w1.alloc (.cells #[.bool false, .int .i64 0, .bool true, .int .i64 0, .bool false, .int .i64 0] 24)))
  replace a0 := keepOnP a0 hb2
  replace a1 := keepOnP a1 hb2
  replace b0 := keepOnP b0 hb2
  replace b1 := keepOnP b1 hb2
  replace c0 := keepOnP c0 hb2
  replace c1 := keepOnP c1 hb2
  replace d0 := keepOnP d0 hb2
  replace d1 := keepOnP d1 hb2
  replace hw := belStep hw hb2
  clear hb2 hbel
  generalize w1.alloc (.cells #[.bool false, .int .i64 0, .bool true, .int .i64 0, .bool false, .int .i64 0] 24) = W5 at *
  replace e0 := keep e0
  replace e2 := keep e2
  generalize w1.heap.size = n5 at *
  have hbel : Below W5.heap.size W5 W5 := Below.refl _ _
  clear w1
  replace q0 := keep q0
  replace q1 := keep q1
  replace q2 := keep q2
  replace q3 := keep q3
  rw [Nat.add_zero] at q0
  go_wp2_with (first | (go_at_call 9; refine (cond_Right _ _ _ _).mono ?_; rintro e w1 ⟨rfl, hb1⟩; replace hbel := belStep hbel hb1; clear hb1))
  go_ret
  exact ⟨rfl, belStep hw hbel⟩
set_option maxHeartbeats 1000000 in
theorem eq_conds (d : Nat) (a0 : Bool) (c0 : Int) (a1 : Bool) (c1 : Int) (a2 : Bool) (c2 : Int) (b0 : Bool) (d0 : Int) (b1 : Bool) (d1 : Int) (b2 : Bool) (d2 : Int) (w : World) :
    (Op.equalIn (d + 3) 24 (.agg #[.bool a0, .int .i64 c0, .bool a1, .int .i64 c1, .bool a2, .int .i64 c2]) (.agg #[.bool b0, .int .i64 d0, .bool b1, .int .i64 d1, .bool b2, .int .i64 d2])).run Try.prog w =
      .ok (a0 == b0 && c0 == d0 && (a1 == b1 && c1 == d1) && (a2 == b2 && c2 == d2)) w := by
  have hs : Try.prog.fieldsOf 23 = #[{ name := "On", type := 4, offset := 0, embedded := false, tag := "", pkgPath := "", byteOffset := 0 }, { name := "Calm", type := 3, offset := 1, embedded := false, tag := "", pkgPath := "", byteOffset := 8 }] := by kernel_rfl
  have h45 : ∀ e (x : Bool) (y : Int) (x' : Bool) (y' : Int) (v : World), (Op.equalIn (e + 2) 23 (.agg #[.bool x, .int .i64 y]) (.agg #[.bool x', .int .i64 y'])).run Try.prog v = .ok (x == x' && y == y') v := by
    intro e x y x' y' v
    rw [run_equalIn_struct _ _ _ _ _ (by kernel_rfl) (by kernel_rfl), hs]
    simp [go_sem, Try.underlying4, Try.underlying3]
    cases hx : (x == x') <;> cases hy : (y == y') <;> simp_all
  rw [Op.equalIn]
  simp [run_underlying Try.underlying24, go_sem]
  rw [show List.range' 0 3 = [0, 1, 2] from rfl]
  simp [List.forIn_cons, go_sem, h45]
  by_cases h0 : a0 = b0 <;> by_cases h1 : c0 = d0 <;> by_cases h2 : a1 = b1 <;> by_cases h3 : c1 = d1 <;> by_cases h4 : a2 = b2 <;> by_cases h5 : c2 = d2 <;> simp [h0, h1, h2, h3, h4, h5, go_sem]
theorem eq_conds_same (a0 : Bool) (c0 : Int) (a1 : Bool) (c1 : Int) (a2 : Bool) (c2 : Int) (w : World) :
    (Op.equalIn 10000 24 (.agg #[.bool a0, .int .i64 c0, .bool a1, .int .i64 c1, .bool a2, .int .i64 c2]) (.agg #[.bool a0, .int .i64 c0, .bool a1, .int .i64 c1, .bool a2, .int .i64 c2])).run Try.prog w = .ok true w := by
  rw [eq_conds 9997]; simp
end Go.Proofs.Ytkiphbonohifgaa
