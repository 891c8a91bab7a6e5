/- ThreshReads holds for every text. No conditions. -/
import Derived.Test.YtiaemcejgjobiaaDoorThrRef4
import Derived.Test.YtiaemcejgjobiaaDoorAwake06
import Derived.Test.YtiaemcejgjobiaaDoorThrCard
namespace Go.Proofs.YtiaemcejgjobiaaDoor.threshReads
open Go.ChangeShapes Go.WideShapes Go.ChangeAt Go.RowKit
open Go.ChangeMaps (open_string shut_string)
set_option linter.unusedVariables false
set_option linter.unusedSimpArgs false

theorem rd_some (s : ByteArray) (t : ThrV) (v : World) (hs : s.size ≤ 1000000) (he : Env v) (h : thF s.toList = some t) : Calls Tryd.prog 23 #[.string s] v fun e w' => e = .returned (.tuple #[.agg #[.int .i64 t.sig, .int .i64 t.pct, .int .i64 t.amt, .bool t.soft, .int .i64 t.grace], .int .i64 0]) ∧ Below v.heap.size v w' := by
  have hr := thr_Read s v hs he
  unfold thV thE at hr
  rw [h] at hr
  exact hr
theorem rd_none (s : ByteArray) (v : World) (hs : s.size ≤ 1000000) (he : Env v) (h : thF s.toList = none) : Calls Tryd.prog 23 #[.string s] v fun e w' => e = .returned (.tuple #[.agg #[.int .i64 0, .int .i64 0, .int .i64 0, .bool false, .int .i64 0], .int .i64 2]) ∧ Below v.heap.size v w' := by
  have hr := thr_Read s v hs he
  unfold thV thE at hr
  rw [h] at hr
  exact hr
theorem sig_cases (l : List UInt8) : ((l == [109, 101, 109, 111, 114, 121]) = true ∧ (l == [100, 105, 115, 107]) = false ∧ (l == [112, 105, 100]) = false ∧ sigB l = true) ∨ ((l == [109, 101, 109, 111, 114, 121]) = false ∧ (l == [100, 105, 115, 107]) = true ∧ (l == [112, 105, 100]) = false ∧ sigB l = true) ∨
    ((l == [109, 101, 109, 111, 114, 121]) = false ∧ (l == [100, 105, 115, 107]) = false ∧ (l == [112, 105, 100]) = true ∧ sigB l = true) ∨ ((l == [109, 101, 109, 111, 114, 121]) = false ∧ (l == [100, 105, 115, 107]) = false ∧ (l == [112, 105, 100]) = false ∧ sigB l = false) := by
  by_cases a : l = [109, 101, 109, 111, 114, 121]
  · subst a; exact .inl (by decide)
  by_cases b : l = [100, 105, 115, 107]
  · subst b; exact .inr (.inl (by decide))
  by_cases c : l = [112, 105, 100]
  · subst c; exact .inr (.inr (.inl (by decide)))
  refine .inr (.inr (.inr ⟨by simpa using a, by simpa using b, by simpa using c, ?_⟩))
  unfold sigB sigF
  rw [if_neg a, if_neg b, if_neg c]; rfl
set_option maxRecDepth 100000 in
set_option maxHeartbeats 8000000 in
theorem walk (s : ByteArray) (W : World) (ht : Env W) (hs : s.size ≤ maxLen) : Calls Tryd.prog 8 #[.string s] W fun e w' => e = .returned (.bool true) ∧ Below W.heap.size W w' := by
  have hw : Below W.heap.size W W := Below.refl _ _
  have hbel := hw
  have CA := Lib.hid (fun v (hv : Below W.heap.size W v) => awake06 v (ht.later hv))
  have hs2 : (s.size : Int) ≤ 9223372036854775807 := by unfold maxLen at hs; omega
  by_cases h1000 : 1000 < s.size
  · clear ht hs
    go_enter Tryd.func8, Tryd.ntmps8
    go_wp2_with (first | (go_at_call 22; (with_reducible refine (CA.out _ (belStep hw hbel)).mono ?_); rintro e w1 ⟨rfl, hb1⟩; replace hbel := belStep hbel hb1; clear hb1))
    go_ret
    exact ⟨rfl, hbel⟩
  have hsm : s.size ≤ 1000000 := by omega
  have CR := Lib.hid (fun u => ref_tRead s u hsm)
  have hsig := sig_cases s.toList
  have CS := fun u => thr_Signal s u
  generalize sigN s.toList = sn at CS
  generalize sigB s.toList = sb at *
  cases hf : thF s.toList with
  | none =>
    have C1 := Lib.hid (fun v (hv : Below W.heap.size W v) => rd_none s v hsm (ht.later hv) hf)
    have C2 := Lib.hid (show ∀ u, Calls Tryd.prog 24 #[.string s] u fun e w' => e = .returned (.tuple #[.agg #[.int .i64 0, .int .i64 0, .int .i64 0, .bool false, .int .i64 0], .bool false]) ∧ Below u.heap.size u w' from fun u => (CR.out u).mono fun e w' ⟨h, hb⟩ => ⟨(by
      rcases h with ⟨t, h1, _⟩ | ⟨_, h2⟩
      · rw [hf] at h1; cases h1
      · exact h2), hb⟩)
    have heq : ∀ u : World, (Op.equalIn 10000 40 (.agg #[.int .i64 0, .int .i64 0, .int .i64 0, .bool false, .int .i64 0]) (.agg #[.int .i64 0, .int .i64 0, .int .i64 0, .bool false, .int .i64 0])).run Tryd.prog u = .ok true u := fun u => eq_thr zeroT zeroT u
    clear hf CR ht hs hsm
    rcases hsig with ⟨t0, t1, t2, rfl⟩ | ⟨t0, t1, t2, rfl⟩ | ⟨t0, t1, t2, rfl⟩ | ⟨t0, t1, t2, rfl⟩
    all_goals
      have CSs := Lib.hid CS
      clear CS
      go_enter Tryd.func8, Tryd.ntmps8
      go_upto_region 4 with (first | (go_at_call 22; (with_reducible refine (CA.out _ (belStep hw hbel)).mono ?_); rintro e w1 ⟨rfl, hb1⟩; replace hbel := belStep hbel hb1; clear hb1) | (go_at_call 23; (with_reducible refine (C1.out _ hbel).mono ?_); rintro e w1 ⟨rfl, hb1⟩; replace hbel := belStep hbel hb1; clear hb1))
      replace hw := belStep hw hbel
      clear hbel
      generalize w1 = W0 at *
      have hbel : Below W0.heap.size W0 W0 := Below.refl _ _
      have ta0 : (W0.alloc (.cells #[.int .i64 0, .int .i64 0, .int .i64 0, .bool false, .int .i64 0] 40)).cell? ⟨W0.heap.size, 0, none⟩ = some (.int .i64 0) := by first | (simp; done) | (rw [World.cell?_alloc_at _ _ _ _ (by simp)]; rfl) | (rw [World.cell?_alloc_past _ _ _ (by simp <;> omega), World.cell?_alloc_at _ _ _ _ (by simp)]; rfl) | (rw [World.cell?_alloc_past _ _ _ (by simp <;> omega), World.cell?_alloc_past _ _ _ (by simp <;> omega), World.cell?_alloc_at _ _ _ _ (by simp)]; rfl)
      have ta1 : (W0.alloc (.cells #[.int .i64 0, .int .i64 0, .int .i64 0, .bool false, .int .i64 0] 40)).cell? ⟨W0.heap.size, 1, none⟩ = some (.int .i64 0) := by first | (simp; done) | (rw [World.cell?_alloc_at _ _ _ _ (by simp)]; rfl) | (rw [World.cell?_alloc_past _ _ _ (by simp <;> omega), World.cell?_alloc_at _ _ _ _ (by simp)]; rfl) | (rw [World.cell?_alloc_past _ _ _ (by simp <;> omega), World.cell?_alloc_past _ _ _ (by simp <;> omega), World.cell?_alloc_at _ _ _ _ (by simp)]; rfl)
      have ta2 : (W0.alloc (.cells #[.int .i64 0, .int .i64 0, .int .i64 0, .bool false, .int .i64 0] 40)).cell? ⟨W0.heap.size, 2, none⟩ = some (.int .i64 0) := by first | (simp; done) | (rw [World.cell?_alloc_at _ _ _ _ (by simp)]; rfl) | (rw [World.cell?_alloc_past _ _ _ (by simp <;> omega), World.cell?_alloc_at _ _ _ _ (by simp)]; rfl) | (rw [World.cell?_alloc_past _ _ _ (by simp <;> omega), World.cell?_alloc_past _ _ _ (by simp <;> omega), World.cell?_alloc_at _ _ _ _ (by simp)]; rfl)
      have ta3 : (W0.alloc (.cells #[.int .i64 0, .int .i64 0, .int .i64 0, .bool false, .int .i64 0] 40)).cell? ⟨W0.heap.size, 3, none⟩ = some (.bool false) := by first | (simp; done) | (rw [World.cell?_alloc_at _ _ _ _ (by simp)]; rfl) | (rw [World.cell?_alloc_past _ _ _ (by simp <;> omega), World.cell?_alloc_at _ _ _ _ (by simp)]; rfl) | (rw [World.cell?_alloc_past _ _ _ (by simp <;> omega), World.cell?_alloc_past _ _ _ (by simp <;> omega), World.cell?_alloc_at _ _ _ _ (by simp)]; rfl)
      have ta4 : (W0.alloc (.cells #[.int .i64 0, .int .i64 0, .int .i64 0, .bool false, .int .i64 0] 40)).cell? ⟨W0.heap.size, 4, none⟩ = some (.int .i64 0) := by first | (simp; done) | (rw [World.cell?_alloc_at _ _ _ _ (by simp)]; rfl) | (rw [World.cell?_alloc_past _ _ _ (by simp <;> omega), World.cell?_alloc_at _ _ _ _ (by simp)]; rfl) | (rw [World.cell?_alloc_past _ _ _ (by simp <;> omega), World.cell?_alloc_past _ _ _ (by simp <;> omega), World.cell?_alloc_at _ _ _ _ (by simp)]; rfl)
      have hb2 := (by repeat (first | exact hbel | refine belAlloc ?_ _ | refine belDrew ?_ | refine belSet ?_ _ _ (by simp)) : Below W0.heap.size W0 (W0.alloc (.cells #[.int .i64 0, .int .i64 0, .int .i64 0, .bool false, .int .i64 0] 40)))
      replace hw := belStep hw hb2
      clear hb2 hbel
      generalize W0.alloc (.cells #[.int .i64 0, .int .i64 0, .int .i64 0, .bool false, .int .i64 0] 40) = W1 at *
      replace ta0 := keep ta0
      replace ta1 := keep ta1
      replace ta2 := keep ta2
      replace ta3 := keep ta3
      replace ta4 := keep ta4
      generalize W0.heap.size = P1 at *
      have hbel : Below W1.heap.size W1 W1 := Below.refl _ _
      skip
      go_upto_region 5 with (first | (go_at_call 24; (with_reducible refine (C2.out _).mono ?_); rintro e w1 ⟨rfl, hb1⟩; replace hbel := belStep hbel hb1; clear hb1))
      replace ta0 := keepOnP ta0 hbel
      replace ta1 := keepOnP ta1 hbel
      replace ta2 := keepOnP ta2 hbel
      replace ta3 := keepOnP ta3 hbel
      replace ta4 := keepOnP ta4 hbel
      replace hw := belStep hw hbel
      clear hbel
      generalize w1 = W2 at *
      have hbel : Below W2.heap.size W2 W2 := Below.refl _ _
      have tb0 : (W2.alloc (.cells #[.int .i64 0, .int .i64 0, .int .i64 0, .bool false, .int .i64 0] 40)).cell? ⟨W2.heap.size, 0, none⟩ = some (.int .i64 0) := by first | (simp; done) | (rw [World.cell?_alloc_at _ _ _ _ (by simp)]; rfl) | (rw [World.cell?_alloc_past _ _ _ (by simp <;> omega), World.cell?_alloc_at _ _ _ _ (by simp)]; rfl) | (rw [World.cell?_alloc_past _ _ _ (by simp <;> omega), World.cell?_alloc_past _ _ _ (by simp <;> omega), World.cell?_alloc_at _ _ _ _ (by simp)]; rfl)
      have tb1 : (W2.alloc (.cells #[.int .i64 0, .int .i64 0, .int .i64 0, .bool false, .int .i64 0] 40)).cell? ⟨W2.heap.size, 1, none⟩ = some (.int .i64 0) := by first | (simp; done) | (rw [World.cell?_alloc_at _ _ _ _ (by simp)]; rfl) | (rw [World.cell?_alloc_past _ _ _ (by simp <;> omega), World.cell?_alloc_at _ _ _ _ (by simp)]; rfl) | (rw [World.cell?_alloc_past _ _ _ (by simp <;> omega), World.cell?_alloc_past _ _ _ (by simp <;> omega), World.cell?_alloc_at _ _ _ _ (by simp)]; rfl)
      have tb2 : (W2.alloc (.cells #[.int .i64 0, .int .i64 0, .int .i64 0, .bool false, .int .i64 0] 40)).cell? ⟨W2.heap.size, 2, none⟩ = some (.int .i64 0) := by first | (simp; done) | (rw [World.cell?_alloc_at _ _ _ _ (by simp)]; rfl) | (rw [World.cell?_alloc_past _ _ _ (by simp <;> omega), World.cell?_alloc_at _ _ _ _ (by simp)]; rfl) | (rw [World.cell?_alloc_past _ _ _ (by simp <;> omega), World.cell?_alloc_past _ _ _ (by simp <;> omega), World.cell?_alloc_at _ _ _ _ (by simp)]; rfl)
      have tb3 : (W2.alloc (.cells #[.int .i64 0, .int .i64 0, .int .i64 0, .bool false, .int .i64 0] 40)).cell? ⟨W2.heap.size, 3, none⟩ = some (.bool false) := by first | (simp; done) | (rw [World.cell?_alloc_at _ _ _ _ (by simp)]; rfl) | (rw [World.cell?_alloc_past _ _ _ (by simp <;> omega), World.cell?_alloc_at _ _ _ _ (by simp)]; rfl) | (rw [World.cell?_alloc_past _ _ _ (by simp <;> omega), World.cell?_alloc_past _ _ _ (by simp <;> omega), World.cell?_alloc_at _ _ _ _ (by simp)]; rfl)
      have tb4 : (W2.alloc (.cells #[.int .i64 0, .int .i64 0, .int .i64 0, .bool false, .int .i64 0] 40)).cell? ⟨W2.heap.size, 4, none⟩ = some (.int .i64 0) := by first | (simp; done) | (rw [World.cell?_alloc_at _ _ _ _ (by simp)]; rfl) | (rw [World.cell?_alloc_past _ _ _ (by simp <;> omega), World.cell?_alloc_at _ _ _ _ (by simp)]; rfl) | (rw [World.cell?_alloc_past _ _ _ (by simp <;> omega), World.cell?_alloc_past _ _ _ (by simp <;> omega), World.cell?_alloc_at _ _ _ _ (by simp)]; rfl)
      have hb2 := (by repeat (first | exact hbel | refine belAlloc ?_ _ | refine belDrew ?_ | refine belSet ?_ _ _ (by simp)) : Below W2.heap.size W2 (W2.alloc (.cells #[.int .i64 0, .int .i64 0, .int .i64 0, .bool false, .int .i64 0] 40)))
      replace ta0 := keepOnP ta0 hb2
      replace ta1 := keepOnP ta1 hb2
      replace ta2 := keepOnP ta2 hb2
      replace ta3 := keepOnP ta3 hb2
      replace ta4 := keepOnP ta4 hb2
      replace hw := belStep hw hb2
      clear hb2 hbel
      generalize W2.alloc (.cells #[.int .i64 0, .int .i64 0, .int .i64 0, .bool false, .int .i64 0] 40) = W3 at *
      replace tb0 := keep tb0
      replace tb1 := keep tb1
      replace tb2 := keep tb2
      replace tb3 := keep tb3
      replace tb4 := keep tb4
      generalize W2.heap.size = P2 at *
      have hbel : Below W3.heap.size W3 W3 := Below.refl _ _
      skip
      go_wp2_with (first | (go_at_call 25; (with_reducible refine (CSs.out _).mono ?_); rintro e w' ⟨rfl, rfl⟩))
      go_ret
      exact ⟨rfl, belStep hw hbel⟩
  | some t =>
    have C1 := Lib.hid (fun v (hv : Below W.heap.size W v) => rd_some s t v hsm (ht.later hv) hf)
    have C2 := Lib.hid (show ∀ u, Calls Tryd.prog 24 #[.string s] u fun e w' => e = .returned (.tuple #[.agg #[.int .i64 t.sig, .int .i64 t.pct, .int .i64 t.amt, .bool t.soft, .int .i64 t.grace], .bool true]) ∧ Below u.heap.size u w' from fun u => (CR.out u).mono fun e w' ⟨h, hb⟩ => ⟨(by
      rcases h with ⟨t2, h1, h2⟩ | ⟨h2, _⟩
      · rw [hf] at h1; cases h1; exact h2
      · rw [hf] at h2; cases h2), hb⟩)
    have heq : ∀ u : World, (Op.equalIn 10000 40 (.agg #[.int .i64 t.sig, .int .i64 t.pct, .int .i64 t.amt, .bool t.soft, .int .i64 t.grace]) (.agg #[.int .i64 t.sig, .int .i64 t.pct, .int .i64 t.amt, .bool t.soft, .int .i64 t.grace])).run Tryd.prog u = .ok true u := fun u => by have := eq_thr t t u; simpa using this
    clear hf CR ht hs hsm
    rcases hsig with ⟨t0, t1, t2, rfl⟩ | ⟨t0, t1, t2, rfl⟩ | ⟨t0, t1, t2, rfl⟩ | ⟨t0, t1, t2, rfl⟩
    all_goals
      have CSs := Lib.hid CS
      clear CS
      go_enter Tryd.func8, Tryd.ntmps8
      go_upto_region 4 with (first | (go_at_call 22; (with_reducible refine (CA.out _ (belStep hw hbel)).mono ?_); rintro e w1 ⟨rfl, hb1⟩; replace hbel := belStep hbel hb1; clear hb1) | (go_at_call 23; (with_reducible refine (C1.out _ hbel).mono ?_); rintro e w1 ⟨rfl, hb1⟩; replace hbel := belStep hbel hb1; clear hb1))
      replace hw := belStep hw hbel
      clear hbel
      generalize w1 = W0 at *
      have hbel : Below W0.heap.size W0 W0 := Below.refl _ _
      have ta0 : (W0.alloc (.cells #[.int .i64 t.sig, .int .i64 t.pct, .int .i64 t.amt, .bool t.soft, .int .i64 t.grace] 40)).cell? ⟨W0.heap.size, 0, none⟩ = some (.int .i64 t.sig) := by first | (simp; done) | (rw [World.cell?_alloc_at _ _ _ _ (by simp)]; rfl) | (rw [World.cell?_alloc_past _ _ _ (by simp <;> omega), World.cell?_alloc_at _ _ _ _ (by simp)]; rfl) | (rw [World.cell?_alloc_past _ _ _ (by simp <;> omega), World.cell?_alloc_past _ _ _ (by simp <;> omega), World.cell?_alloc_at _ _ _ _ (by simp)]; rfl)
      have ta1 : (W0.alloc (.cells #[.int .i64 t.sig, .int .i64 t.pct, .int .i64 t.amt, .bool t.soft, .int .i64 t.grace] 40)).cell? ⟨W0.heap.size, 1, none⟩ = some (.int .i64 t.pct) := by first | (simp; done) | (rw [World.cell?_alloc_at _ _ _ _ (by simp)]; rfl) | (rw [World.cell?_alloc_past _ _ _ (by simp <;> omega), World.cell?_alloc_at _ _ _ _ (by simp)]; rfl) | (rw [World.cell?_alloc_past _ _ _ (by simp <;> omega), World.cell?_alloc_past _ _ _ (by simp <;> omega), World.cell?_alloc_at _ _ _ _ (by simp)]; rfl)
      have ta2 : (W0.alloc (.cells #[.int .i64 t.sig, .int .i64 t.pct, .int .i64 t.amt, .bool t.soft, .int .i64 t.grace] 40)).cell? ⟨W0.heap.size, 2, none⟩ = some (.int .i64 t.amt) := by first | (simp; done) | (rw [World.cell?_alloc_at _ _ _ _ (by simp)]; rfl) | (rw [World.cell?_alloc_past _ _ _ (by simp <;> omega), World.cell?_alloc_at _ _ _ _ (by simp)]; rfl) | (rw [World.cell?_alloc_past _ _ _ (by simp <;> omega), World.cell?_alloc_past _ _ _ (by simp <;> omega), World.cell?_alloc_at _ _ _ _ (by simp)]; rfl)
      have ta3 : (W0.alloc (.cells #[.int .i64 t.sig, .int .i64 t.pct, .int .i64 t.amt, .bool t.soft, .int .i64 t.grace] 40)).cell? ⟨W0.heap.size, 3, none⟩ = some (.bool t.soft) := by first | (simp; done) | (rw [World.cell?_alloc_at _ _ _ _ (by simp)]; rfl) | (rw [World.cell?_alloc_past _ _ _ (by simp <;> omega), World.cell?_alloc_at _ _ _ _ (by simp)]; rfl) | (rw [World.cell?_alloc_past _ _ _ (by simp <;> omega), World.cell?_alloc_past _ _ _ (by simp <;> omega), World.cell?_alloc_at _ _ _ _ (by simp)]; rfl)
      have ta4 : (W0.alloc (.cells #[.int .i64 t.sig, .int .i64 t.pct, .int .i64 t.amt, .bool t.soft, .int .i64 t.grace] 40)).cell? ⟨W0.heap.size, 4, none⟩ = some (.int .i64 t.grace) := by first | (simp; done) | (rw [World.cell?_alloc_at _ _ _ _ (by simp)]; rfl) | (rw [World.cell?_alloc_past _ _ _ (by simp <;> omega), World.cell?_alloc_at _ _ _ _ (by simp)]; rfl) | (rw [World.cell?_alloc_past _ _ _ (by simp <;> omega), World.cell?_alloc_past _ _ _ (by simp <;> omega), World.cell?_alloc_at _ _ _ _ (by simp)]; rfl)
      have hb2 := (by repeat (first | exact hbel | refine belAlloc ?_ _ | refine belDrew ?_ | refine belSet ?_ _ _ (by simp)) : Below W0.heap.size W0 (W0.alloc (.cells #[.int .i64 t.sig, .int .i64 t.pct, .int .i64 t.amt, .bool t.soft, .int .i64 t.grace] 40)))
      replace hw := belStep hw hb2
      clear hb2 hbel
      generalize W0.alloc (.cells #[.int .i64 t.sig, .int .i64 t.pct, .int .i64 t.amt, .bool t.soft, .int .i64 t.grace] 40) = W1 at *
      replace ta0 := keep ta0
      replace ta1 := keep ta1
      replace ta2 := keep ta2
      replace ta3 := keep ta3
      replace ta4 := keep ta4
      generalize W0.heap.size = P1 at *
      have hbel : Below W1.heap.size W1 W1 := Below.refl _ _
      skip
      go_upto_region 5 with (first | (go_at_call 24; (with_reducible refine (C2.out _).mono ?_); rintro e w1 ⟨rfl, hb1⟩; replace hbel := belStep hbel hb1; clear hb1))
      replace ta0 := keepOnP ta0 hbel
      replace ta1 := keepOnP ta1 hbel
      replace ta2 := keepOnP ta2 hbel
      replace ta3 := keepOnP ta3 hbel
      replace ta4 := keepOnP ta4 hbel
      replace hw := belStep hw hbel
      clear hbel
      generalize w1 = W2 at *
      have hbel : Below W2.heap.size W2 W2 := Below.refl _ _
      have tb0 : (W2.alloc (.cells #[.int .i64 t.sig, .int .i64 t.pct, .int .i64 t.amt, .bool t.soft, .int .i64 t.grace] 40)).cell? ⟨W2.heap.size, 0, none⟩ = some (.int .i64 t.sig) := by first | (simp; done) | (rw [World.cell?_alloc_at _ _ _ _ (by simp)]; rfl) | (rw [World.cell?_alloc_past _ _ _ (by simp <;> omega), World.cell?_alloc_at _ _ _ _ (by simp)]; rfl) | (rw [World.cell?_alloc_past _ _ _ (by simp <;> omega), World.cell?_alloc_past _ _ _ (by simp <;> omega), World.cell?_alloc_at _ _ _ _ (by simp)]; rfl)
      have tb1 : (W2.alloc (.cells #[.int .i64 t.sig, .int .i64 t.pct, .int .i64 t.amt, .bool t.soft, .int .i64 t.grace] 40)).cell? ⟨W2.heap.size, 1, none⟩ = some (.int .i64 t.pct) := by first | (simp; done) | (rw [World.cell?_alloc_at _ _ _ _ (by simp)]; rfl) | (rw [World.cell?_alloc_past _ _ _ (by simp <;> omega), World.cell?_alloc_at _ _ _ _ (by simp)]; rfl) | (rw [World.cell?_alloc_past _ _ _ (by simp <;> omega), World.cell?_alloc_past _ _ _ (by simp <;> omega), World.cell?_alloc_at _ _ _ _ (by simp)]; rfl)
      have tb2 : (W2.alloc (.cells #[.int .i64 t.sig, .int .i64 t.pct, .int .i64 t.amt, .bool t.soft, .int .i64 t.grace] 40)).cell? ⟨W2.heap.size, 2, none⟩ = some (.int .i64 t.amt) := by first | (simp; done) | (rw [World.cell?_alloc_at _ _ _ _ (by simp)]; rfl) | (rw [World.cell?_alloc_past _ _ _ (by simp <;> omega), World.cell?_alloc_at _ _ _ _ (by simp)]; rfl) | (rw [World.cell?_alloc_past _ _ _ (by simp <;> omega), World.cell?_alloc_past _ _ _ (by simp <;> omega), World.cell?_alloc_at _ _ _ _ (by simp)]; rfl)
      have tb3 : (W2.alloc (.cells #[.int .i64 t.sig, .int .i64 t.pct, .int .i64 t.amt, .bool t.soft, .int .i64 t.grace] 40)).cell? ⟨W2.heap.size, 3, none⟩ = some (.bool t.soft) := by first | (simp; done) | (rw [World.cell?_alloc_at _ _ _ _ (by simp)]; rfl) | (rw [World.cell?_alloc_past _ _ _ (by simp <;> omega), World.cell?_alloc_at _ _ _ _ (by simp)]; rfl) | (rw [World.cell?_alloc_past _ _ _ (by simp <;> omega), World.cell?_alloc_past _ _ _ (by simp <;> omega), World.cell?_alloc_at _ _ _ _ (by simp)]; rfl)
      have tb4 : (W2.alloc (.cells #[.int .i64 t.sig, .int .i64 t.pct, .int .i64 t.amt, .bool t.soft, .int .i64 t.grace] 40)).cell? ⟨W2.heap.size, 4, none⟩ = some (.int .i64 t.grace) := by first | (simp; done) | (rw [World.cell?_alloc_at _ _ _ _ (by simp)]; rfl) | (rw [World.cell?_alloc_past _ _ _ (by simp <;> omega), World.cell?_alloc_at _ _ _ _ (by simp)]; rfl) | (rw [World.cell?_alloc_past _ _ _ (by simp <;> omega), World.cell?_alloc_past _ _ _ (by simp <;> omega), World.cell?_alloc_at _ _ _ _ (by simp)]; rfl)
      have hb2 := (by repeat (first | exact hbel | refine belAlloc ?_ _ | refine belDrew ?_ | refine belSet ?_ _ _ (by simp)) : Below W2.heap.size W2 (W2.alloc (.cells #[.int .i64 t.sig, .int .i64 t.pct, .int .i64 t.amt, .bool t.soft, .int .i64 t.grace] 40)))
      replace ta0 := keepOnP ta0 hb2
      replace ta1 := keepOnP ta1 hb2
      replace ta2 := keepOnP ta2 hb2
      replace ta3 := keepOnP ta3 hb2
      replace ta4 := keepOnP ta4 hb2
      replace hw := belStep hw hb2
      clear hb2 hbel
      generalize W2.alloc (.cells #[.int .i64 t.sig, .int .i64 t.pct, .int .i64 t.amt, .bool t.soft, .int .i64 t.grace] 40) = W3 at *
      replace tb0 := keep tb0
      replace tb1 := keep tb1
      replace tb2 := keep tb2
      replace tb3 := keep tb3
      replace tb4 := keep tb4
      generalize W2.heap.size = P2 at *
      have hbel : Below W3.heap.size W3 W3 := Below.refl _ _
      skip
      go_wp2_with (first | (go_at_call 25; (with_reducible refine (CSs.out _).mono ?_); rintro e w' ⟨rfl, rfl⟩))
      go_ret
      exact ⟨rfl, belStep hw hbel⟩

set_option maxRecDepth 100000 in
theorem door_met (os : Os) (args : Array Value) : laidMet Tryd.prog Rows.threshReadsRow.laid ((World.doorLaid Tryd.prog 400 os).forCall (fun _ _ => 0) ⟨#[], args, []⟩).memory :=
  laidMet_of_run' 8 (by kernel_rfl) (by kernel_rfl)
set_option maxRecDepth 100000 in
theorem lifted (os : Os) (started : os.Started) (H : Type) (enc : TypeId × Value → H) :
    ReturnsInHanded {} Tryd.checked os 8 .any (fun w args => (Rows.threshReadsSpec.pre enc Tryd.prog Tryd.f8 [] false w args ∧ laidMetH Tryd.prog Rows.threshReadsRow.laid w) ∧ sizedMet enc Tryd.prog Tryd.f8 (OpenSpec.ofChange Rows.threshReadsSpec) false w args) (Rows.threshReadsSpec.post enc Tryd.prog Tryd.f8 false true false false) := by
  refine returnsInHanded_of_change_and_shaped (C := Tryd.checked) (X := fun w _ => laidMetH Tryd.prog Rows.threshReadsRow.laid w) (fun _ _ _ hh h => h.of_heap hh) own started (by kernel_rfl) Tryd.func8
    (ChangeSpec.witness_shaped (enc := enc) (C := Tryd.checked) (os := os) (X := fun w _ => laidMetH Tryd.prog Rows.threshReadsRow.laid w) false (World.doorLaid Tryd.prog 400 os) #[.string ByteArray.empty] 8 rfl (World.shaped_of_RefB (by kernel_rfl) (by kernel_rfl)) (by kernel_rfl) (by kernel_rfl) (by kernel_rfl) (by rw [MakeChecks.laidMetH_plain _ _ _ (by kernel_rfl)]; exact door_met os _)) ?_
  intro W base args ds gs before hval0 hW hL hsh
  rw [MakeChecks.laidMetH_plain _ _ _ (by kernel_rfl)] at hL
  have ht : Env W := env_of hL hsh
  clear hL
  have hval : ∀ (j : Nat) t v, Tryd.f8.params[j]? = some t → args[j]? = some v → Value.okWide Tryd.prog W .any base t v := hval0
  have hW' := hW
  obtain ⟨p, q, hA0, hV, rfl, hfz, hnd⟩ := hW
  have hA : DataW.TrodAll enc Tryd.prog W 0 (fun _ => true) true Tryd.f8.params.toList args.toList ds p := hA0
  rw [Tryd.params8] at hA hval
  obtain ⟨v0, vs0, d0, ds0, p0, q0, hargs, rfl, rfl, h0, r0⟩ := trodAll_cons hA
  obtain ⟨rfl, rfl, rfl⟩ := trodAll_nil r0
  obtain rfl : args = #[v0] := by cases args; simp_all
  obtain ⟨rfl, rfl⟩ := trodVars_none hV
  have k0 := h0
  have lt0 : ∀ x ∈ p0, x.block < W.heap.size := by obtain ⟨m, hm⟩ := k0; exact DataW.trod_lt m _ _ _ hm
  have o0 : Value.okWide Tryd.prog W .any base 9 v0 := hval 0 9 v0 rfl rfl
  obtain ⟨a0, rfl, rfl, rfl, w0⟩ := open_string Tryd.underlying9 o0 h0
  clear hA0 hval0
  refine (walk a0 W ht w0).mono fun e W' ⟨he, bel⟩ => ?_
  subst he
  exact ⟨_, rfl, _, _, _, [], _, [], hW', trodAll_mk1 (shut_bool Tryd.underlying4 _), (trodAll_cons_mk (Below.trod laidOut (by kernel_rfl) (of_decide_eq_true (by kernel_rfl)) k0 bel lt0) trodAll_mk0), rfl, bel.frame _, fun h => by cases h⟩

theorem over : Rows.threshReadsRow.holds Tryd.pinned (OpenSpec.ofChange Rows.threshReadsSpec) :=
  OpenClaim.holds_of_wide 8 Tryd.f8 rfl rfl rfl rfl rfl rfl rfl ⟨rfl, rfl, rfl, rfl, rfl⟩ rfl rfl rfl rfl rfl (by kernel_rfl) Tryd.func8 (by kernel_rfl)
    (of_decide_eq_true (by kernel_rfl)) (by unfold Func.isWrapper; first | (rw [if_pos (by decide +kernel)]; kernel_rfl) | (rw [if_neg (by decide +kernel)]; exact ⟨rfl, rfl⟩))
    (fun os started H enc _ => lifted os started H enc)

/-- The statement. -/
theorem proved : Rows.ThreshReadsCardSaid :=
  Claim7.holds_tied_plain_at .later [] Rows.threshReadsCard.laidKinds true Rows.threshReadsCard.stood.harness true
    over (fun _ h => by cases h) (by kernel_rfl) (fun _ h => by cases h) threshReads_row_tie rfl ⟨rfl, rfl⟩ (by kernel_rfl) rfl
    (fun f fn hf hfn => by
      obtain rfl : f = 8 := Option.some.inj ((show Tryd.prog.funcNamed Rows.threshReadsRow.func = some 8 by kernel_rfl).symm.trans hf) |>.symm
      obtain rfl : fn = Tryd.f8 := (Option.some.inj (Tryd.func8.symm.trans hfn)).symm
      exact ⟨by kernel_rfl, fun j t ht => by
        rw [Tryd.params8] at ht
        have hm : t ∈ [9] := by simpa using Array.mem_of_getElem? ht
        have hall : ([9].all fun u => !Tryd.prog.wantsStandIn u) = true := by kernel_rfl
        exact (show Tryd.prog.wantsStandIn t = false by simpa using List.all_eq_true.1 hall t hm)⟩)
    (by kernel_rfl)
#print axioms proved

end Go.Proofs.YtiaemcejgjobiaaDoor.threshReads
