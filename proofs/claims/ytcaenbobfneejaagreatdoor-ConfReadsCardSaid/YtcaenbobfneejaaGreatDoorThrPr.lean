
/- thresh.Right in general; thresh.Print and the reference's Print of a right threshold: contracts. -/
import Derived.Test.YtcaenbobfneejaaGreatDoorThrBackM
namespace Go.Proofs.YtcaenbobfneejaaGreatDoor
open Go.RowKit
set_option linter.unusedVariables false
set_option linter.unusedSimpArgs false
set_option maxRecDepth 100000 in
set_option maxHeartbeats 4000000 in
theorem thr_RightAny (sg pc am gr : Int) (so : Bool) (w : World) : Calls Tryz.prog 48 #[.agg #[.int .i64 sg, .int .i64 pc, .int .i64 am, .bool so, .int .i64 gr]] w fun e w' => e = .returned (.bool (⟨sg, pc, am, so, gr⟩ : ThrV).right) ∧ Below w.heap.size w w' := by
  have hw : Below w.heap.size w w := Below.refl _ _
  have hbel := hw
  have CW := fun u => thr_within pc 100 u
  have CG := Lib.hid (fun u => thr_within gr 1000 u)
  have hs : ∃ s : ByteArray, (s = ⟨#[109, 101, 109, 111, 114, 121]⟩ ∧ (decide (0 ≤ sg) && decide (sg ≤ 2)) = true ∨ s = ⟨#[100, 105, 115, 107]⟩ ∧ (decide (0 ≤ sg) && decide (sg ≤ 2)) = true ∨ s = ⟨#[112, 105, 100]⟩ ∧ (decide (0 ≤ sg) && decide (sg ≤ 2)) = true ∨ s = ⟨#[]⟩ ∧ (decide (0 ≤ sg) && decide (sg ≤ 2)) = false) ∧ ∀ u, Calls Tryz.prog 43 #[.int .i64 sg] u fun e w' => e = .returned (.string s) ∧ u = w' := by
    refine ⟨wB sg, ?_, fun u => thr_word sg u⟩
    by_cases h0 : sg = 0
    · subst h0; exact .inl ⟨rfl, rfl⟩
    by_cases h1 : sg = 1
    · subst h1; exact .inr (.inl ⟨rfl, rfl⟩)
    by_cases h2 : sg = 2
    · subst h2; exact .inr (.inr (.inl ⟨rfl, rfl⟩))
    · refine .inr (.inr (.inr ⟨by unfold wB; rw [if_neg h0, if_neg h1, if_neg h2], ?_⟩))
      rw [← Bool.decide_and]
      exact decide_eq_false (by omega)
  have HR : (⟨sg, pc, am, so, gr⟩ : ThrV).right = ((decide (0 ≤ sg) && decide (sg ≤ 2)) && ((decide (1 ≤ pc) && decide (pc ≤ 100) && am == 0) || (pc == 0 && decide (0 < am))) && (if so then decide (1 ≤ gr) && decide (gr ≤ 1000) else gr == 0)) := rfl
  have key : ((decide (1 ≤ pc) && decide (pc ≤ 100)) = true ∧ (am == 0) = true ∧ (pc == 0) = false) ∨ ((decide (1 ≤ pc) && decide (pc ≤ 100)) = true ∧ (am == 0) = false ∧ (pc == 0) = false) ∨ ((decide (1 ≤ pc) && decide (pc ≤ 100)) = false ∧ (pc == 0) = true ∧ decide (0 < am) = true) ∨ ((decide (1 ≤ pc) && decide (pc ≤ 100)) = false ∧ (pc == 0) = true ∧ decide (0 < am) = false) ∨ ((decide (1 ≤ pc) && decide (pc ≤ 100)) = false ∧ (pc == 0) = false) := by
    have e1 : (decide (1 ≤ pc) && decide (pc ≤ 100)) = decide (1 ≤ pc ∧ pc ≤ 100) := (Bool.decide_and _ _).symm
    rw [e1]
    simp only [decide_eq_true_eq, decide_eq_false_iff_not, beq_iff_eq, beq_eq_false_iff_ne]
    omega
  generalize (⟨sg, pc, am, so, gr⟩ : ThrV).right = res at *
  generalize (decide (0 ≤ sg) && decide (sg ≤ 2)) = bs at *
  generalize (decide (1 ≤ pc) && decide (pc ≤ 100)) = bp at *
  generalize (decide (1 ≤ gr) && decide (gr ≤ 1000)) = bg at *
  obtain ⟨s, hs, CX⟩ := hs
  have HX := Lib.hid CX
  clear CX
  cases so
  · rcases key with ⟨rfl, k2, k3⟩ | ⟨rfl, k2, k3⟩ | ⟨rfl, k2, k3⟩ | ⟨rfl, k2, k3⟩ | ⟨rfl, k2⟩ <;> rcases hs with ⟨rfl, rfl⟩ | ⟨rfl, rfl⟩ | ⟨rfl, rfl⟩ | ⟨rfl, rfl⟩
    all_goals
      have HW := Lib.hid CW
      clear CW
      simp only [k2, Bool.true_and, Bool.false_and, Bool.and_true, Bool.and_false, Bool.or_false, Bool.or_true, Bool.true_or, if_true, if_false, Bool.false_eq_true] at HR
      try simp only [k3, Bool.true_and, Bool.false_and, Bool.and_true, Bool.and_false, Bool.or_false, Bool.or_true, Bool.true_or] at HR
      have HRR := Lib.hid HR
      clear HR
      go_enter Tryz.func48, Tryz.ntmps48
      go_upto_region 1 with fail
      have tt0 : (w.alloc (.cells #[.int .i64 sg, .int .i64 pc, .int .i64 am, .bool false, .int .i64 gr] 54)).cell? ⟨w.heap.size, 0, none⟩ = some (.int .i64 sg) := by first | (simp; done) | (rw [World.cell?_alloc_at _ _ _ _ (by simp)]; rfl) | (rw [World.cell?_alloc_past _ _ _ (by simp <;> omega), World.cell?_alloc_at _ _ _ _ (by simp)]; rfl) | (rw [World.cell?_alloc_past _ _ _ (by simp <;> omega), World.cell?_alloc_past _ _ _ (by simp <;> omega), World.cell?_alloc_at _ _ _ _ (by simp)]; rfl)
      have tt1 : (w.alloc (.cells #[.int .i64 sg, .int .i64 pc, .int .i64 am, .bool false, .int .i64 gr] 54)).cell? ⟨w.heap.size, 1, none⟩ = some (.int .i64 pc) := by first | (simp; done) | (rw [World.cell?_alloc_at _ _ _ _ (by simp)]; rfl) | (rw [World.cell?_alloc_past _ _ _ (by simp <;> omega), World.cell?_alloc_at _ _ _ _ (by simp)]; rfl) | (rw [World.cell?_alloc_past _ _ _ (by simp <;> omega), World.cell?_alloc_past _ _ _ (by simp <;> omega), World.cell?_alloc_at _ _ _ _ (by simp)]; rfl)
      have tt2 : (w.alloc (.cells #[.int .i64 sg, .int .i64 pc, .int .i64 am, .bool false, .int .i64 gr] 54)).cell? ⟨w.heap.size, 2, none⟩ = some (.int .i64 am) := by first | (simp; done) | (rw [World.cell?_alloc_at _ _ _ _ (by simp)]; rfl) | (rw [World.cell?_alloc_past _ _ _ (by simp <;> omega), World.cell?_alloc_at _ _ _ _ (by simp)]; rfl) | (rw [World.cell?_alloc_past _ _ _ (by simp <;> omega), World.cell?_alloc_past _ _ _ (by simp <;> omega), World.cell?_alloc_at _ _ _ _ (by simp)]; rfl)
      have tt3 : (w.alloc (.cells #[.int .i64 sg, .int .i64 pc, .int .i64 am, .bool false, .int .i64 gr] 54)).cell? ⟨w.heap.size, 3, none⟩ = some (.bool false) := by first | (simp; done) | (rw [World.cell?_alloc_at _ _ _ _ (by simp)]; rfl) | (rw [World.cell?_alloc_past _ _ _ (by simp <;> omega), World.cell?_alloc_at _ _ _ _ (by simp)]; rfl) | (rw [World.cell?_alloc_past _ _ _ (by simp <;> omega), World.cell?_alloc_past _ _ _ (by simp <;> omega), World.cell?_alloc_at _ _ _ _ (by simp)]; rfl)
      have tt4 : (w.alloc (.cells #[.int .i64 sg, .int .i64 pc, .int .i64 am, .bool false, .int .i64 gr] 54)).cell? ⟨w.heap.size, 4, none⟩ = some (.int .i64 gr) := by first | (simp; done) | (rw [World.cell?_alloc_at _ _ _ _ (by simp)]; rfl) | (rw [World.cell?_alloc_past _ _ _ (by simp <;> omega), World.cell?_alloc_at _ _ _ _ (by simp)]; rfl) | (rw [World.cell?_alloc_past _ _ _ (by simp <;> omega), World.cell?_alloc_past _ _ _ (by simp <;> omega), World.cell?_alloc_at _ _ _ _ (by simp)]; rfl)
      have hb2 := (by repeat (first | exact hbel | refine belAlloc ?_ _ | refine belDrew ?_ | refine belSet ?_ _ _ (by simp)) : Below w.heap.size w (w.alloc (.cells #[.int .i64 sg, .int .i64 pc, .int .i64 am, .bool false, .int .i64 gr] 54)))
      replace hw := belStep hw hb2
      clear hb2 hbel
      generalize w.alloc (.cells #[.int .i64 sg, .int .i64 pc, .int .i64 am, .bool false, .int .i64 gr] 54) = W1 at *
      replace tt0 := keep tt0
      replace tt1 := keep tt1
      replace tt2 := keep tt2
      replace tt3 := keep tt3
      replace tt4 := keep tt4
      have hbel : Below W1.heap.size W1 W1 := Below.refl _ _
      skip
      go_wp2_with (first | (go_at_call 64; (with_reducible refine (HW.out _).mono ?_); rintro e w' ⟨rfl, rfl⟩) | (go_at_call 64; (with_reducible refine (CG.out _).mono ?_); rintro e w' ⟨rfl, rfl⟩) | (go_at_call 43; (with_reducible refine (HX.out _).mono ?_); rintro e w' ⟨rfl, rfl⟩))
      go_ret
      exact ⟨by rw [HRR.out]; try rfl, belStep hw hbel⟩
  · rcases key with ⟨rfl, k2, k3⟩ | ⟨rfl, k2, k3⟩ | ⟨rfl, k2, k3⟩ | ⟨rfl, k2, k3⟩ | ⟨rfl, k2⟩ <;> rcases hs with ⟨rfl, rfl⟩ | ⟨rfl, rfl⟩ | ⟨rfl, rfl⟩ | ⟨rfl, rfl⟩
    all_goals
      have HW := Lib.hid CW
      clear CW
      simp only [k2, Bool.true_and, Bool.false_and, Bool.and_true, Bool.and_false, Bool.or_false, Bool.or_true, Bool.true_or, if_true, if_false, Bool.false_eq_true] at HR
      try simp only [k3, Bool.true_and, Bool.false_and, Bool.and_true, Bool.and_false, Bool.or_false, Bool.or_true, Bool.true_or] at HR
      have HRR := Lib.hid HR
      clear HR
      go_enter Tryz.func48, Tryz.ntmps48
      go_upto_region 1 with fail
      have tt0 : (w.alloc (.cells #[.int .i64 sg, .int .i64 pc, .int .i64 am, .bool true, .int .i64 gr] 54)).cell? ⟨w.heap.size, 0, none⟩ = some (.int .i64 sg) := by first | (simp; done) | (rw [World.cell?_alloc_at _ _ _ _ (by simp)]; rfl) | (rw [World.cell?_alloc_past _ _ _ (by simp <;> omega), World.cell?_alloc_at _ _ _ _ (by simp)]; rfl) | (rw [World.cell?_alloc_past _ _ _ (by simp <;> omega), World.cell?_alloc_past _ _ _ (by simp <;> omega), World.cell?_alloc_at _ _ _ _ (by simp)]; rfl)
      have tt1 : (w.alloc (.cells #[.int .i64 sg, .int .i64 pc, .int .i64 am, .bool true, .int .i64 gr] 54)).cell? ⟨w.heap.size, 1, none⟩ = some (.int .i64 pc) := by first | (simp; done) | (rw [World.cell?_alloc_at _ _ _ _ (by simp)]; rfl) | (rw [World.cell?_alloc_past _ _ _ (by simp <;> omega), World.cell?_alloc_at _ _ _ _ (by simp)]; rfl) | (rw [World.cell?_alloc_past _ _ _ (by simp <;> omega), World.cell?_alloc_past _ _ _ (by simp <;> omega), World.cell?_alloc_at _ _ _ _ (by simp)]; rfl)
      have tt2 : (w.alloc (.cells #[.int .i64 sg, .int .i64 pc, .int .i64 am, .bool true, .int .i64 gr] 54)).cell? ⟨w.heap.size, 2, none⟩ = some (.int .i64 am) := by first | (simp; done) | (rw [World.cell?_alloc_at _ _ _ _ (by simp)]; rfl) | (rw [World.cell?_alloc_past _ _ _ (by simp <;> omega), World.cell?_alloc_at _ _ _ _ (by simp)]; rfl) | (rw [World.cell?_alloc_past _ _ _ (by simp <;> omega), World.cell?_alloc_past _ _ _ (by simp <;> omega), World.cell?_alloc_at _ _ _ _ (by simp)]; rfl)
      have tt3 : (w.alloc (.cells #[.int .i64 sg, .int .i64 pc, .int .i64 am, .bool true, .int .i64 gr] 54)).cell? ⟨w.heap.size, 3, none⟩ = some (.bool true) := by first | (simp; done) | (rw [World.cell?_alloc_at _ _ _ _ (by simp)]; rfl) | (rw [World.cell?_alloc_past _ _ _ (by simp <;> omega), World.cell?_alloc_at _ _ _ _ (by simp)]; rfl) | (rw [World.cell?_alloc_past _ _ _ (by simp <;> omega), World.cell?_alloc_past _ _ _ (by simp <;> omega), World.cell?_alloc_at _ _ _ _ (by simp)]; rfl)
      have tt4 : (w.alloc (.cells #[.int .i64 sg, .int .i64 pc, .int .i64 am, .bool true, .int .i64 gr] 54)).cell? ⟨w.heap.size, 4, none⟩ = some (.int .i64 gr) := by first | (simp; done) | (rw [World.cell?_alloc_at _ _ _ _ (by simp)]; rfl) | (rw [World.cell?_alloc_past _ _ _ (by simp <;> omega), World.cell?_alloc_at _ _ _ _ (by simp)]; rfl) | (rw [World.cell?_alloc_past _ _ _ (by simp <;> omega), World.cell?_alloc_past _ _ _ (by simp <;> omega), World.cell?_alloc_at _ _ _ _ (by simp)]; rfl)
      have hb2 := (by repeat (first | exact hbel | refine belAlloc ?_ _ | refine belDrew ?_ | refine belSet ?_ _ _ (by simp)) : Below w.heap.size w (w.alloc (.cells #[.int .i64 sg, .int .i64 pc, .int .i64 am, .bool true, .int .i64 gr] 54)))
      replace hw := belStep hw hb2
      clear hb2 hbel
      generalize w.alloc (.cells #[.int .i64 sg, .int .i64 pc, .int .i64 am, .bool true, .int .i64 gr] 54) = W1 at *
      replace tt0 := keep tt0
      replace tt1 := keep tt1
      replace tt2 := keep tt2
      replace tt3 := keep tt3
      replace tt4 := keep tt4
      have hbel : Below W1.heap.size W1 W1 := Below.refl _ _
      skip
      go_wp2_with (first | (go_at_call 64; (with_reducible refine (HW.out _).mono ?_); rintro e w' ⟨rfl, rfl⟩) | (go_at_call 64; (with_reducible refine (CG.out _).mono ?_); rintro e w' ⟨rfl, rfl⟩) | (go_at_call 43; (with_reducible refine (HX.out _).mono ?_); rintro e w' ⟨rfl, rfl⟩))
      go_ret
      exact ⟨by rw [HRR.out]; try rfl, belStep hw hbel⟩
theorem app_size6 (a b : ByteArray) : (a ++ b).size = a.size + b.size := by
  rw [← sl_len, app_l, List.length_append, sl_len, sl_len]
theorem app_assoc6 (a b c : ByteArray) : a ++ b ++ c = a ++ (b ++ c) := by
  have h := fun x y : ByteArray => (fun h : x.toList = y.toList => by rw [← bAt_of x, ← bAt_of y, h] : x.toList = y.toList → x = y)
  exact h _ _ (by rw [app_l, app_l, app_l, app_l, List.append_assoc])
set_option maxRecDepth 100000 in
set_option maxHeartbeats 4000000 in
theorem thr_Print (t : ThrV) (w : World) (hr : t.right = true) (ha : InI t.amt) (ht : Tab w) : Calls Tryz.prog 24 #[.agg #[.int .i64 t.sig, .int .i64 t.pct, .int .i64 t.amt, .bool t.soft, .int .i64 t.grace]] w fun e w' => e = .returned (.string (prThr t)) ∧ Below w.heap.size w w' := by
  obtain ⟨h1, h2, h3⟩ := right_parts hr
  obtain ⟨sg, pc, am, so, gr⟩ := t
  simp only at h1 h2 h3 ha ⊢
  have HP := Lib.hid (show prThr ⟨sg, pc, am, so, gr⟩ = wB sg ++ ⟨#[60]⟩ ++ (if 0 < pc then ddB pc.toNat ++ ⟨#[37]⟩ else prAll am) ++ (if so then ⟨#[58]⟩ ++ ddB gr.toNat else ⟨#[]⟩) from rfl)
  generalize prThr ⟨sg, pc, am, so, gr⟩ = res at *
  clear hr
  have hw : Below w.heap.size w w := Below.refl _ _
  have hbel := hw
  have zw : (wB sg).size ≤ 6 := by
    obtain ⟨k, hk⟩ : ∃ k : Nat, sg = k := ⟨sg.toNat, by omega⟩
    rw [hk]; exact (word_facts k (by omega)).2.2
  have HX := Lib.hid (fun u => thr_word sg u)
  have hgr : 0 ≤ gr ∧ gr ≤ 1000 := by omega
  have hpc : 0 ≤ pc ∧ pc ≤ 100 := by omega
  have HI := Lib.hid (fun u (hu : Below w.heap.size w u) => itoa_any pc (by omega) (by omega) u (ht.later hu))
  have HJ := Lib.hid (fun u (hu : Below w.heap.size w u) => itoa_any gr (by omega) (by omega) u (ht.later hu))
  have z1 := ddB_size pc.toNat (by omega)
  have z2 := ddB_size gr.toNat (by omega)
  have l1 : (⟨#[60]⟩ : ByteArray).size = 1 := by decide
  have l2 : (⟨#[37]⟩ : ByteArray).size = 1 := by decide
  have l3 : (⟨#[58]⟩ : ByteArray).size = 1 := by decide
  generalize wB sg = wd at *
  generalize ddB pc.toNat = d1 at *
  generalize ddB gr.toNat = d2 at *
  rcases h2 with ⟨p1, p2, rfl⟩ | ⟨rfl, p1⟩
  · have hp0 : 0 < pc := by omega
    have hp1 : decide (0 < pc) = true := decide_eq_true hp0
    rw [if_pos hp0] at HP
    rcases h3 with ⟨rfl, g1, g2⟩ | ⟨rfl, rfl⟩
    · rw [if_pos rfl] at HP
      have HQ := Lib.hid (show res = wd ++ (⟨#[60]⟩ ++ (d1 ++ (⟨#[37]⟩ ++ (⟨#[58]⟩ ++ d2)))) from by rw [HP.out]; simp only [app_assoc6, app_nil])
      go_enter Tryz.func24, Tryz.ntmps24
      go_upto_region 1 with fail
      have tt0 : (w.alloc (.cells #[.int .i64 sg, .int .i64 pc, .int .i64 0, .bool true, .int .i64 gr] 54)).cell? ⟨w.heap.size, 0, none⟩ = some (.int .i64 sg) := by first | (simp; done) | (rw [World.cell?_alloc_at _ _ _ _ (by simp)]; rfl) | (rw [World.cell?_alloc_past _ _ _ (by simp <;> omega), World.cell?_alloc_at _ _ _ _ (by simp)]; rfl) | (rw [World.cell?_alloc_past _ _ _ (by simp <;> omega), World.cell?_alloc_past _ _ _ (by simp <;> omega), World.cell?_alloc_at _ _ _ _ (by simp)]; rfl)
      have tt1 : (w.alloc (.cells #[.int .i64 sg, .int .i64 pc, .int .i64 0, .bool true, .int .i64 gr] 54)).cell? ⟨w.heap.size, 1, none⟩ = some (.int .i64 pc) := by first | (simp; done) | (rw [World.cell?_alloc_at _ _ _ _ (by simp)]; rfl) | (rw [World.cell?_alloc_past _ _ _ (by simp <;> omega), World.cell?_alloc_at _ _ _ _ (by simp)]; rfl) | (rw [World.cell?_alloc_past _ _ _ (by simp <;> omega), World.cell?_alloc_past _ _ _ (by simp <;> omega), World.cell?_alloc_at _ _ _ _ (by simp)]; rfl)
      have tt2 : (w.alloc (.cells #[.int .i64 sg, .int .i64 pc, .int .i64 0, .bool true, .int .i64 gr] 54)).cell? ⟨w.heap.size, 2, none⟩ = some (.int .i64 0) := by first | (simp; done) | (rw [World.cell?_alloc_at _ _ _ _ (by simp)]; rfl) | (rw [World.cell?_alloc_past _ _ _ (by simp <;> omega), World.cell?_alloc_at _ _ _ _ (by simp)]; rfl) | (rw [World.cell?_alloc_past _ _ _ (by simp <;> omega), World.cell?_alloc_past _ _ _ (by simp <;> omega), World.cell?_alloc_at _ _ _ _ (by simp)]; rfl)
      have tt3 : (w.alloc (.cells #[.int .i64 sg, .int .i64 pc, .int .i64 0, .bool true, .int .i64 gr] 54)).cell? ⟨w.heap.size, 3, none⟩ = some (.bool true) := by first | (simp; done) | (rw [World.cell?_alloc_at _ _ _ _ (by simp)]; rfl) | (rw [World.cell?_alloc_past _ _ _ (by simp <;> omega), World.cell?_alloc_at _ _ _ _ (by simp)]; rfl) | (rw [World.cell?_alloc_past _ _ _ (by simp <;> omega), World.cell?_alloc_past _ _ _ (by simp <;> omega), World.cell?_alloc_at _ _ _ _ (by simp)]; rfl)
      have tt4 : (w.alloc (.cells #[.int .i64 sg, .int .i64 pc, .int .i64 0, .bool true, .int .i64 gr] 54)).cell? ⟨w.heap.size, 4, none⟩ = some (.int .i64 gr) := by first | (simp; done) | (rw [World.cell?_alloc_at _ _ _ _ (by simp)]; rfl) | (rw [World.cell?_alloc_past _ _ _ (by simp <;> omega), World.cell?_alloc_at _ _ _ _ (by simp)]; rfl) | (rw [World.cell?_alloc_past _ _ _ (by simp <;> omega), World.cell?_alloc_past _ _ _ (by simp <;> omega), World.cell?_alloc_at _ _ _ _ (by simp)]; rfl)
      have hb2 := (by repeat (first | exact hbel | refine belAlloc ?_ _ | refine belDrew ?_ | refine belSet ?_ _ _ (by simp)) : Below w.heap.size w (w.alloc (.cells #[.int .i64 sg, .int .i64 pc, .int .i64 0, .bool true, .int .i64 gr] 54)))
      replace hw := belStep hw hb2
      clear hb2 hbel
      generalize w.alloc (.cells #[.int .i64 sg, .int .i64 pc, .int .i64 0, .bool true, .int .i64 gr] 54) = W1 at *
      replace tt0 := keep tt0
      replace tt1 := keep tt1
      replace tt2 := keep tt2
      replace tt3 := keep tt3
      replace tt4 := keep tt4
      have hbel : Below W1.heap.size W1 W1 := Below.refl _ _
      skip
      go_wp2_with (first | (go_at_call 43; (with_reducible refine (HX.out _).mono ?_); rintro e w' ⟨rfl, rfl⟩) | (go_at_call 44; (with_reducible refine (HI.out _ (belStep hw hbel)).mono ?_); rintro e w1 ⟨rfl, hb1⟩; replace hbel := belStep hbel hb1; clear hb1) | (go_at_call 44; (with_reducible refine (HJ.out _ (belStep hw hbel)).mono ?_); rintro e w1 ⟨rfl, hb1⟩; replace hbel := belStep hbel hb1; clear hb1))
      go_ret
      exact ⟨by rw [HQ.out]; first | rfl | (show Ending.returned (Value.string _) = _; simp only [app_assoc6, app_nil]), belStep hw hbel⟩
    · rw [if_neg (by simp)] at HP
      have HQ := Lib.hid (show res = wd ++ (⟨#[60]⟩ ++ (d1 ++ ⟨#[37]⟩)) from by rw [HP.out]; simp only [app_assoc6, app_nil])
      go_enter Tryz.func24, Tryz.ntmps24
      go_upto_region 1 with fail
      have tt0 : (w.alloc (.cells #[.int .i64 sg, .int .i64 pc, .int .i64 0, .bool false, .int .i64 0] 54)).cell? ⟨w.heap.size, 0, none⟩ = some (.int .i64 sg) := by first | (simp; done) | (rw [World.cell?_alloc_at _ _ _ _ (by simp)]; rfl) | (rw [World.cell?_alloc_past _ _ _ (by simp <;> omega), World.cell?_alloc_at _ _ _ _ (by simp)]; rfl) | (rw [World.cell?_alloc_past _ _ _ (by simp <;> omega), World.cell?_alloc_past _ _ _ (by simp <;> omega), World.cell?_alloc_at _ _ _ _ (by simp)]; rfl)
      have tt1 : (w.alloc (.cells #[.int .i64 sg, .int .i64 pc, .int .i64 0, .bool false, .int .i64 0] 54)).cell? ⟨w.heap.size, 1, none⟩ = some (.int .i64 pc) := by first | (simp; done) | (rw [World.cell?_alloc_at _ _ _ _ (by simp)]; rfl) | (rw [World.cell?_alloc_past _ _ _ (by simp <;> omega), World.cell?_alloc_at _ _ _ _ (by simp)]; rfl) | (rw [World.cell?_alloc_past _ _ _ (by simp <;> omega), World.cell?_alloc_past _ _ _ (by simp <;> omega), World.cell?_alloc_at _ _ _ _ (by simp)]; rfl)
      have tt2 : (w.alloc (.cells #[.int .i64 sg, .int .i64 pc, .int .i64 0, .bool false, .int .i64 0] 54)).cell? ⟨w.heap.size, 2, none⟩ = some (.int .i64 0) := by first | (simp; done) | (rw [World.cell?_alloc_at _ _ _ _ (by simp)]; rfl) | (rw [World.cell?_alloc_past _ _ _ (by simp <;> omega), World.cell?_alloc_at _ _ _ _ (by simp)]; rfl) | (rw [World.cell?_alloc_past _ _ _ (by simp <;> omega), World.cell?_alloc_past _ _ _ (by simp <;> omega), World.cell?_alloc_at _ _ _ _ (by simp)]; rfl)
      have tt3 : (w.alloc (.cells #[.int .i64 sg, .int .i64 pc, .int .i64 0, .bool false, .int .i64 0] 54)).cell? ⟨w.heap.size, 3, none⟩ = some (.bool false) := by first | (simp; done) | (rw [World.cell?_alloc_at _ _ _ _ (by simp)]; rfl) | (rw [World.cell?_alloc_past _ _ _ (by simp <;> omega), World.cell?_alloc_at _ _ _ _ (by simp)]; rfl) | (rw [World.cell?_alloc_past _ _ _ (by simp <;> omega), World.cell?_alloc_past _ _ _ (by simp <;> omega), World.cell?_alloc_at _ _ _ _ (by simp)]; rfl)
      have tt4 : (w.alloc (.cells #[.int .i64 sg, .int .i64 pc, .int .i64 0, .bool false, .int .i64 0] 54)).cell? ⟨w.heap.size, 4, none⟩ = some (.int .i64 0) := by first | (simp; done) | (rw [World.cell?_alloc_at _ _ _ _ (by simp)]; rfl) | (rw [World.cell?_alloc_past _ _ _ (by simp <;> omega), World.cell?_alloc_at _ _ _ _ (by simp)]; rfl) | (rw [World.cell?_alloc_past _ _ _ (by simp <;> omega), World.cell?_alloc_past _ _ _ (by simp <;> omega), World.cell?_alloc_at _ _ _ _ (by simp)]; rfl)
      have hb2 := (by repeat (first | exact hbel | refine belAlloc ?_ _ | refine belDrew ?_ | refine belSet ?_ _ _ (by simp)) : Below w.heap.size w (w.alloc (.cells #[.int .i64 sg, .int .i64 pc, .int .i64 0, .bool false, .int .i64 0] 54)))
      replace hw := belStep hw hb2
      clear hb2 hbel
      generalize w.alloc (.cells #[.int .i64 sg, .int .i64 pc, .int .i64 0, .bool false, .int .i64 0] 54) = W1 at *
      replace tt0 := keep tt0
      replace tt1 := keep tt1
      replace tt2 := keep tt2
      replace tt3 := keep tt3
      replace tt4 := keep tt4
      have hbel : Below W1.heap.size W1 W1 := Below.refl _ _
      skip
      go_wp2_with (first | (go_at_call 43; (with_reducible refine (HX.out _).mono ?_); rintro e w' ⟨rfl, rfl⟩) | (go_at_call 44; (with_reducible refine (HI.out _ (belStep hw hbel)).mono ?_); rintro e w1 ⟨rfl, hb1⟩; replace hbel := belStep hbel hb1; clear hb1))
      go_ret
      exact ⟨by rw [HQ.out]; first | rfl | (show Ending.returned (Value.string _) = _; simp only [app_assoc6, app_nil]), belStep hw hbel⟩
  · have HK := Lib.hid (fun u (hu : Below w.heap.size w u) => quant_Print am u ha (ht.later hu))
    have z3 := pr_size6 am ha.2 (by omega)
    rw [if_neg (by omega)] at HP
    generalize prAll am = pa at *
    rcases h3 with ⟨rfl, g1, g2⟩ | ⟨rfl, rfl⟩
    · rw [if_pos rfl] at HP
      have HQ := Lib.hid (show res = wd ++ (⟨#[60]⟩ ++ (pa ++ (⟨#[58]⟩ ++ d2))) from by rw [HP.out]; simp only [app_assoc6, app_nil])
      go_enter Tryz.func24, Tryz.ntmps24
      go_upto_region 1 with fail
      have tt0 : (w.alloc (.cells #[.int .i64 sg, .int .i64 0, .int .i64 am, .bool true, .int .i64 gr] 54)).cell? ⟨w.heap.size, 0, none⟩ = some (.int .i64 sg) := by first | (simp; done) | (rw [World.cell?_alloc_at _ _ _ _ (by simp)]; rfl) | (rw [World.cell?_alloc_past _ _ _ (by simp <;> omega), World.cell?_alloc_at _ _ _ _ (by simp)]; rfl) | (rw [World.cell?_alloc_past _ _ _ (by simp <;> omega), World.cell?_alloc_past _ _ _ (by simp <;> omega), World.cell?_alloc_at _ _ _ _ (by simp)]; rfl)
      have tt1 : (w.alloc (.cells #[.int .i64 sg, .int .i64 0, .int .i64 am, .bool true, .int .i64 gr] 54)).cell? ⟨w.heap.size, 1, none⟩ = some (.int .i64 0) := by first | (simp; done) | (rw [World.cell?_alloc_at _ _ _ _ (by simp)]; rfl) | (rw [World.cell?_alloc_past _ _ _ (by simp <;> omega), World.cell?_alloc_at _ _ _ _ (by simp)]; rfl) | (rw [World.cell?_alloc_past _ _ _ (by simp <;> omega), World.cell?_alloc_past _ _ _ (by simp <;> omega), World.cell?_alloc_at _ _ _ _ (by simp)]; rfl)
      have tt2 : (w.alloc (.cells #[.int .i64 sg, .int .i64 0, .int .i64 am, .bool true, .int .i64 gr] 54)).cell? ⟨w.heap.size, 2, none⟩ = some (.int .i64 am) := by first | (simp; done) | (rw [World.cell?_alloc_at _ _ _ _ (by simp)]; rfl) | (rw [World.cell?_alloc_past _ _ _ (by simp <;> omega), World.cell?_alloc_at _ _ _ _ (by simp)]; rfl) | (rw [World.cell?_alloc_past _ _ _ (by simp <;> omega), World.cell?_alloc_past _ _ _ (by simp <;> omega), World.cell?_alloc_at _ _ _ _ (by simp)]; rfl)
      have tt3 : (w.alloc (.cells #[.int .i64 sg, .int .i64 0, .int .i64 am, .bool true, .int .i64 gr] 54)).cell? ⟨w.heap.size, 3, none⟩ = some (.bool true) := by first | (simp; done) | (rw [World.cell?_alloc_at _ _ _ _ (by simp)]; rfl) | (rw [World.cell?_alloc_past _ _ _ (by simp <;> omega), World.cell?_alloc_at _ _ _ _ (by simp)]; rfl) | (rw [World.cell?_alloc_past _ _ _ (by simp <;> omega), World.cell?_alloc_past _ _ _ (by simp <;> omega), World.cell?_alloc_at _ _ _ _ (by simp)]; rfl)
      have tt4 : (w.alloc (.cells #[.int .i64 sg, .int .i64 0, .int .i64 am, .bool true, .int .i64 gr] 54)).cell? ⟨w.heap.size, 4, none⟩ = some (.int .i64 gr) := by first | (simp; done) | (rw [World.cell?_alloc_at _ _ _ _ (by simp)]; rfl) | (rw [World.cell?_alloc_past _ _ _ (by simp <;> omega), World.cell?_alloc_at _ _ _ _ (by simp)]; rfl) | (rw [World.cell?_alloc_past _ _ _ (by simp <;> omega), World.cell?_alloc_past _ _ _ (by simp <;> omega), World.cell?_alloc_at _ _ _ _ (by simp)]; rfl)
      have hb2 := (by repeat (first | exact hbel | refine belAlloc ?_ _ | refine belDrew ?_ | refine belSet ?_ _ _ (by simp)) : Below w.heap.size w (w.alloc (.cells #[.int .i64 sg, .int .i64 0, .int .i64 am, .bool true, .int .i64 gr] 54)))
      replace hw := belStep hw hb2
      clear hb2 hbel
      generalize w.alloc (.cells #[.int .i64 sg, .int .i64 0, .int .i64 am, .bool true, .int .i64 gr] 54) = W1 at *
      replace tt0 := keep tt0
      replace tt1 := keep tt1
      replace tt2 := keep tt2
      replace tt3 := keep tt3
      replace tt4 := keep tt4
      have hbel : Below W1.heap.size W1 W1 := Below.refl _ _
      skip
      go_wp2_with (first | (go_at_call 43; (with_reducible refine (HX.out _).mono ?_); rintro e w' ⟨rfl, rfl⟩) | (go_at_call 42; (with_reducible refine (HK.out _ (belStep hw hbel)).mono ?_); rintro e w1 ⟨rfl, hb1⟩; replace hbel := belStep hbel hb1; clear hb1) | (go_at_call 44; (with_reducible refine (HJ.out _ (belStep hw hbel)).mono ?_); rintro e w1 ⟨rfl, hb1⟩; replace hbel := belStep hbel hb1; clear hb1))
      go_ret
      exact ⟨by rw [HQ.out]; first | rfl | (show Ending.returned (Value.string _) = _; simp only [app_assoc6, app_nil]), belStep hw hbel⟩
    · rw [if_neg (by simp)] at HP
      have HQ := Lib.hid (show res = wd ++ (⟨#[60]⟩ ++ pa) from by rw [HP.out]; simp only [app_assoc6, app_nil])
      go_enter Tryz.func24, Tryz.ntmps24
      go_upto_region 1 with fail
      have tt0 : (w.alloc (.cells #[.int .i64 sg, .int .i64 0, .int .i64 am, .bool false, .int .i64 0] 54)).cell? ⟨w.heap.size, 0, none⟩ = some (.int .i64 sg) := by first | (simp; done) | (rw [World.cell?_alloc_at _ _ _ _ (by simp)]; rfl) | (rw [World.cell?_alloc_past _ _ _ (by simp <;> omega), World.cell?_alloc_at _ _ _ _ (by simp)]; rfl) | (rw [World.cell?_alloc_past _ _ _ (by simp <;> omega), World.cell?_alloc_past _ _ _ (by simp <;> omega), World.cell?_alloc_at _ _ _ _ (by simp)]; rfl)
      have tt1 : (w.alloc (.cells #[.int .i64 sg, .int .i64 0, .int .i64 am, .bool false, .int .i64 0] 54)).cell? ⟨w.heap.size, 1, none⟩ = some (.int .i64 0) := by first | (simp; done) | (rw [World.cell?_alloc_at _ _ _ _ (by simp)]; rfl) | (rw [World.cell?_alloc_past _ _ _ (by simp <;> omega), World.cell?_alloc_at _ _ _ _ (by simp)]; rfl) | (rw [World.cell?_alloc_past _ _ _ (by simp <;> omega), World.cell?_alloc_past _ _ _ (by simp <;> omega), World.cell?_alloc_at _ _ _ _ (by simp)]; rfl)
      have tt2 : (w.alloc (.cells #[.int .i64 sg, .int .i64 0, .int .i64 am, .bool false, .int .i64 0] 54)).cell? ⟨w.heap.size, 2, none⟩ = some (.int .i64 am) := by first | (simp; done) | (rw [World.cell?_alloc_at _ _ _ _ (by simp)]; rfl) | (rw [World.cell?_alloc_past _ _ _ (by simp <;> omega), World.cell?_alloc_at _ _ _ _ (by simp)]; rfl) | (rw [World.cell?_alloc_past _ _ _ (by simp <;> omega), World.cell?_alloc_past _ _ _ (by simp <;> omega), World.cell?_alloc_at _ _ _ _ (by simp)]; rfl)
      have tt3 : (w.alloc (.cells #[.int .i64 sg, .int .i64 0, .int .i64 am, .bool false, .int .i64 0] 54)).cell? ⟨w.heap.size, 3, none⟩ = some (.bool false) := by first | (simp; done) | (rw [World.cell?_alloc_at _ _ _ _ (by simp)]; rfl) | (rw [World.cell?_alloc_past _ _ _ (by simp <;> omega), World.cell?_alloc_at _ _ _ _ (by simp)]; rfl) | (rw [World.cell?_alloc_past _ _ _ (by simp <;> omega), World.cell?_alloc_past _ _ _ (by simp <;> omega), World.cell?_alloc_at _ _ _ _ (by simp)]; rfl)
      have tt4 : (w.alloc (.cells #[.int .i64 sg, .int .i64 0, .int .i64 am, .bool false, .int .i64 0] 54)).cell? ⟨w.heap.size, 4, none⟩ = some (.int .i64 0) := by first | (simp; done) | (rw [World.cell?_alloc_at _ _ _ _ (by simp)]; rfl) | (rw [World.cell?_alloc_past _ _ _ (by simp <;> omega), World.cell?_alloc_at _ _ _ _ (by simp)]; rfl) | (rw [World.cell?_alloc_past _ _ _ (by simp <;> omega), World.cell?_alloc_past _ _ _ (by simp <;> omega), World.cell?_alloc_at _ _ _ _ (by simp)]; rfl)
      have hb2 := (by repeat (first | exact hbel | refine belAlloc ?_ _ | refine belDrew ?_ | refine belSet ?_ _ _ (by simp)) : Below w.heap.size w (w.alloc (.cells #[.int .i64 sg, .int .i64 0, .int .i64 am, .bool false, .int .i64 0] 54)))
      replace hw := belStep hw hb2
      clear hb2 hbel
      generalize w.alloc (.cells #[.int .i64 sg, .int .i64 0, .int .i64 am, .bool false, .int .i64 0] 54) = W1 at *
      replace tt0 := keep tt0
      replace tt1 := keep tt1
      replace tt2 := keep tt2
      replace tt3 := keep tt3
      replace tt4 := keep tt4
      have hbel : Below W1.heap.size W1 W1 := Below.refl _ _
      skip
      go_wp2_with (first | (go_at_call 43; (with_reducible refine (HX.out _).mono ?_); rintro e w' ⟨rfl, rfl⟩) | (go_at_call 42; (with_reducible refine (HK.out _ (belStep hw hbel)).mono ?_); rintro e w1 ⟨rfl, hb1⟩; replace hbel := belStep hbel hb1; clear hb1))
      go_ret
      exact ⟨by rw [HQ.out]; first | rfl | (show Ending.returned (Value.string _) = _; simp only [app_assoc6, app_nil]), belStep hw hbel⟩
end Go.Proofs.YtcaenbobfneejaaGreatDoor
