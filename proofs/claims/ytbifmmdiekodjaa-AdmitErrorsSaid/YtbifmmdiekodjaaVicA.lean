
/- victim: who may go, what fits; the order in which pods are asked: contracts. -/
import Derived.Test.YtbifmmdiekodjaaVicPods
import Derived.Test.YtbifmmdiekodjaaShelf
import Derived.Test.YtbifmmdiekodjaaKrip
import Derived.Laws.Cover1
import Derived.Sort.Walk0
namespace Go.Proofs.Ytbifmmdiekodjaa
open Go.RowKit Go.Sort Go.Lib
set_option linter.unusedVariables false
set_option linter.unusedSimpArgs false

/-- Draws and new blocks, and nothing else. -/
def GW (w u : World) : Prop := ∃ q os, u = grow (w.drewN q) os
theorem GW.refl (w : World) : GW w w := ⟨0, #[], by rw [grow_empty]; rfl⟩
theorem GW.drew {w u : World} (h : GW w u) : GW w u.drew := by
  obtain ⟨q, os, rfl⟩ := h
  exact ⟨q + 1, os, rfl⟩
theorem GW.alloc {w u : World} (h : GW w u) (o : Obj) : GW w (u.alloc o) := by
  obtain ⟨q, os, rfl⟩ := h
  exact ⟨q, os ++ #[o], by rw [alloc_eq_grow, grow_grow]⟩
theorem GW.trans {a b c : World} (h : GW a b) (k : GW b c) : GW a c := by
  obtain ⟨q, os, rfl⟩ := h
  obtain ⟨q2, os2, rfl⟩ := k
  refine ⟨q + q2, os ++ os2, ?_⟩
  unfold grow World.drewN
  simp [Array.append_assoc, Nat.add_assoc]
theorem GW.below {w u : World} (h : GW w u) : Below w.heap.size w u := by
  obtain ⟨q, os, rfl⟩ := h
  refine ⟨rfl, rfl, rfl, ?_, fun k hk => ?_⟩
  · show w.heap.size ≤ (w.heap ++ os).size
    rw [Array.size_append]; omega
  · show (w.heap ++ os)[k]? = w.heap[k]?
    exact Array.getElem?_append_left hk

/-- How two texts stand. -/
def cmpS (x y : ByteArray) : Int := if Op.bytesLess x.toList y.toList then -1 else if x.toList == y.toList then 0 else 1
theorem isNaN_str (s : ByteArray) (w : World) : Calls Try.prog 38 #[.string s] w fun e w' => e = .returned (.bool false) ∧ w = w' := by
  have h : (s.toList == s.toList) = true := beq_self_eq_true _
  go_enter Try.func38, Try.ntmps38
  go_wp2
  go_ret
  exact ⟨by simp, rfl⟩
theorem cmp_str (x y : ByteArray) (w : World) : Calls Try.prog 32 #[.string x, .string y] w fun e w' => e = .returned (.int .i64 (cmpS x y)) ∧ w = w' := by
  have hd : cmpS x y = if Op.bytesLess x.toList y.toList then -1 else if x.toList == y.toList then 0 else 1 := rfl
  have C1 := Lib.hid (fun v => isNaN_str x v)
  have C2 := Lib.hid (fun v => isNaN_str y v)
  generalize cmpS x y = c at *
  cases h1 : Op.bytesLess x.toList y.toList with
  | true =>
    rw [h1] at hd
    subst hd
    go_enter Try.func32, Try.ntmps32
    go_wp2_with (first | (go_at_call 38; (with_reducible refine (C1.out _).mono ?_); rintro e w' ⟨rfl, rfl⟩) | (go_at_call 38; (with_reducible refine (C2.out _).mono ?_); rintro e w' ⟨rfl, rfl⟩))
    go_ret
    exact ⟨rfl, rfl⟩
  | false =>
    cases h2 : (x.toList == y.toList) with
    | true =>
      rw [h1, h2] at hd
      subst hd
      go_enter Try.func32, Try.ntmps32
      go_wp2_with (first | (go_at_call 38; (with_reducible refine (C1.out _).mono ?_); rintro e w' ⟨rfl, rfl⟩) | (go_at_call 38; (with_reducible refine (C2.out _).mono ?_); rintro e w' ⟨rfl, rfl⟩))
      go_ret
      exact ⟨rfl, rfl⟩
    | false =>
      rw [h1, h2] at hd
      subst hd
      go_enter Try.func32, Try.ntmps32
      go_wp2_with (first | (go_at_call 38; (with_reducible refine (C1.out _).mono ?_); rintro e w' ⟨rfl, rfl⟩) | (go_at_call 38; (with_reducible refine (C2.out _).mono ?_); rintro e w' ⟨rfl, rfl⟩))
      go_ret
      exact ⟨rfl, rfl⟩
/-- The first of two that isn't 0. -/
def orI (a b : Int) : Int := if a == 0 then b else a
theorem cmp_Or2 (a b : Int) (M : Nat) (w : World) (h0 : w.cell? ⟨M, 0, none⟩ = some (.int .i64 a)) (h1 : w.cell? ⟨M, 1, none⟩ = some (.int .i64 b)) : Calls Try.prog 30 #[.slice (some ⟨M, 0, none⟩) 2 2] w fun e w' => e = .returned (.int .i64 (orI a b)) ∧ w = w' := by
  have hd : orI a b = if a == 0 then b else a := rfl
  generalize orI a b = c at *
  have H0 := Lib.hid h0
  have H1 := Lib.hid h1
  clear h0 h1
  go_enter Try.func30, Try.ntmps30
  go_wp2
  go_loop [8] (fun i => i = .int .i64 0 ∨ (i = .int .i64 1 ∧ a = 0) ∨ (i = .int .i64 2 ∧ a = 0 ∧ b = 0)) (fun i => 2 - (intOf i).toNat)
  case atStart => exact .inl rfl
  case round =>
    rcases hrel with rfl | ⟨rfl, ha⟩ | ⟨rfl, ha, hb⟩
    · have h0 := H0.out
      by_cases ha : a = 0
      · subst ha
        go_wp2
        go_round
        case rel => exact .inr (.inl ⟨rfl, by first | rfl | trivial⟩)
        case measure => simp [intOf]
      · have t0 : (a == 0) = false := by simpa using ha
        have HD := Lib.hid (show c = a by rw [hd, t0]; rfl)
        clear hd
        go_wp2
        go_ret
        exact ⟨by rw [HD.out]; rfl, rfl⟩
    · have h0 := H1.out
      subst ha
      have HD := Lib.hid (show c = b from hd)
      clear hd
      by_cases hb : b = 0
      · subst hb
        go_wp2
        go_round
        case rel => exact .inr (.inr ⟨rfl, by first | rfl | trivial, by first | rfl | trivial⟩)
        case measure => simp [intOf]
      · have t0 : (b == 0) = false := by simpa using hb
        go_wp2
        go_ret
        exact ⟨by rw [HD.out]; rfl, rfl⟩
    · subst ha hb
      have HD := Lib.hid (show c = 0 from hd)
      clear hd
      go_wp2
      go_ret
      exact ⟨by rw [HD.out]; rfl, rfl⟩

/-- How two pods stand in the order in which they are asked. -/
def cfP (x y : PodV) : Int := orI (Lib.compareInt y.prio x.prio) (cmpS x.id y.id)
set_option maxRecDepth 100000 in
set_option maxHeartbeats 4000000 in
theorem vic_cmp (x y : PodV) (w : World) : Calls Try.prog 29 #[x.v, y.v] w fun e w' => e = .returned (.int .i64 (cfP x y)) ∧ GW w w' := by
  unfold PodV.v
  have C1 := Lib.hid (fun v => Try.cmp_Compare_int y.prio x.prio v)
  have C2 := Lib.hid (fun v => cmp_str x.id y.id v)
  have hd : cfP x y = orI (Lib.compareInt y.prio x.prio) (cmpS x.id y.id) := rfl
  generalize Lib.compareInt y.prio x.prio = c1 at *
  generalize cmpS x.id y.id = c2 at *
  generalize cfP x y = c at *
  subst hd
  have hw : Below w.heap.size w w := Below.refl _ _
  have hbel := hw
  have hg : GW w ((w.alloc (.cells #[.string x.id, .int .i64 x.prio, .bool x.crit, .int .i64 x.r0, .int .i64 x.r1, .int .i64 x.r2, .int .i64 x.l0, .int .i64 x.l1, .int .i64 x.l2, .string x.img, .int .i64 x.size] 24)).alloc (.cells #[.string y.id, .int .i64 y.prio, .bool y.crit, .int .i64 y.r0, .int .i64 y.r1, .int .i64 y.r2, .int .i64 y.l0, .int .i64 y.l1, .int .i64 y.l2, .string y.img, .int .i64 y.size] 24)) := ((GW.refl w).alloc _).alloc _
  go_enter Try.func29, Try.ntmps29
  go_upto_region 1 with fail
  have a0 : ((w.alloc (.cells #[.string x.id, .int .i64 x.prio, .bool x.crit, .int .i64 x.r0, .int .i64 x.r1, .int .i64 x.r2, .int .i64 x.l0, .int .i64 x.l1, .int .i64 x.l2, .string x.img, .int .i64 x.size] 24)).alloc (.cells #[.string y.id, .int .i64 y.prio, .bool y.crit, .int .i64 y.r0, .int .i64 y.r1, .int .i64 y.r2, .int .i64 y.l0, .int .i64 y.l1, .int .i64 y.l2, .string y.img, .int .i64 y.size] 24)).cell? ⟨w.heap.size, 0, none⟩ = some (.string x.id) := by first | (simp; done) | (rw [World.cell?_alloc_at _ _ _ _ (by simp)]; rfl) | (rw [World.cell?_alloc_past _ _ _ (by simp <;> omega), World.cell?_alloc_at _ _ _ _ (by simp)]; rfl) | (rw [World.cell?_alloc_past _ _ _ (by simp <;> omega), World.cell?_alloc_past _ _ _ (by simp <;> omega), World.cell?_alloc_at _ _ _ _ (by simp)]; rfl)
  have a1 : ((w.alloc (.cells #[.string x.id, .int .i64 x.prio, .bool x.crit, .int .i64 x.r0, .int .i64 x.r1, .int .i64 x.r2, .int .i64 x.l0, .int .i64 x.l1, .int .i64 x.l2, .string x.img, .int .i64 x.size] 24)).alloc (.cells #[.string y.id, .int .i64 y.prio, .bool y.crit, .int .i64 y.r0, .int .i64 y.r1, .int .i64 y.r2, .int .i64 y.l0, .int .i64 y.l1, .int .i64 y.l2, .string y.img, .int .i64 y.size] 24)).cell? ⟨w.heap.size, 1, none⟩ = some (.int .i64 x.prio) := by first | (simp; done) | (rw [World.cell?_alloc_at _ _ _ _ (by simp)]; rfl) | (rw [World.cell?_alloc_past _ _ _ (by simp <;> omega), World.cell?_alloc_at _ _ _ _ (by simp)]; rfl) | (rw [World.cell?_alloc_past _ _ _ (by simp <;> omega), World.cell?_alloc_past _ _ _ (by simp <;> omega), World.cell?_alloc_at _ _ _ _ (by simp)]; rfl)
  have a2 : ((w.alloc (.cells #[.string x.id, .int .i64 x.prio, .bool x.crit, .int .i64 x.r0, .int .i64 x.r1, .int .i64 x.r2, .int .i64 x.l0, .int .i64 x.l1, .int .i64 x.l2, .string x.img, .int .i64 x.size] 24)).alloc (.cells #[.string y.id, .int .i64 y.prio, .bool y.crit, .int .i64 y.r0, .int .i64 y.r1, .int .i64 y.r2, .int .i64 y.l0, .int .i64 y.l1, .int .i64 y.l2, .string y.img, .int .i64 y.size] 24)).cell? ⟨w.heap.size, 2, none⟩ = some (.bool x.crit) := by first | (simp; done) | (rw [World.cell?_alloc_at _ _ _ _ (by simp)]; rfl) | (rw [World.cell?_alloc_past _ _ _ (by simp <;> omega), World.cell?_alloc_at _ _ _ _ (by simp)]; rfl) | (rw [World.cell?_alloc_past _ _ _ (by simp <;> omega), World.cell?_alloc_past _ _ _ (by simp <;> omega), World.cell?_alloc_at _ _ _ _ (by simp)]; rfl)
  have a3 : ((w.alloc (.cells #[.string x.id, .int .i64 x.prio, .bool x.crit, .int .i64 x.r0, .int .i64 x.r1, .int .i64 x.r2, .int .i64 x.l0, .int .i64 x.l1, .int .i64 x.l2, .string x.img, .int .i64 x.size] 24)).alloc (.cells #[.string y.id, .int .i64 y.prio, .bool y.crit, .int .i64 y.r0, .int .i64 y.r1, .int .i64 y.r2, .int .i64 y.l0, .int .i64 y.l1, .int .i64 y.l2, .string y.img, .int .i64 y.size] 24)).cell? ⟨w.heap.size, 3, none⟩ = some (.int .i64 x.r0) := by first | (simp; done) | (rw [World.cell?_alloc_at _ _ _ _ (by simp)]; rfl) | (rw [World.cell?_alloc_past _ _ _ (by simp <;> omega), World.cell?_alloc_at _ _ _ _ (by simp)]; rfl) | (rw [World.cell?_alloc_past _ _ _ (by simp <;> omega), World.cell?_alloc_past _ _ _ (by simp <;> omega), World.cell?_alloc_at _ _ _ _ (by simp)]; rfl)
  have a4 : ((w.alloc (.cells #[.string x.id, .int .i64 x.prio, .bool x.crit, .int .i64 x.r0, .int .i64 x.r1, .int .i64 x.r2, .int .i64 x.l0, .int .i64 x.l1, .int .i64 x.l2, .string x.img, .int .i64 x.size] 24)).alloc (.cells #[.string y.id, .int .i64 y.prio, .bool y.crit, .int .i64 y.r0, .int .i64 y.r1, .int .i64 y.r2, .int .i64 y.l0, .int .i64 y.l1, .int .i64 y.l2, .string y.img, .int .i64 y.size] 24)).cell? ⟨w.heap.size, 4, none⟩ = some (.int .i64 x.r1) := by first | (simp; done) | (rw [World.cell?_alloc_at _ _ _ _ (by simp)]; rfl) | (rw [World.cell?_alloc_past _ _ _ (by simp <;> omega), World.cell?_alloc_at _ _ _ _ (by simp)]; rfl) | (rw [World.cell?_alloc_past _ _ _ (by simp <;> omega), World.cell?_alloc_past _ _ _ (by simp <;> omega), World.cell?_alloc_at _ _ _ _ (by simp)]; rfl)
  have a5 : ((w.alloc (.cells #[.string x.id, .int .i64 x.prio, .bool x.crit, .int .i64 x.r0, .int .i64 x.r1, .int .i64 x.r2, .int .i64 x.l0, .int .i64 x.l1, .int .i64 x.l2, .string x.img, .int .i64 x.size] 24)).alloc (.cells #[.string y.id, .int .i64 y.prio, .bool y.crit, .int .i64 y.r0, .int .i64 y.r1, .int .i64 y.r2, .int .i64 y.l0, .int .i64 y.l1, .int .i64 y.l2, .string y.img, .int .i64 y.size] 24)).cell? ⟨w.heap.size, 5, none⟩ = some (.int .i64 x.r2) := by first | (simp; done) | (rw [World.cell?_alloc_at _ _ _ _ (by simp)]; rfl) | (rw [World.cell?_alloc_past _ _ _ (by simp <;> omega), World.cell?_alloc_at _ _ _ _ (by simp)]; rfl) | (rw [World.cell?_alloc_past _ _ _ (by simp <;> omega), World.cell?_alloc_past _ _ _ (by simp <;> omega), World.cell?_alloc_at _ _ _ _ (by simp)]; rfl)
  have a6 : ((w.alloc (.cells #[.string x.id, .int .i64 x.prio, .bool x.crit, .int .i64 x.r0, .int .i64 x.r1, .int .i64 x.r2, .int .i64 x.l0, .int .i64 x.l1, .int .i64 x.l2, .string x.img, .int .i64 x.size] 24)).alloc (.cells #[.string y.id, .int .i64 y.prio, .bool y.crit, .int .i64 y.r0, .int .i64 y.r1, .int .i64 y.r2, .int .i64 y.l0, .int .i64 y.l1, .int .i64 y.l2, .string y.img, .int .i64 y.size] 24)).cell? ⟨w.heap.size, 6, none⟩ = some (.int .i64 x.l0) := by first | (simp; done) | (rw [World.cell?_alloc_at _ _ _ _ (by simp)]; rfl) | (rw [World.cell?_alloc_past _ _ _ (by simp <;> omega), World.cell?_alloc_at _ _ _ _ (by simp)]; rfl) | (rw [World.cell?_alloc_past _ _ _ (by simp <;> omega), World.cell?_alloc_past _ _ _ (by simp <;> omega), World.cell?_alloc_at _ _ _ _ (by simp)]; rfl)
  have a7 : ((w.alloc (.cells #[.string x.id, .int .i64 x.prio, .bool x.crit, .int .i64 x.r0, .int .i64 x.r1, .int .i64 x.r2, .int .i64 x.l0, .int .i64 x.l1, .int .i64 x.l2, .string x.img, .int .i64 x.size] 24)).alloc (.cells #[.string y.id, .int .i64 y.prio, .bool y.crit, .int .i64 y.r0, .int .i64 y.r1, .int .i64 y.r2, .int .i64 y.l0, .int .i64 y.l1, .int .i64 y.l2, .string y.img, .int .i64 y.size] 24)).cell? ⟨w.heap.size, 7, none⟩ = some (.int .i64 x.l1) := by first | (simp; done) | (rw [World.cell?_alloc_at _ _ _ _ (by simp)]; rfl) | (rw [World.cell?_alloc_past _ _ _ (by simp <;> omega), World.cell?_alloc_at _ _ _ _ (by simp)]; rfl) | (rw [World.cell?_alloc_past _ _ _ (by simp <;> omega), World.cell?_alloc_past _ _ _ (by simp <;> omega), World.cell?_alloc_at _ _ _ _ (by simp)]; rfl)
  have a8 : ((w.alloc (.cells #[.string x.id, .int .i64 x.prio, .bool x.crit, .int .i64 x.r0, .int .i64 x.r1, .int .i64 x.r2, .int .i64 x.l0, .int .i64 x.l1, .int .i64 x.l2, .string x.img, .int .i64 x.size] 24)).alloc (.cells #[.string y.id, .int .i64 y.prio, .bool y.crit, .int .i64 y.r0, .int .i64 y.r1, .int .i64 y.r2, .int .i64 y.l0, .int .i64 y.l1, .int .i64 y.l2, .string y.img, .int .i64 y.size] 24)).cell? ⟨w.heap.size, 8, none⟩ = some (.int .i64 x.l2) := by first | (simp; done) | (rw [World.cell?_alloc_at _ _ _ _ (by simp)]; rfl) | (rw [World.cell?_alloc_past _ _ _ (by simp <;> omega), World.cell?_alloc_at _ _ _ _ (by simp)]; rfl) | (rw [World.cell?_alloc_past _ _ _ (by simp <;> omega), World.cell?_alloc_past _ _ _ (by simp <;> omega), World.cell?_alloc_at _ _ _ _ (by simp)]; rfl)
  have a9 : ((w.alloc (.cells #[.string x.id, .int .i64 x.prio, .bool x.crit, .int .i64 x.r0, .int .i64 x.r1, .int .i64 x.r2, .int .i64 x.l0, .int .i64 x.l1, .int .i64 x.l2, .string x.img, .int .i64 x.size] 24)).alloc (.cells #[.string y.id, .int .i64 y.prio, .bool y.crit, .int .i64 y.r0, .int .i64 y.r1, .int .i64 y.r2, .int .i64 y.l0, .int .i64 y.l1, .int .i64 y.l2, .string y.img, .int .i64 y.size] 24)).cell? ⟨w.heap.size, 9, none⟩ = some (.string x.img) := by first | (simp; done) | (rw [World.cell?_alloc_at _ _ _ _ (by simp)]; rfl) | (rw [World.cell?_alloc_past _ _ _ (by simp <;> omega), World.cell?_alloc_at _ _ _ _ (by simp)]; rfl) | (rw [World.cell?_alloc_past _ _ _ (by simp <;> omega), World.cell?_alloc_past _ _ _ (by simp <;> omega), World.cell?_alloc_at _ _ _ _ (by simp)]; rfl)
  have a10 : ((w.alloc (.cells #[.string x.id, .int .i64 x.prio, .bool x.crit, .int .i64 x.r0, .int .i64 x.r1, .int .i64 x.r2, .int .i64 x.l0, .int .i64 x.l1, .int .i64 x.l2, .string x.img, .int .i64 x.size] 24)).alloc (.cells #[.string y.id, .int .i64 y.prio, .bool y.crit, .int .i64 y.r0, .int .i64 y.r1, .int .i64 y.r2, .int .i64 y.l0, .int .i64 y.l1, .int .i64 y.l2, .string y.img, .int .i64 y.size] 24)).cell? ⟨w.heap.size, 10, none⟩ = some (.int .i64 x.size) := by first | (simp; done) | (rw [World.cell?_alloc_at _ _ _ _ (by simp)]; rfl) | (rw [World.cell?_alloc_past _ _ _ (by simp <;> omega), World.cell?_alloc_at _ _ _ _ (by simp)]; rfl) | (rw [World.cell?_alloc_past _ _ _ (by simp <;> omega), World.cell?_alloc_past _ _ _ (by simp <;> omega), World.cell?_alloc_at _ _ _ _ (by simp)]; rfl)
  have b0 : ((w.alloc (.cells #[.string x.id, .int .i64 x.prio, .bool x.crit, .int .i64 x.r0, .int .i64 x.r1, .int .i64 x.r2, .int .i64 x.l0, .int .i64 x.l1, .int .i64 x.l2, .string x.img, .int .i64 x.size] 24)).alloc (.cells #[.string y.id, .int .i64 y.prio, .bool y.crit, .int .i64 y.r0, .int .i64 y.r1, .int .i64 y.r2, .int .i64 y.l0, .int .i64 y.l1, .int .i64 y.l2, .string y.img, .int .i64 y.size] 24)).cell? ⟨w.heap.size + 1, 0, none⟩ = some (.string y.id) := by first | (simp; done) | (rw [World.cell?_alloc_at _ _ _ _ (by simp)]; rfl) | (rw [World.cell?_alloc_past _ _ _ (by simp <;> omega), World.cell?_alloc_at _ _ _ _ (by simp)]; rfl) | (rw [World.cell?_alloc_past _ _ _ (by simp <;> omega), World.cell?_alloc_past _ _ _ (by simp <;> omega), World.cell?_alloc_at _ _ _ _ (by simp)]; rfl)
  have b1 : ((w.alloc (.cells #[.string x.id, .int .i64 x.prio, .bool x.crit, .int .i64 x.r0, .int .i64 x.r1, .int .i64 x.r2, .int .i64 x.l0, .int .i64 x.l1, .int .i64 x.l2, .string x.img, .int .i64 x.size] 24)).alloc (.cells #[.string y.id, .int .i64 y.prio, .bool y.crit, .int .i64 y.r0, .int .i64 y.r1, .int .i64 y.r2, .int .i64 y.l0, .int .i64 y.l1, .int .i64 y.l2, .string y.img, .int .i64 y.size] 24)).cell? ⟨w.heap.size + 1, 1, none⟩ = some (.int .i64 y.prio) := by first | (simp; done) | (rw [World.cell?_alloc_at _ _ _ _ (by simp)]; rfl) | (rw [World.cell?_alloc_past _ _ _ (by simp <;> omega), World.cell?_alloc_at _ _ _ _ (by simp)]; rfl) | (rw [World.cell?_alloc_past _ _ _ (by simp <;> omega), World.cell?_alloc_past _ _ _ (by simp <;> omega), World.cell?_alloc_at _ _ _ _ (by simp)]; rfl)
  have b2 : ((w.alloc (.cells #[.string x.id, .int .i64 x.prio, .bool x.crit, .int .i64 x.r0, .int .i64 x.r1, .int .i64 x.r2, .int .i64 x.l0, .int .i64 x.l1, .int .i64 x.l2, .string x.img, .int .i64 x.size] 24)).alloc (.cells #[.string y.id, .int .i64 y.prio, .bool y.crit, .int .i64 y.r0, .int .i64 y.r1, .int .i64 y.r2, .int .i64 y.l0, .int .i64 y.l1, .int .i64 y.l2, .string y.img, .int .i64 y.size] 24)).cell? ⟨w.heap.size + 1, 2, none⟩ = some (.bool y.crit) := by first | (simp; done) | (rw [World.cell?_alloc_at _ _ _ _ (by simp)]; rfl) | (rw [World.cell?_alloc_past _ _ _ (by simp <;> omega), World.cell?_alloc_at _ _ _ _ (by simp)]; rfl) | (rw [World.cell?_alloc_past _ _ _ (by simp <;> omega), World.cell?_alloc_past _ _ _ (by simp <;> omega), World.cell?_alloc_at _ _ _ _ (by simp)]; rfl)
  have b3 : ((w.alloc (.cells #[.string x.id, .int .i64 x.prio, .bool x.crit, .int .i64 x.r0, .int .i64 x.r1, .int .i64 x.r2, .int .i64 x.l0, .int .i64 x.l1, .int .i64 x.l2, .string x.img, .int .i64 x.size] 24)).alloc (.cells #[.string y.id, .int .i64 y.prio, .bool y.crit, .int .i64 y.r0, .int .i64 y.r1, .int .i64 y.r2, .int .i64 y.l0, .int .i64 y.l1, .int .i64 y.l2, .string y.img, .int .i64 y.size] 24)).cell? ⟨w.heap.size + 1, 3, none⟩ = some (.int .i64 y.r0) := by first | (simp; done) | (rw [World.cell?_alloc_at _ _ _ _ (by simp)]; rfl) | (rw [World.cell?_alloc_past _ _ _ (by simp <;> omega), World.cell?_alloc_at _ _ _ _ (by simp)]; rfl) | (rw [World.cell?_alloc_past _ _ _ (by simp <;> omega), World.cell?_alloc_past _ _ _ (by simp <;> omega), World.cell?_alloc_at _ _ _ _ (by simp)]; rfl)
  have b4 : ((w.alloc (.cells #[.string x.id, .int .i64 x.prio, .bool x.crit, .int .i64 x.r0, .int .i64 x.r1, .int .i64 x.r2, .int .i64 x.l0, .int .i64 x.l1, .int .i64 x.l2, .string x.img, .int .i64 x.size] 24)).alloc (.cells #[.string y.id, .int .i64 y.prio, .bool y.crit, .int .i64 y.r0, .int .i64 y.r1, .int .i64 y.r2, .int .i64 y.l0, .int .i64 y.l1, .int .i64 y.l2, .string y.img, .int .i64 y.size] 24)).cell? ⟨w.heap.size + 1, 4, none⟩ = some (.int .i64 y.r1) := by first | (simp; done) | (rw [World.cell?_alloc_at _ _ _ _ (by simp)]; rfl) | (rw [World.cell?_alloc_past _ _ _ (by simp <;> omega), World.cell?_alloc_at _ _ _ _ (by simp)]; rfl) | (rw [World.cell?_alloc_past _ _ _ (by simp <;> omega), World.cell?_alloc_past _ _ _ (by simp <;> omega), World.cell?_alloc_at _ _ _ _ (by simp)]; rfl)
  have b5 : ((w.alloc (.cells #[.string x.id, .int .i64 x.prio, .bool x.crit, .int .i64 x.r0, .int .i64 x.r1, .int .i64 x.r2, .int .i64 x.l0, .int .i64 x.l1, .int .i64 x.l2, .string x.img, .int .i64 x.size] 24)).alloc (.cells #[.string y.id, .int .i64 y.prio, .bool y.crit, .int .i64 y.r0, .int .i64 y.r1, .int .i64 y.r2, .int .i64 y.l0, .int .i64 y.l1, .int .i64 y.l2, .string y.img, .int .i64 y.size] 24)).cell? ⟨w.heap.size + 1, 5, none⟩ = some (.int .i64 y.r2) := by first | (simp; done) | (rw [World.cell?_alloc_at _ _ _ _ (by simp)]; rfl) | (rw [World.cell?_alloc_past _ _ _ (by simp <;> omega), World.cell?_alloc_at _ _ _ _ (by simp)]; rfl) | (rw [World.cell?_alloc_past _ _ _ (by simp <;> omega), World.cell?_alloc_past _ _ _ (by simp <;> omega), World.cell?_alloc_at _ _ _ _ (by simp)]; rfl)
  have b6 : ((w.alloc (.cells #[.string x.id, .int .i64 x.prio, .bool x.crit, .int .i64 x.r0, .int .i64 x.r1, .int .i64 x.r2, .int .i64 x.l0, .int .i64 x.l1, .int .i64 x.l2, .string x.img, .int .i64 x.size] 24)).alloc (.cells #[.string y.id, .int .i64 y.prio, .bool y.crit, .int .i64 y.r0, .int .i64 y.r1, .int .i64 y.r2, .int .i64 y.l0, .int .i64 y.l1, .int .i64 y.l2, .string y.img, .int .i64 y.size] 24)).cell? ⟨w.heap.size + 1, 6, none⟩ = some (.int .i64 y.l0) := by first | (simp; done) | (rw [World.cell?_alloc_at _ _ _ _ (by simp)]; rfl) | (rw [World.cell?_alloc_past _ _ _ (by simp <;> omega), World.cell?_alloc_at _ _ _ _ (by simp)]; rfl) | (rw [World.cell?_alloc_past _ _ _ (by simp <;> omega), World.cell?_alloc_past _ _ _ (by simp <;> omega), World.cell?_alloc_at _ _ _ _ (by simp)]; rfl)
  have b7 : ((w.alloc (.cells #[.string x.id, .int .i64 x.prio, .bool x.crit, .int .i64 x.r0, .int .i64 x.r1, .int .i64 x.r2, .int .i64 x.l0, .int .i64 x.l1, .int .i64 x.l2, .string x.img, .int .i64 x.size] 24)).alloc (.cells #[.string y.id, .int .i64 y.prio, .bool y.crit, .int .i64 y.r0, .int .i64 y.r1, .int .i64 y.r2, .int .i64 y.l0, .int .i64 y.l1, .int .i64 y.l2, .string y.img, .int .i64 y.size] 24)).cell? ⟨w.heap.size + 1, 7, none⟩ = some (.int .i64 y.l1) := by first | (simp; done) | (rw [World.cell?_alloc_at _ _ _ _ (by simp)]; rfl) | (rw [World.cell?_alloc_past _ _ _ (by simp <;> omega), World.cell?_alloc_at _ _ _ _ (by simp)]; rfl) | (rw [World.cell?_alloc_past _ _ _ (by simp <;> omega), World.cell?_alloc_past _ _ _ (by simp <;> omega), World.cell?_alloc_at _ _ _ _ (by simp)]; rfl)
  have b8 : ((w.alloc (.cells #[.string x.id, .int .i64 x.prio, .bool x.crit, .int .i64 x.r0, .int .i64 x.r1, .int .i64 x.r2, .int .i64 x.l0, .int .i64 x.l1, .int .i64 x.l2, .string x.img, .int .i64 x.size] 24)).alloc (.cells #[.string y.id, .int .i64 y.prio, .bool y.crit, .int .i64 y.r0, .int .i64 y.r1, .int .i64 y.r2, .int .i64 y.l0, .int .i64 y.l1, .int .i64 y.l2, .string y.img, .int .i64 y.size] 24)).cell? ⟨w.heap.size + 1, 8, none⟩ = some (.int .i64 y.l2) := by first | (simp; done) | (rw [World.cell?_alloc_at _ _ _ _ (by simp)]; rfl) | (rw [World.cell?_alloc_past _ _ _ (by simp <;> omega), World.cell?_alloc_at _ _ _ _ (by simp)]; rfl) | (rw [World.cell?_alloc_past _ _ _ (by simp <;> omega), World.cell?_alloc_past _ _ _ (by simp <;> omega), World.cell?_alloc_at _ _ _ _ (by simp)]; rfl)
  have b9 : ((w.alloc (.cells #[.string x.id, .int .i64 x.prio, .bool x.crit, .int .i64 x.r0, .int .i64 x.r1, .int .i64 x.r2, .int .i64 x.l0, .int .i64 x.l1, .int .i64 x.l2, .string x.img, .int .i64 x.size] 24)).alloc (.cells #[.string y.id, .int .i64 y.prio, .bool y.crit, .int .i64 y.r0, .int .i64 y.r1, .int .i64 y.r2, .int .i64 y.l0, .int .i64 y.l1, .int .i64 y.l2, .string y.img, .int .i64 y.size] 24)).cell? ⟨w.heap.size + 1, 9, none⟩ = some (.string y.img) := by first | (simp; done) | (rw [World.cell?_alloc_at _ _ _ _ (by simp)]; rfl) | (rw [World.cell?_alloc_past _ _ _ (by simp <;> omega), World.cell?_alloc_at _ _ _ _ (by simp)]; rfl) | (rw [World.cell?_alloc_past _ _ _ (by simp <;> omega), World.cell?_alloc_past _ _ _ (by simp <;> omega), World.cell?_alloc_at _ _ _ _ (by simp)]; rfl)
  have b10 : ((w.alloc (.cells #[.string x.id, .int .i64 x.prio, .bool x.crit, .int .i64 x.r0, .int .i64 x.r1, .int .i64 x.r2, .int .i64 x.l0, .int .i64 x.l1, .int .i64 x.l2, .string x.img, .int .i64 x.size] 24)).alloc (.cells #[.string y.id, .int .i64 y.prio, .bool y.crit, .int .i64 y.r0, .int .i64 y.r1, .int .i64 y.r2, .int .i64 y.l0, .int .i64 y.l1, .int .i64 y.l2, .string y.img, .int .i64 y.size] 24)).cell? ⟨w.heap.size + 1, 10, none⟩ = some (.int .i64 y.size) := by first | (simp; done) | (rw [World.cell?_alloc_at _ _ _ _ (by simp)]; rfl) | (rw [World.cell?_alloc_past _ _ _ (by simp <;> omega), World.cell?_alloc_at _ _ _ _ (by simp)]; rfl) | (rw [World.cell?_alloc_past _ _ _ (by simp <;> omega), World.cell?_alloc_past _ _ _ (by simp <;> omega), World.cell?_alloc_at _ _ _ _ (by simp)]; rfl)
  have hb2 := (by repeat (first | exact hbel | refine belAlloc ?_ _ | refine belDrew ?_ | refine belSet ?_ _ _ (by simp)) : Below w.heap.size w ((w.alloc (.cells #[.string x.id, .int .i64 x.prio, .bool x.crit, .int .i64 x.r0, .int .i64 x.r1, .int .i64 x.r2, .int .i64 x.l0, .int .i64 x.l1, .int .i64 x.l2, .string x.img, .int .i64 x.size] 24)).alloc (.cells #[.string y.id, .int .i64 y.prio, .bool y.crit, .int .i64 y.r0, .int .i64 y.r1, .int .i64 y.r2, .int .i64 y.l0, .int .i64 y.l1, .int .i64 y.l2, .string y.img, .int .i64 y.size] 24)))
  replace hw := belStep hw hb2
  clear hb2 hbel
  generalize (w.alloc (.cells #[.string x.id, .int .i64 x.prio, .bool x.crit, .int .i64 x.r0, .int .i64 x.r1, .int .i64 x.r2, .int .i64 x.l0, .int .i64 x.l1, .int .i64 x.l2, .string x.img, .int .i64 x.size] 24)).alloc (.cells #[.string y.id, .int .i64 y.prio, .bool y.crit, .int .i64 y.r0, .int .i64 y.r1, .int .i64 y.r2, .int .i64 y.l0, .int .i64 y.l1, .int .i64 y.l2, .string y.img, .int .i64 y.size] 24) = W1 at *
  replace a0 := keep a0
  replace a1 := keep a1
  replace a2 := keep a2
  replace a3 := keep a3
  replace a4 := keep a4
  replace a5 := keep a5
  replace a6 := keep a6
  replace a7 := keep a7
  replace a8 := keep a8
  replace a9 := keep a9
  replace a10 := keep a10
  replace b0 := keep b0
  replace b1 := keep b1
  replace b2 := keep b2
  replace b3 := keep b3
  replace b4 := keep b4
  replace b5 := keep b5
  replace b6 := keep b6
  replace b7 := keep b7
  replace b8 := keep b8
  replace b9 := keep b9
  replace b10 := keep b10
  have hbel : Below W1.heap.size W1 W1 := Below.refl _ _
  skip
  have HG := Lib.hid hg
  have x0 := fun u (h : GW W1 u) => a0 u h.below
  have x1 := fun u (h : GW W1 u) => a1 u h.below
  have y0 := fun u (h : GW W1 u) => b0 u h.below
  have y1 := fun u (h : GW W1 u) => b1 u h.below
  clear hg a0 a1 a2 a3 a4 a5 a6 a7 a8 a9 a10 b0 b1 b2 b3 b4 b5 b6 b7 b8 b9 b10 hw hbel
  refine wp_region_held_drew (S := (fun u => GW W1 u)) (by kernel_rfl) (by exact (show GW W1 _ from by repeat (first | assumption | exact GW.refl _ | refine GW.drew ?_ | refine GW.alloc ?_ _))) (fun hHeld => ?_)
  refine wpAnyH_take (i := 0) (oi := ?oi_1) (v := ?v_1) ?hi_1 (by kernel_rfl) ?hf_1 ?hr_1 ?hQ_1 (Or.inl ⟨?hw_1, ?hy_1⟩) (by assumption) ?rest_1
  case hi_1 => ((simp only [List.getElem?_toArray, List.getElem?_cons_succ, List.getElem?_cons_zero]); rfl)
  case hf_1 => kernel_rfl
  case hr_1 => kernel_rfl
  case hQ_1 => exact fun _ _ _ h => h
  case hw_1 => rfl
  case hy_1 => ((intro w hSw; (try dsimp only at hSw); go_simp); all_goals (with_reducible rfl))
  try simp only [Act.put, List.setIfInBounds_toArray, List.set_cons_zero, List.set_cons_succ]
  refine wpAnyH_take (i := 1) (oi := ?oi_2) (v := ?v_2) ?hi_2 (by kernel_rfl) ?hf_2 ?hr_2 ?hQ_2 (Or.inl ⟨?hw_2, ?hy_2⟩) (by assumption) ?rest_2
  case hi_2 => ((simp only [List.getElem?_toArray, List.getElem?_cons_succ, List.getElem?_cons_zero]); rfl)
  case hf_2 => kernel_rfl
  case hr_2 => kernel_rfl
  case hQ_2 => exact fun _ _ _ h => h
  case hw_2 => rfl
  case hy_2 => ((intro w hSw; (try dsimp only at hSw); go_simp); all_goals (with_reducible rfl))
  try simp only [Act.put, List.setIfInBounds_toArray, List.set_cons_zero, List.set_cons_succ]
  refine wpAnyH_take (i := 2) (oi := ?oi_3) (v := ?v_3) ?hi_3 (by kernel_rfl) ?hf_3 ?hr_3 ?hQ_3 (Or.inl ⟨?hw_3, ?hy_3⟩) (by assumption) ?rest_3
  case hi_3 => ((simp only [List.getElem?_toArray, List.getElem?_cons_succ, List.getElem?_cons_zero]); rfl)
  case hf_3 => kernel_rfl
  case hr_3 => kernel_rfl
  case hQ_3 => exact fun _ _ _ h => h
  case hw_3 => rfl
  case hy_3 => ((intro w hSw; (try dsimp only at hSw); go_simp); all_goals (with_reducible rfl))
  try simp only [Act.put, List.setIfInBounds_toArray, List.set_cons_zero, List.set_cons_succ]
  refine wpAnyH_take (i := 3) (oi := ?oi_4) (v := ?v_4) ?hi_4 (by kernel_rfl) ?hf_4 ?hr_4 ?hQ_4 (Or.inl ⟨?hw_4, ?hy_4⟩) (by assumption) ?rest_4
  case hi_4 => ((simp only [List.getElem?_toArray, List.getElem?_cons_succ, List.getElem?_cons_zero]); rfl)
  case hf_4 => kernel_rfl
  case hr_4 => kernel_rfl
  case hQ_4 => exact fun _ _ _ h => h
  case hw_4 => rfl
  case hy_4 => ((intro w hSw; (try dsimp only at hSw); go_simp); all_goals (with_reducible rfl))
  try simp only [Act.put, List.setIfInBounds_toArray, List.set_cons_zero, List.set_cons_succ]
  refine wpAnyH_take (i := 5) (oi := ?oi_5) (v := ?v_5) ?hi_5 (by kernel_rfl) ?hf_5 ?hr_5 ?hQ_5 (Or.inl ⟨?hw_5, ?hy_5⟩) (by assumption) ?rest_5
  case hi_5 => ((simp only [List.getElem?_toArray, List.getElem?_cons_succ, List.getElem?_cons_zero]); rfl)
  case hf_5 => kernel_rfl
  case hr_5 => kernel_rfl
  case hQ_5 => exact fun _ _ _ h => h
  case hw_5 => rfl
  case hy_5 => ((intro w hSw; (try dsimp only at hSw); go_simp); all_goals (with_reducible rfl))
  try simp only [Act.put, List.setIfInBounds_toArray, List.set_cons_zero, List.set_cons_succ]
  refine wpAnyH_take (i := 6) (oi := ?oi_6) (v := ?v_6) ?hi_6 (by kernel_rfl) ?hf_6 ?hr_6 ?hQ_6 (Or.inl ⟨?hw_6, ?hy_6⟩) (by assumption) ?rest_6
  case hi_6 => ((simp only [List.getElem?_toArray, List.getElem?_cons_succ, List.getElem?_cons_zero]); rfl)
  case hf_6 => kernel_rfl
  case hr_6 => kernel_rfl
  case hQ_6 => exact fun _ _ _ h => h
  case hw_6 => rfl
  case hy_6 => ((intro w hSw; (try dsimp only at hSw); go_simp); all_goals (with_reducible rfl))
  try simp only [Act.put, List.setIfInBounds_toArray, List.set_cons_zero, List.set_cons_succ]
  refine wpAnyH_take (i := 7) (oi := ?oi_7) (v := ?v_7) ?hi_7 (by kernel_rfl) ?hf_7 ?hr_7 ?hQ_7 (Or.inl ⟨?hw_7, ?hy_7⟩) (by assumption) ?rest_7
  case hi_7 => ((simp only [List.getElem?_toArray, List.getElem?_cons_succ, List.getElem?_cons_zero]); rfl)
  case hf_7 => kernel_rfl
  case hr_7 => kernel_rfl
  case hQ_7 => exact fun _ _ _ h => h
  case hw_7 => rfl
  case hy_7 => ((intro w hSw; (try dsimp only at hSw); go_simp); all_goals (with_reducible rfl))
  try simp only [Act.put, List.setIfInBounds_toArray, List.set_cons_zero, List.set_cons_succ]
  refine wpAnyH_take (i := 8) (oi := ?oi_8) (v := ?v_8) ?hi_8 (by kernel_rfl) ?hf_8 ?hr_8 ?hQ_8 (Or.inl ⟨?hw_8, ?hy_8⟩) (by assumption) ?rest_8
  case hi_8 => ((simp only [List.getElem?_toArray, List.getElem?_cons_succ, List.getElem?_cons_zero]); rfl)
  case hf_8 => kernel_rfl
  case hr_8 => kernel_rfl
  case hQ_8 => exact fun _ _ _ h => h
  case hw_8 => rfl
  case hy_8 => ((intro w hSw; (try dsimp only at hSw); go_simp); all_goals (with_reducible rfl))
  try simp only [Act.put, List.setIfInBounds_toArray, List.set_cons_zero, List.set_cons_succ]
  refine wpAnyH_ready (rs := [4]) (by kernel_rfl) (by simp) ?_
  refine AllReadyH.cons (o := ?o1_9) ?hi_9 (fun K hK => ?rest_9) AllReadyH.nil
  case hi_9 => ((simp only [List.getElem?_toArray, List.getElem?_cons_succ, List.getElem?_cons_zero]); rfl)
  go_simp
  (first | (go_at_call 31; (with_reducible refine (C1.out _).mono ?_); rintro e w2 ⟨rfl, rfl⟩) | (go_at_call 32; (with_reducible refine (C2.out _).mono ?_); rintro e w2 ⟨rfl, rfl⟩) | (go_at_call 30; (with_reducible refine (cmp_Or2 c1 c2 _ _ (by simp) (by simp)).mono ?_); rintro e w2 ⟨rfl, rfl⟩))
  try go_simp
  refine hK.out _ _ (by exact (show GW W1 _ from by repeat (first | assumption | exact GW.refl _ | refine GW.drew ?_ | refine GW.alloc ?_ _))) (fun hHeld => ?_)
  clear hK K
  try simp only [Act.put, List.setIfInBounds_toArray, List.set_cons_zero, List.set_cons_succ]
  refine wpAnyH_ready (rs := [9]) (by kernel_rfl) (by simp) ?_
  refine AllReadyH.cons (o := ?o1_10) ?hi_10 (fun K hK => ?rest_10) AllReadyH.nil
  case hi_10 => ((simp only [List.getElem?_toArray, List.getElem?_cons_succ, List.getElem?_cons_zero]); rfl)
  go_simp
  (first | (go_at_call 31; (with_reducible refine (C1.out _).mono ?_); rintro e w2 ⟨rfl, rfl⟩) | (go_at_call 32; (with_reducible refine (C2.out _).mono ?_); rintro e w2 ⟨rfl, rfl⟩) | (go_at_call 30; (with_reducible refine (cmp_Or2 c1 c2 _ _ (by simp) (by simp)).mono ?_); rintro e w2 ⟨rfl, rfl⟩))
  try go_simp
  refine hK.out _ _ (by exact (show GW W1 _ from by repeat (first | assumption | exact GW.refl _ | refine GW.drew ?_ | refine GW.alloc ?_ _))) (fun hHeld => ?_)
  clear hK K
  try simp only [Act.put, List.setIfInBounds_toArray, List.set_cons_zero, List.set_cons_succ]
  refine wpAnyH_ready (rs := [10]) (by kernel_rfl) (by simp) ?_
  refine AllReadyH.cons (o := ?o1_11) ?hi_11 (fun K hK => ?rest_11) AllReadyH.nil
  case hi_11 => ((simp only [List.getElem?_toArray, List.getElem?_cons_succ, List.getElem?_cons_zero]); rfl)
  go_simp
  refine hK.out _ _ (by exact (show GW W1 _ from by repeat (first | assumption | exact GW.refl _ | refine GW.drew ?_ | refine GW.alloc ?_ _))) (fun hHeld => ?_)
  clear hK K
  try simp only [Act.put, List.setIfInBounds_toArray, List.set_cons_zero, List.set_cons_succ]
  refine wpAnyH_ready (rs := [11]) (by kernel_rfl) (by simp) ?_
  refine AllReadyH.cons (o := ?o1_12) ?hi_12 (fun K hK => ?rest_12) AllReadyH.nil
  case hi_12 => ((simp only [List.getElem?_toArray, List.getElem?_cons_succ, List.getElem?_cons_zero]); rfl)
  go_simp
  (first | (go_at_call 31; (with_reducible refine (C1.out _).mono ?_); rintro e w2 ⟨rfl, rfl⟩) | (go_at_call 32; (with_reducible refine (C2.out _).mono ?_); rintro e w2 ⟨rfl, rfl⟩) | (go_at_call 30; (with_reducible refine (cmp_Or2 c1 c2 _ _ (by simp) (by simp)).mono ?_); rintro e w2 ⟨rfl, rfl⟩))
  try go_simp
  refine hK.out _ _ (by exact (show GW W1 _ from by repeat (first | assumption | exact GW.refl _ | refine GW.drew ?_ | refine GW.alloc ?_ _))) (fun hHeld => ?_)
  clear hK K
  try simp only [Act.put, List.setIfInBounds_toArray, List.set_cons_zero, List.set_cons_succ]
  refine wpAnyH_take (i := 12) (oi := ?oi_13) (v := ?v_13) ?hi_13 (by kernel_rfl) ?hf_13 ?hr_13 ?hQ_13 (Or.inl ⟨?hw_13, ?hy_13⟩) (by assumption) ?rest_13
  case hi_13 => ((simp only [List.getElem?_toArray, List.getElem?_cons_succ, List.getElem?_cons_zero]); rfl)
  case hf_13 => kernel_rfl
  case hr_13 => kernel_rfl
  case hQ_13 => exact fun _ _ _ h => h
  case hw_13 => rfl
  case hy_13 => ((intro w hSw; (try dsimp only at hSw); go_simp); all_goals (with_reducible rfl))
  try simp only [Act.put, List.setIfInBounds_toArray, List.set_cons_zero, List.set_cons_succ]
  refine wpAnyH_done (by kernel_rfl) ?_ _
  go_wp2
  go_ret
  exact ⟨rfl, HG.out.trans hHeld⟩

def mayB (p v : PodV) : Bool := p.crit && (!v.crit && decide (v.prio < p.prio))
theorem vic_May (p v : PodV) (w : World) : Calls Try.prog 27 #[.agg #[.string p.id, .int .i64 p.prio, .bool p.crit, .int .i64 p.r0, .int .i64 p.r1, .int .i64 p.r2, .int .i64 p.l0, .int .i64 p.l1, .int .i64 p.l2, .string p.img, .int .i64 p.size], .agg #[.string v.id, .int .i64 v.prio, .bool v.crit, .int .i64 v.r0, .int .i64 v.r1, .int .i64 v.r2, .int .i64 v.l0, .int .i64 v.l1, .int .i64 v.l2, .string v.img, .int .i64 v.size]] w fun e w' => e = .returned (.bool (mayB p v)) ∧ Below w.heap.size w w' := by
  have hw : Below w.heap.size w w := Below.refl _ _
  have hbel := hw
  have hd : mayB p v = (p.crit && (!v.crit && decide (v.prio < p.prio))) := rfl
  generalize mayB p v = r at *
  cases h1 : p.crit with
  | false =>
    rw [h1] at hd
    subst hd
    go_enter Try.func27, Try.ntmps27
    go_upto_region 1 with fail
    have a0 : ((w.alloc (.cells #[.string p.id, .int .i64 p.prio, .bool false, .int .i64 p.r0, .int .i64 p.r1, .int .i64 p.r2, .int .i64 p.l0, .int .i64 p.l1, .int .i64 p.l2, .string p.img, .int .i64 p.size] 24)).alloc (.cells #[.string v.id, .int .i64 v.prio, .bool v.crit, .int .i64 v.r0, .int .i64 v.r1, .int .i64 v.r2, .int .i64 v.l0, .int .i64 v.l1, .int .i64 v.l2, .string v.img, .int .i64 v.size] 24)).cell? ⟨w.heap.size, 0, none⟩ = some (.string p.id) := by first | (simp; done) | (rw [World.cell?_alloc_at _ _ _ _ (by simp)]; rfl) | (rw [World.cell?_alloc_past _ _ _ (by simp <;> omega), World.cell?_alloc_at _ _ _ _ (by simp)]; rfl) | (rw [World.cell?_alloc_past _ _ _ (by simp <;> omega), World.cell?_alloc_past _ _ _ (by simp <;> omega), World.cell?_alloc_at _ _ _ _ (by simp)]; rfl)
    have a1 : ((w.alloc (.cells #[.string p.id, .int .i64 p.prio, .bool false, .int .i64 p.r0, .int .i64 p.r1, .int .i64 p.r2, .int .i64 p.l0, .int .i64 p.l1, .int .i64 p.l2, .string p.img, .int .i64 p.size] 24)).alloc (.cells #[.string v.id, .int .i64 v.prio, .bool v.crit, .int .i64 v.r0, .int .i64 v.r1, .int .i64 v.r2, .int .i64 v.l0, .int .i64 v.l1, .int .i64 v.l2, .string v.img, .int .i64 v.size] 24)).cell? ⟨w.heap.size, 1, none⟩ = some (.int .i64 p.prio) := by first | (simp; done) | (rw [World.cell?_alloc_at _ _ _ _ (by simp)]; rfl) | (rw [World.cell?_alloc_past _ _ _ (by simp <;> omega), World.cell?_alloc_at _ _ _ _ (by simp)]; rfl) | (rw [World.cell?_alloc_past _ _ _ (by simp <;> omega), World.cell?_alloc_past _ _ _ (by simp <;> omega), World.cell?_alloc_at _ _ _ _ (by simp)]; rfl)
    have a2 : ((w.alloc (.cells #[.string p.id, .int .i64 p.prio, .bool false, .int .i64 p.r0, .int .i64 p.r1, .int .i64 p.r2, .int .i64 p.l0, .int .i64 p.l1, .int .i64 p.l2, .string p.img, .int .i64 p.size] 24)).alloc (.cells #[.string v.id, .int .i64 v.prio, .bool v.crit, .int .i64 v.r0, .int .i64 v.r1, .int .i64 v.r2, .int .i64 v.l0, .int .i64 v.l1, .int .i64 v.l2, .string v.img, .int .i64 v.size] 24)).cell? ⟨w.heap.size, 2, none⟩ = some (.bool false) := by first | (simp; done) | (rw [World.cell?_alloc_at _ _ _ _ (by simp)]; rfl) | (rw [World.cell?_alloc_past _ _ _ (by simp <;> omega), World.cell?_alloc_at _ _ _ _ (by simp)]; rfl) | (rw [World.cell?_alloc_past _ _ _ (by simp <;> omega), World.cell?_alloc_past _ _ _ (by simp <;> omega), World.cell?_alloc_at _ _ _ _ (by simp)]; rfl)
    have a3 : ((w.alloc (.cells #[.string p.id, .int .i64 p.prio, .bool false, .int .i64 p.r0, .int .i64 p.r1, .int .i64 p.r2, .int .i64 p.l0, .int .i64 p.l1, .int .i64 p.l2, .string p.img, .int .i64 p.size] 24)).alloc (.cells #[.string v.id, .int .i64 v.prio, .bool v.crit, .int .i64 v.r0, .int .i64 v.r1, .int .i64 v.r2, .int .i64 v.l0, .int .i64 v.l1, .int .i64 v.l2, .string v.img, .int .i64 v.size] 24)).cell? ⟨w.heap.size, 3, none⟩ = some (.int .i64 p.r0) := by first | (simp; done) | (rw [World.cell?_alloc_at _ _ _ _ (by simp)]; rfl) | (rw [World.cell?_alloc_past _ _ _ (by simp <;> omega), World.cell?_alloc_at _ _ _ _ (by simp)]; rfl) | (rw [World.cell?_alloc_past _ _ _ (by simp <;> omega), World.cell?_alloc_past _ _ _ (by simp <;> omega), World.cell?_alloc_at _ _ _ _ (by simp)]; rfl)
    have a4 : ((w.alloc (.cells #[.string p.id, .int .i64 p.prio, .bool false, .int .i64 p.r0, .int .i64 p.r1, .int .i64 p.r2, .int .i64 p.l0, .int .i64 p.l1, .int .i64 p.l2, .string p.img, .int .i64 p.size] 24)).alloc (.cells #[.string v.id, .int .i64 v.prio, .bool v.crit, .int .i64 v.r0, .int .i64 v.r1, .int .i64 v.r2, .int .i64 v.l0, .int .i64 v.l1, .int .i64 v.l2, .string v.img, .int .i64 v.size] 24)).cell? ⟨w.heap.size, 4, none⟩ = some (.int .i64 p.r1) := by first | (simp; done) | (rw [World.cell?_alloc_at _ _ _ _ (by simp)]; rfl) | (rw [World.cell?_alloc_past _ _ _ (by simp <;> omega), World.cell?_alloc_at _ _ _ _ (by simp)]; rfl) | (rw [World.cell?_alloc_past _ _ _ (by simp <;> omega), World.cell?_alloc_past _ _ _ (by simp <;> omega), World.cell?_alloc_at _ _ _ _ (by simp)]; rfl)
    have a5 : ((w.alloc (.cells #[.string p.id, .int .i64 p.prio, .bool false, .int .i64 p.r0, .int .i64 p.r1, .int .i64 p.r2, .int .i64 p.l0, .int .i64 p.l1, .int .i64 p.l2, .string p.img, .int .i64 p.size] 24)).alloc (.cells #[.string v.id, .int .i64 v.prio, .bool v.crit, .int .i64 v.r0, .int .i64 v.r1, .int .i64 v.r2, .int .i64 v.l0, .int .i64 v.l1, .int .i64 v.l2, .string v.img, .int .i64 v.size] 24)).cell? ⟨w.heap.size, 5, none⟩ = some (.int .i64 p.r2) := by first | (simp; done) | (rw [World.cell?_alloc_at _ _ _ _ (by simp)]; rfl) | (rw [World.cell?_alloc_past _ _ _ (by simp <;> omega), World.cell?_alloc_at _ _ _ _ (by simp)]; rfl) | (rw [World.cell?_alloc_past _ _ _ (by simp <;> omega), World.cell?_alloc_past _ _ _ (by simp <;> omega), World.cell?_alloc_at _ _ _ _ (by simp)]; rfl)
    have a6 : ((w.alloc (.cells #[.string p.id, .int .i64 p.prio, .bool false, .int .i64 p.r0, .int .i64 p.r1, .int .i64 p.r2, .int .i64 p.l0, .int .i64 p.l1, .int .i64 p.l2, .string p.img, .int .i64 p.size] 24)).alloc (.cells #[.string v.id, .int .i64 v.prio, .bool v.crit, .int .i64 v.r0, .int .i64 v.r1, .int .i64 v.r2, .int .i64 v.l0, .int .i64 v.l1, .int .i64 v.l2, .string v.img, .int .i64 v.size] 24)).cell? ⟨w.heap.size, 6, none⟩ = some (.int .i64 p.l0) := by first | (simp; done) | (rw [World.cell?_alloc_at _ _ _ _ (by simp)]; rfl) | (rw [World.cell?_alloc_past _ _ _ (by simp <;> omega), World.cell?_alloc_at _ _ _ _ (by simp)]; rfl) | (rw [World.cell?_alloc_past _ _ _ (by simp <;> omega), World.cell?_alloc_past _ _ _ (by simp <;> omega), World.cell?_alloc_at _ _ _ _ (by simp)]; rfl)
    have a7 : ((w.alloc (.cells #[.string p.id, .int .i64 p.prio, .bool false, .int .i64 p.r0, .int .i64 p.r1, .int .i64 p.r2, .int .i64 p.l0, .int .i64 p.l1, .int .i64 p.l2, .string p.img, .int .i64 p.size] 24)).alloc (.cells #[.string v.id, .int .i64 v.prio, .bool v.crit, .int .i64 v.r0, .int .i64 v.r1, .int .i64 v.r2, .int .i64 v.l0, .int .i64 v.l1, .int .i64 v.l2, .string v.img, .int .i64 v.size] 24)).cell? ⟨w.heap.size, 7, none⟩ = some (.int .i64 p.l1) := by first | (simp; done) | (rw [World.cell?_alloc_at _ _ _ _ (by simp)]; rfl) | (rw [World.cell?_alloc_past _ _ _ (by simp <;> omega), World.cell?_alloc_at _ _ _ _ (by simp)]; rfl) | (rw [World.cell?_alloc_past _ _ _ (by simp <;> omega), World.cell?_alloc_past _ _ _ (by simp <;> omega), World.cell?_alloc_at _ _ _ _ (by simp)]; rfl)
    have a8 : ((w.alloc (.cells #[.string p.id, .int .i64 p.prio, .bool false, .int .i64 p.r0, .int .i64 p.r1, .int .i64 p.r2, .int .i64 p.l0, .int .i64 p.l1, .int .i64 p.l2, .string p.img, .int .i64 p.size] 24)).alloc (.cells #[.string v.id, .int .i64 v.prio, .bool v.crit, .int .i64 v.r0, .int .i64 v.r1, .int .i64 v.r2, .int .i64 v.l0, .int .i64 v.l1, .int .i64 v.l2, .string v.img, .int .i64 v.size] 24)).cell? ⟨w.heap.size, 8, none⟩ = some (.int .i64 p.l2) := by first | (simp; done) | (rw [World.cell?_alloc_at _ _ _ _ (by simp)]; rfl) | (rw [World.cell?_alloc_past _ _ _ (by simp <;> omega), World.cell?_alloc_at _ _ _ _ (by simp)]; rfl) | (rw [World.cell?_alloc_past _ _ _ (by simp <;> omega), World.cell?_alloc_past _ _ _ (by simp <;> omega), World.cell?_alloc_at _ _ _ _ (by simp)]; rfl)
    have a9 : ((w.alloc (.cells #[.string p.id, .int .i64 p.prio, .bool false, .int .i64 p.r0, .int .i64 p.r1, .int .i64 p.r2, .int .i64 p.l0, .int .i64 p.l1, .int .i64 p.l2, .string p.img, .int .i64 p.size] 24)).alloc (.cells #[.string v.id, .int .i64 v.prio, .bool v.crit, .int .i64 v.r0, .int .i64 v.r1, .int .i64 v.r2, .int .i64 v.l0, .int .i64 v.l1, .int .i64 v.l2, .string v.img, .int .i64 v.size] 24)).cell? ⟨w.heap.size, 9, none⟩ = some (.string p.img) := by first | (simp; done) | (rw [World.cell?_alloc_at _ _ _ _ (by simp)]; rfl) | (rw [World.cell?_alloc_past _ _ _ (by simp <;> omega), World.cell?_alloc_at _ _ _ _ (by simp)]; rfl) | (rw [World.cell?_alloc_past _ _ _ (by simp <;> omega), World.cell?_alloc_past _ _ _ (by simp <;> omega), World.cell?_alloc_at _ _ _ _ (by simp)]; rfl)
    have a10 : ((w.alloc (.cells #[.string p.id, .int .i64 p.prio, .bool false, .int .i64 p.r0, .int .i64 p.r1, .int .i64 p.r2, .int .i64 p.l0, .int .i64 p.l1, .int .i64 p.l2, .string p.img, .int .i64 p.size] 24)).alloc (.cells #[.string v.id, .int .i64 v.prio, .bool v.crit, .int .i64 v.r0, .int .i64 v.r1, .int .i64 v.r2, .int .i64 v.l0, .int .i64 v.l1, .int .i64 v.l2, .string v.img, .int .i64 v.size] 24)).cell? ⟨w.heap.size, 10, none⟩ = some (.int .i64 p.size) := by first | (simp; done) | (rw [World.cell?_alloc_at _ _ _ _ (by simp)]; rfl) | (rw [World.cell?_alloc_past _ _ _ (by simp <;> omega), World.cell?_alloc_at _ _ _ _ (by simp)]; rfl) | (rw [World.cell?_alloc_past _ _ _ (by simp <;> omega), World.cell?_alloc_past _ _ _ (by simp <;> omega), World.cell?_alloc_at _ _ _ _ (by simp)]; rfl)
    have b0 : ((w.alloc (.cells #[.string p.id, .int .i64 p.prio, .bool false, .int .i64 p.r0, .int .i64 p.r1, .int .i64 p.r2, .int .i64 p.l0, .int .i64 p.l1, .int .i64 p.l2, .string p.img, .int .i64 p.size] 24)).alloc (.cells #[.string v.id, .int .i64 v.prio, .bool v.crit, .int .i64 v.r0, .int .i64 v.r1, .int .i64 v.r2, .int .i64 v.l0, .int .i64 v.l1, .int .i64 v.l2, .string v.img, .int .i64 v.size] 24)).cell? ⟨w.heap.size + 1, 0, none⟩ = some (.string v.id) := by first | (simp; done) | (rw [World.cell?_alloc_at _ _ _ _ (by simp)]; rfl) | (rw [World.cell?_alloc_past _ _ _ (by simp <;> omega), World.cell?_alloc_at _ _ _ _ (by simp)]; rfl) | (rw [World.cell?_alloc_past _ _ _ (by simp <;> omega), World.cell?_alloc_past _ _ _ (by simp <;> omega), World.cell?_alloc_at _ _ _ _ (by simp)]; rfl)
    have b1 : ((w.alloc (.cells #[.string p.id, .int .i64 p.prio, .bool false, .int .i64 p.r0, .int .i64 p.r1, .int .i64 p.r2, .int .i64 p.l0, .int .i64 p.l1, .int .i64 p.l2, .string p.img, .int .i64 p.size] 24)).alloc (.cells #[.string v.id, .int .i64 v.prio, .bool v.crit, .int .i64 v.r0, .int .i64 v.r1, .int .i64 v.r2, .int .i64 v.l0, .int .i64 v.l1, .int .i64 v.l2, .string v.img, .int .i64 v.size] 24)).cell? ⟨w.heap.size + 1, 1, none⟩ = some (.int .i64 v.prio) := by first | (simp; done) | (rw [World.cell?_alloc_at _ _ _ _ (by simp)]; rfl) | (rw [World.cell?_alloc_past _ _ _ (by simp <;> omega), World.cell?_alloc_at _ _ _ _ (by simp)]; rfl) | (rw [World.cell?_alloc_past _ _ _ (by simp <;> omega), World.cell?_alloc_past _ _ _ (by simp <;> omega), World.cell?_alloc_at _ _ _ _ (by simp)]; rfl)
    have b2 : ((w.alloc (.cells #[.string p.id, .int .i64 p.prio, .bool false, .int .i64 p.r0, .int .i64 p.r1, .int .i64 p.r2, .int .i64 p.l0, .int .i64 p.l1, .int .i64 p.l2, .string p.img, .int .i64 p.size] 24)).alloc (.cells #[.string v.id, .int .i64 v.prio, .bool v.crit, .int .i64 v.r0, .int .i64 v.r1, .int .i64 v.r2, .int .i64 v.l0, .int .i64 v.l1, .int .i64 v.l2, .string v.img, .int .i64 v.size] 24)).cell? ⟨w.heap.size + 1, 2, none⟩ = some (.bool v.crit) := by first | (simp; done) | (rw [World.cell?_alloc_at _ _ _ _ (by simp)]; rfl) | (rw [World.cell?_alloc_past _ _ _ (by simp <;> omega), World.cell?_alloc_at _ _ _ _ (by simp)]; rfl) | (rw [World.cell?_alloc_past _ _ _ (by simp <;> omega), World.cell?_alloc_past _ _ _ (by simp <;> omega), World.cell?_alloc_at _ _ _ _ (by simp)]; rfl)
    have b3 : ((w.alloc (.cells #[.string p.id, .int .i64 p.prio, .bool false, .int .i64 p.r0, .int .i64 p.r1, .int .i64 p.r2, .int .i64 p.l0, .int .i64 p.l1, .int .i64 p.l2, .string p.img, .int .i64 p.size] 24)).alloc (.cells #[.string v.id, .int .i64 v.prio, .bool v.crit, .int .i64 v.r0, .int .i64 v.r1, .int .i64 v.r2, .int .i64 v.l0, .int .i64 v.l1, .int .i64 v.l2, .string v.img, .int .i64 v.size] 24)).cell? ⟨w.heap.size + 1, 3, none⟩ = some (.int .i64 v.r0) := by first | (simp; done) | (rw [World.cell?_alloc_at _ _ _ _ (by simp)]; rfl) | (rw [World.cell?_alloc_past _ _ _ (by simp <;> omega), World.cell?_alloc_at _ _ _ _ (by simp)]; rfl) | (rw [World.cell?_alloc_past _ _ _ (by simp <;> omega), World.cell?_alloc_past _ _ _ (by simp <;> omega), World.cell?_alloc_at _ _ _ _ (by simp)]; rfl)
    have b4 : ((w.alloc (.cells #[.string p.id, .int .i64 p.prio, .bool false, .int .i64 p.r0, .int .i64 p.r1, .int .i64 p.r2, .int .i64 p.l0, .int .i64 p.l1, .int .i64 p.l2, .string p.img, .int .i64 p.size] 24)).alloc (.cells #[.string v.id, .int .i64 v.prio, .bool v.crit, .int .i64 v.r0, .int .i64 v.r1, .int .i64 v.r2, .int .i64 v.l0, .int .i64 v.l1, .int .i64 v.l2, .string v.img, .int .i64 v.size] 24)).cell? ⟨w.heap.size + 1, 4, none⟩ = some (.int .i64 v.r1) := by first | (simp; done) | (rw [World.cell?_alloc_at _ _ _ _ (by simp)]; rfl) | (rw [World.cell?_alloc_past _ _ _ (by simp <;> omega), World.cell?_alloc_at _ _ _ _ (by simp)]; rfl) | (rw [World.cell?_alloc_past _ _ _ (by simp <;> omega), World.cell?_alloc_past _ _ _ (by simp <;> omega), World.cell?_alloc_at _ _ _ _ (by simp)]; rfl)
    have b5 : ((w.alloc (.cells #[.string p.id, .int .i64 p.prio, .bool false, .int .i64 p.r0, .int .i64 p.r1, .int .i64 p.r2, .int .i64 p.l0, .int .i64 p.l1, .int .i64 p.l2, .string p.img, .int .i64 p.size] 24)).alloc (.cells #[.string v.id, .int .i64 v.prio, .bool v.crit, .int .i64 v.r0, .int .i64 v.r1, .int .i64 v.r2, .int .i64 v.l0, .int .i64 v.l1, .int .i64 v.l2, .string v.img, .int .i64 v.size] 24)).cell? ⟨w.heap.size + 1, 5, none⟩ = some (.int .i64 v.r2) := by first | (simp; done) | (rw [World.cell?_alloc_at _ _ _ _ (by simp)]; rfl) | (rw [World.cell?_alloc_past _ _ _ (by simp <;> omega), World.cell?_alloc_at _ _ _ _ (by simp)]; rfl) | (rw [World.cell?_alloc_past _ _ _ (by simp <;> omega), World.cell?_alloc_past _ _ _ (by simp <;> omega), World.cell?_alloc_at _ _ _ _ (by simp)]; rfl)
    have b6 : ((w.alloc (.cells #[.string p.id, .int .i64 p.prio, .bool false, .int .i64 p.r0, .int .i64 p.r1, .int .i64 p.r2, .int .i64 p.l0, .int .i64 p.l1, .int .i64 p.l2, .string p.img, .int .i64 p.size] 24)).alloc (.cells #[.string v.id, .int .i64 v.prio, .bool v.crit, .int .i64 v.r0, .int .i64 v.r1, .int .i64 v.r2, .int .i64 v.l0, .int .i64 v.l1, .int .i64 v.l2, .string v.img, .int .i64 v.size] 24)).cell? ⟨w.heap.size + 1, 6, none⟩ = some (.int .i64 v.l0) := by first | (simp; done) | (rw [World.cell?_alloc_at _ _ _ _ (by simp)]; rfl) | (rw [World.cell?_alloc_past _ _ _ (by simp <;> omega), World.cell?_alloc_at _ _ _ _ (by simp)]; rfl) | (rw [World.cell?_alloc_past _ _ _ (by simp <;> omega), World.cell?_alloc_past _ _ _ (by simp <;> omega), World.cell?_alloc_at _ _ _ _ (by simp)]; rfl)
    have b7 : ((w.alloc (.cells #[.string p.id, .int .i64 p.prio, .bool false, .int .i64 p.r0, .int .i64 p.r1, .int .i64 p.r2, .int .i64 p.l0, .int .i64 p.l1, .int .i64 p.l2, .string p.img, .int .i64 p.size] 24)).alloc (.cells #[.string v.id, .int .i64 v.prio, .bool v.crit, .int .i64 v.r0, .int .i64 v.r1, .int .i64 v.r2, .int .i64 v.l0, .int .i64 v.l1, .int .i64 v.l2, .string v.img, .int .i64 v.size] 24)).cell? ⟨w.heap.size + 1, 7, none⟩ = some (.int .i64 v.l1) := by first | (simp; done) | (rw [World.cell?_alloc_at _ _ _ _ (by simp)]; rfl) | (rw [World.cell?_alloc_past _ _ _ (by simp <;> omega), World.cell?_alloc_at _ _ _ _ (by simp)]; rfl) | (rw [World.cell?_alloc_past _ _ _ (by simp <;> omega), World.cell?_alloc_past _ _ _ (by simp <;> omega), World.cell?_alloc_at _ _ _ _ (by simp)]; rfl)
    have b8 : ((w.alloc (.cells #[.string p.id, .int .i64 p.prio, .bool false, .int .i64 p.r0, .int .i64 p.r1, .int .i64 p.r2, .int .i64 p.l0, .int .i64 p.l1, .int .i64 p.l2, .string p.img, .int .i64 p.size] 24)).alloc (.cells #[.string v.id, .int .i64 v.prio, .bool v.crit, .int .i64 v.r0, .int .i64 v.r1, .int .i64 v.r2, .int .i64 v.l0, .int .i64 v.l1, .int .i64 v.l2, .string v.img, .int .i64 v.size] 24)).cell? ⟨w.heap.size + 1, 8, none⟩ = some (.int .i64 v.l2) := by first | (simp; done) | (rw [World.cell?_alloc_at _ _ _ _ (by simp)]; rfl) | (rw [World.cell?_alloc_past _ _ _ (by simp <;> omega), World.cell?_alloc_at _ _ _ _ (by simp)]; rfl) | (rw [World.cell?_alloc_past _ _ _ (by simp <;> omega), World.cell?_alloc_past _ _ _ (by simp <;> omega), World.cell?_alloc_at _ _ _ _ (by simp)]; rfl)
    have b9 : ((w.alloc (.cells #[.string p.id, .int .i64 p.prio, .bool false, .int .i64 p.r0, .int .i64 p.r1, .int .i64 p.r2, .int .i64 p.l0, .int .i64 p.l1, .int .i64 p.l2, .string p.img, .int .i64 p.size] 24)).alloc (.cells #[.string v.id, .int .i64 v.prio, .bool v.crit, .int .i64 v.r0, .int .i64 v.r1, .int .i64 v.r2, .int .i64 v.l0, .int .i64 v.l1, .int .i64 v.l2, .string v.img, .int .i64 v.size] 24)).cell? ⟨w.heap.size + 1, 9, none⟩ = some (.string v.img) := by first | (simp; done) | (rw [World.cell?_alloc_at _ _ _ _ (by simp)]; rfl) | (rw [World.cell?_alloc_past _ _ _ (by simp <;> omega), World.cell?_alloc_at _ _ _ _ (by simp)]; rfl) | (rw [World.cell?_alloc_past _ _ _ (by simp <;> omega), World.cell?_alloc_past _ _ _ (by simp <;> omega), World.cell?_alloc_at _ _ _ _ (by simp)]; rfl)
    have b10 : ((w.alloc (.cells #[.string p.id, .int .i64 p.prio, .bool false, .int .i64 p.r0, .int .i64 p.r1, .int .i64 p.r2, .int .i64 p.l0, .int .i64 p.l1, .int .i64 p.l2, .string p.img, .int .i64 p.size] 24)).alloc (.cells #[.string v.id, .int .i64 v.prio, .bool v.crit, .int .i64 v.r0, .int .i64 v.r1, .int .i64 v.r2, .int .i64 v.l0, .int .i64 v.l1, .int .i64 v.l2, .string v.img, .int .i64 v.size] 24)).cell? ⟨w.heap.size + 1, 10, none⟩ = some (.int .i64 v.size) := by first | (simp; done) | (rw [World.cell?_alloc_at _ _ _ _ (by simp)]; rfl) | (rw [World.cell?_alloc_past _ _ _ (by simp <;> omega), World.cell?_alloc_at _ _ _ _ (by simp)]; rfl) | (rw [World.cell?_alloc_past _ _ _ (by simp <;> omega), World.cell?_alloc_past _ _ _ (by simp <;> omega), World.cell?_alloc_at _ _ _ _ (by simp)]; rfl)
    have hb2 := (by repeat (first | exact hbel | refine belAlloc ?_ _ | refine belDrew ?_ | refine belSet ?_ _ _ (by simp)) : Below w.heap.size w ((w.alloc (.cells #[.string p.id, .int .i64 p.prio, .bool false, .int .i64 p.r0, .int .i64 p.r1, .int .i64 p.r2, .int .i64 p.l0, .int .i64 p.l1, .int .i64 p.l2, .string p.img, .int .i64 p.size] 24)).alloc (.cells #[.string v.id, .int .i64 v.prio, .bool v.crit, .int .i64 v.r0, .int .i64 v.r1, .int .i64 v.r2, .int .i64 v.l0, .int .i64 v.l1, .int .i64 v.l2, .string v.img, .int .i64 v.size] 24)))
    replace hw := belStep hw hb2
    clear hb2 hbel
    generalize (w.alloc (.cells #[.string p.id, .int .i64 p.prio, .bool false, .int .i64 p.r0, .int .i64 p.r1, .int .i64 p.r2, .int .i64 p.l0, .int .i64 p.l1, .int .i64 p.l2, .string p.img, .int .i64 p.size] 24)).alloc (.cells #[.string v.id, .int .i64 v.prio, .bool v.crit, .int .i64 v.r0, .int .i64 v.r1, .int .i64 v.r2, .int .i64 v.l0, .int .i64 v.l1, .int .i64 v.l2, .string v.img, .int .i64 v.size] 24) = W1 at *
    replace a0 := keep a0
    replace a1 := keep a1
    replace a2 := keep a2
    replace a3 := keep a3
    replace a4 := keep a4
    replace a5 := keep a5
    replace a6 := keep a6
    replace a7 := keep a7
    replace a8 := keep a8
    replace a9 := keep a9
    replace a10 := keep a10
    replace b0 := keep b0
    replace b1 := keep b1
    replace b2 := keep b2
    replace b3 := keep b3
    replace b4 := keep b4
    replace b5 := keep b5
    replace b6 := keep b6
    replace b7 := keep b7
    replace b8 := keep b8
    replace b9 := keep b9
    replace b10 := keep b10
    have hbel : Below W1.heap.size W1 W1 := Below.refl _ _
    skip
    go_wp2
    go_ret
    exact ⟨rfl, belStep hw hbel⟩
  | true =>
    rw [h1] at hd
    cases h2 : v.crit with
    | true =>
      rw [h2] at hd
      subst hd
      go_enter Try.func27, Try.ntmps27
      go_upto_region 1 with fail
      have a0 : ((w.alloc (.cells #[.string p.id, .int .i64 p.prio, .bool true, .int .i64 p.r0, .int .i64 p.r1, .int .i64 p.r2, .int .i64 p.l0, .int .i64 p.l1, .int .i64 p.l2, .string p.img, .int .i64 p.size] 24)).alloc (.cells #[.string v.id, .int .i64 v.prio, .bool true, .int .i64 v.r0, .int .i64 v.r1, .int .i64 v.r2, .int .i64 v.l0, .int .i64 v.l1, .int .i64 v.l2, .string v.img, .int .i64 v.size] 24)).cell? ⟨w.heap.size, 0, none⟩ = some (.string p.id) := by first | (simp; done) | (rw [World.cell?_alloc_at _ _ _ _ (by simp)]; rfl) | (rw [World.cell?_alloc_past _ _ _ (by simp <;> omega), World.cell?_alloc_at _ _ _ _ (by simp)]; rfl) | (rw [World.cell?_alloc_past _ _ _ (by simp <;> omega), World.cell?_alloc_past _ _ _ (by simp <;> omega), World.cell?_alloc_at _ _ _ _ (by simp)]; rfl)
      have a1 : ((w.alloc (.cells #[.string p.id, .int .i64 p.prio, .bool true, .int .i64 p.r0, .int .i64 p.r1, .int .i64 p.r2, .int .i64 p.l0, .int .i64 p.l1, .int .i64 p.l2, .string p.img, .int .i64 p.size] 24)).alloc (.cells #[.string v.id, .int .i64 v.prio, .bool true, .int .i64 v.r0, .int .i64 v.r1, .int .i64 v.r2, .int .i64 v.l0, .int .i64 v.l1, .int .i64 v.l2, .string v.img, .int .i64 v.size] 24)).cell? ⟨w.heap.size, 1, none⟩ = some (.int .i64 p.prio) := by first | (simp; done) | (rw [World.cell?_alloc_at _ _ _ _ (by simp)]; rfl) | (rw [World.cell?_alloc_past _ _ _ (by simp <;> omega), World.cell?_alloc_at _ _ _ _ (by simp)]; rfl) | (rw [World.cell?_alloc_past _ _ _ (by simp <;> omega), World.cell?_alloc_past _ _ _ (by simp <;> omega), World.cell?_alloc_at _ _ _ _ (by simp)]; rfl)
      have a2 : ((w.alloc (.cells #[.string p.id, .int .i64 p.prio, .bool true, .int .i64 p.r0, .int .i64 p.r1, .int .i64 p.r2, .int .i64 p.l0, .int .i64 p.l1, .int .i64 p.l2, .string p.img, .int .i64 p.size] 24)).alloc (.cells #[.string v.id, .int .i64 v.prio, .bool true, .int .i64 v.r0, .int .i64 v.r1, .int .i64 v.r2, .int .i64 v.l0, .int .i64 v.l1, .int .i64 v.l2, .string v.img, .int .i64 v.size] 24)).cell? ⟨w.heap.size, 2, none⟩ = some (.bool true) := by first | (simp; done) | (rw [World.cell?_alloc_at _ _ _ _ (by simp)]; rfl) | (rw [World.cell?_alloc_past _ _ _ (by simp <;> omega), World.cell?_alloc_at _ _ _ _ (by simp)]; rfl) | (rw [World.cell?_alloc_past _ _ _ (by simp <;> omega), World.cell?_alloc_past _ _ _ (by simp <;> omega), World.cell?_alloc_at _ _ _ _ (by simp)]; rfl)
      have a3 : ((w.alloc (.cells #[.string p.id, .int .i64 p.prio, .bool true, .int .i64 p.r0, .int .i64 p.r1, .int .i64 p.r2, .int .i64 p.l0, .int .i64 p.l1, .int .i64 p.l2, .string p.img, .int .i64 p.size] 24)).alloc (.cells #[.string v.id, .int .i64 v.prio, .bool true, .int .i64 v.r0, .int .i64 v.r1, .int .i64 v.r2, .int .i64 v.l0, .int .i64 v.l1, .int .i64 v.l2, .string v.img, .int .i64 v.size] 24)).cell? ⟨w.heap.size, 3, none⟩ = some (.int .i64 p.r0) := by first | (simp; done) | (rw [World.cell?_alloc_at _ _ _ _ (by simp)]; rfl) | (rw [World.cell?_alloc_past _ _ _ (by simp <;> omega), World.cell?_alloc_at _ _ _ _ (by simp)]; rfl) | (rw [World.cell?_alloc_past _ _ _ (by simp <;> omega), World.cell?_alloc_past _ _ _ (by simp <;> omega), World.cell?_alloc_at _ _ _ _ (by simp)]; rfl)
      have a4 : ((w.alloc (.cells #[.string p.id, .int .i64 p.prio, .bool true, .int .i64 p.r0, .int .i64 p.r1, .int .i64 p.r2, .int .i64 p.l0, .int .i64 p.l1, .int .i64 p.l2, .string p.img, .int .i64 p.size] 24)).alloc (.cells #[.string v.id, .int .i64 v.prio, .bool true, .int .i64 v.r0, .int .i64 v.r1, .int .i64 v.r2, .int .i64 v.l0, .int .i64 v.l1, .int .i64 v.l2, .string v.img, .int .i64 v.size] 24)).cell? ⟨w.heap.size, 4, none⟩ = some (.int .i64 p.r1) := by first | (simp; done) | (rw [World.cell?_alloc_at _ _ _ _ (by simp)]; rfl) | (rw [World.cell?_alloc_past _ _ _ (by simp <;> omega), World.cell?_alloc_at _ _ _ _ (by simp)]; rfl) | (rw [World.cell?_alloc_past _ _ _ (by simp <;> omega), World.cell?_alloc_past _ _ _ (by simp <;> omega), World.cell?_alloc_at _ _ _ _ (by simp)]; rfl)
      have a5 : ((w.alloc (.cells #[.string p.id, .int .i64 p.prio, .bool true, .int .i64 p.r0, .int .i64 p.r1, .int .i64 p.r2, .int .i64 p.l0, .int .i64 p.l1, .int .i64 p.l2, .string p.img, .int .i64 p.size] 24)).alloc (.cells #[.string v.id, .int .i64 v.prio, .bool true, .int .i64 v.r0, .int .i64 v.r1, .int .i64 v.r2, .int .i64 v.l0, .int .i64 v.l1, .int .i64 v.l2, .string v.img, .int .i64 v.size] 24)).cell? ⟨w.heap.size, 5, none⟩ = some (.int .i64 p.r2) := by first | (simp; done) | (rw [World.cell?_alloc_at _ _ _ _ (by simp)]; rfl) | (rw [World.cell?_alloc_past _ _ _ (by simp <;> omega), World.cell?_alloc_at _ _ _ _ (by simp)]; rfl) | (rw [World.cell?_alloc_past _ _ _ (by simp <;> omega), World.cell?_alloc_past _ _ _ (by simp <;> omega), World.cell?_alloc_at _ _ _ _ (by simp)]; rfl)
      have a6 : ((w.alloc (.cells #[.string p.id, .int .i64 p.prio, .bool true, .int .i64 p.r0, .int .i64 p.r1, .int .i64 p.r2, .int .i64 p.l0, .int .i64 p.l1, .int .i64 p.l2, .string p.img, .int .i64 p.size] 24)).alloc (.cells #[.string v.id, .int .i64 v.prio, .bool true, .int .i64 v.r0, .int .i64 v.r1, .int .i64 v.r2, .int .i64 v.l0, .int .i64 v.l1, .int .i64 v.l2, .string v.img, .int .i64 v.size] 24)).cell? ⟨w.heap.size, 6, none⟩ = some (.int .i64 p.l0) := by first | (simp; done) | (rw [World.cell?_alloc_at _ _ _ _ (by simp)]; rfl) | (rw [World.cell?_alloc_past _ _ _ (by simp <;> omega), World.cell?_alloc_at _ _ _ _ (by simp)]; rfl) | (rw [World.cell?_alloc_past _ _ _ (by simp <;> omega), World.cell?_alloc_past _ _ _ (by simp <;> omega), World.cell?_alloc_at _ _ _ _ (by simp)]; rfl)
      have a7 : ((w.alloc (.cells #[.string p.id, .int .i64 p.prio, .bool true, .int .i64 p.r0, .int .i64 p.r1, .int .i64 p.r2, .int .i64 p.l0, .int .i64 p.l1, .int .i64 p.l2, .string p.img, .int .i64 p.size] 24)).alloc (.cells #[.string v.id, .int .i64 v.prio, .bool true, .int .i64 v.r0, .int .i64 v.r1, .int .i64 v.r2, .int .i64 v.l0, .int .i64 v.l1, .int .i64 v.l2, .string v.img, .int .i64 v.size] 24)).cell? ⟨w.heap.size, 7, none⟩ = some (.int .i64 p.l1) := by first | (simp; done) | (rw [World.cell?_alloc_at _ _ _ _ (by simp)]; rfl) | (rw [World.cell?_alloc_past _ _ _ (by simp <;> omega), World.cell?_alloc_at _ _ _ _ (by simp)]; rfl) | (rw [World.cell?_alloc_past _ _ _ (by simp <;> omega), World.cell?_alloc_past _ _ _ (by simp <;> omega), World.cell?_alloc_at _ _ _ _ (by simp)]; rfl)
      have a8 : ((w.alloc (.cells #[.string p.id, .int .i64 p.prio, .bool true, .int .i64 p.r0, .int .i64 p.r1, .int .i64 p.r2, .int .i64 p.l0, .int .i64 p.l1, .int .i64 p.l2, .string p.img, .int .i64 p.size] 24)).alloc (.cells #[.string v.id, .int .i64 v.prio, .bool true, .int .i64 v.r0, .int .i64 v.r1, .int .i64 v.r2, .int .i64 v.l0, .int .i64 v.l1, .int .i64 v.l2, .string v.img, .int .i64 v.size] 24)).cell? ⟨w.heap.size, 8, none⟩ = some (.int .i64 p.l2) := by first | (simp; done) | (rw [World.cell?_alloc_at _ _ _ _ (by simp)]; rfl) | (rw [World.cell?_alloc_past _ _ _ (by simp <;> omega), World.cell?_alloc_at _ _ _ _ (by simp)]; rfl) | (rw [World.cell?_alloc_past _ _ _ (by simp <;> omega), World.cell?_alloc_past _ _ _ (by simp <;> omega), World.cell?_alloc_at _ _ _ _ (by simp)]; rfl)
      have a9 : ((w.alloc (.cells #[.string p.id, .int .i64 p.prio, .bool true, .int .i64 p.r0, .int .i64 p.r1, .int .i64 p.r2, .int .i64 p.l0, .int .i64 p.l1, .int .i64 p.l2, .string p.img, .int .i64 p.size] 24)).alloc (.cells #[.string v.id, .int .i64 v.prio, .bool true, .int .i64 v.r0, .int .i64 v.r1, .int .i64 v.r2, .int .i64 v.l0, .int .i64 v.l1, .int .i64 v.l2, .string v.img, .int .i64 v.size] 24)).cell? ⟨w.heap.size, 9, none⟩ = some (.string p.img) := by first | (simp; done) | (rw [World.cell?_alloc_at _ _ _ _ (by simp)]; rfl) | (rw [World.cell?_alloc_past _ _ _ (by simp <;> omega), World.cell?_alloc_at _ _ _ _ (by simp)]; rfl) | (rw [World.cell?_alloc_past _ _ _ (by simp <;> omega), World.cell?_alloc_past _ _ _ (by simp <;> omega), World.cell?_alloc_at _ _ _ _ (by simp)]; rfl)
      have a10 : ((w.alloc (.cells #[.string p.id, .int .i64 p.prio, .bool true, .int .i64 p.r0, .int .i64 p.r1, .int .i64 p.r2, .int .i64 p.l0, .int .i64 p.l1, .int .i64 p.l2, .string p.img, .int .i64 p.size] 24)).alloc (.cells #[.string v.id, .int .i64 v.prio, .bool true, .int .i64 v.r0, .int .i64 v.r1, .int .i64 v.r2, .int .i64 v.l0, .int .i64 v.l1, .int .i64 v.l2, .string v.img, .int .i64 v.size] 24)).cell? ⟨w.heap.size, 10, none⟩ = some (.int .i64 p.size) := by first | (simp; done) | (rw [World.cell?_alloc_at _ _ _ _ (by simp)]; rfl) | (rw [World.cell?_alloc_past _ _ _ (by simp <;> omega), World.cell?_alloc_at _ _ _ _ (by simp)]; rfl) | (rw [World.cell?_alloc_past _ _ _ (by simp <;> omega), World.cell?_alloc_past _ _ _ (by simp <;> omega), World.cell?_alloc_at _ _ _ _ (by simp)]; rfl)
      have b0 : ((w.alloc (.cells #[.string p.id, .int .i64 p.prio, .bool true, .int .i64 p.r0, .int .i64 p.r1, .int .i64 p.r2, .int .i64 p.l0, .int .i64 p.l1, .int .i64 p.l2, .string p.img, .int .i64 p.size] 24)).alloc (.cells #[.string v.id, .int .i64 v.prio, .bool true, .int .i64 v.r0, .int .i64 v.r1, .int .i64 v.r2, .int .i64 v.l0, .int .i64 v.l1, .int .i64 v.l2, .string v.img, .int .i64 v.size] 24)).cell? ⟨w.heap.size + 1, 0, none⟩ = some (.string v.id) := by first | (simp; done) | (rw [World.cell?_alloc_at _ _ _ _ (by simp)]; rfl) | (rw [World.cell?_alloc_past _ _ _ (by simp <;> omega), World.cell?_alloc_at _ _ _ _ (by simp)]; rfl) | (rw [World.cell?_alloc_past _ _ _ (by simp <;> omega), World.cell?_alloc_past _ _ _ (by simp <;> omega), World.cell?_alloc_at _ _ _ _ (by simp)]; rfl)
      have b1 : ((w.alloc (.cells #[.string p.id, .int .i64 p.prio, .bool true, .int .i64 p.r0, .int .i64 p.r1, .int .i64 p.r2, .int .i64 p.l0, .int .i64 p.l1, .int .i64 p.l2, .string p.img, .int .i64 p.size] 24)).alloc (.cells #[.string v.id, .int .i64 v.prio, .bool true, .int .i64 v.r0, .int .i64 v.r1, .int .i64 v.r2, .int .i64 v.l0, .int .i64 v.l1, .int .i64 v.l2, .string v.img, .int .i64 v.size] 24)).cell? ⟨w.heap.size + 1, 1, none⟩ = some (.int .i64 v.prio) := by first | (simp; done) | (rw [World.cell?_alloc_at _ _ _ _ (by simp)]; rfl) | (rw [World.cell?_alloc_past _ _ _ (by simp <;> omega), World.cell?_alloc_at _ _ _ _ (by simp)]; rfl) | (rw [World.cell?_alloc_past _ _ _ (by simp <;> omega), World.cell?_alloc_past _ _ _ (by simp <;> omega), World.cell?_alloc_at _ _ _ _ (by simp)]; rfl)
      have b2 : ((w.alloc (.cells #[.string p.id, .int .i64 p.prio, .bool true, .int .i64 p.r0, .int .i64 p.r1, .int .i64 p.r2, .int .i64 p.l0, .int .i64 p.l1, .int .i64 p.l2, .string p.img, .int .i64 p.size] 24)).alloc (.cells #[.string v.id, .int .i64 v.prio, .bool true, .int .i64 v.r0, .int .i64 v.r1, .int .i64 v.r2, .int .i64 v.l0, .int .i64 v.l1, .int .i64 v.l2, .string v.img, .int .i64 v.size] 24)).cell? ⟨w.heap.size + 1, 2, none⟩ = some (.bool true) := by first | (simp; done) | (rw [World.cell?_alloc_at _ _ _ _ (by simp)]; rfl) | (rw [World.cell?_alloc_past _ _ _ (by simp <;> omega), World.cell?_alloc_at _ _ _ _ (by simp)]; rfl) | (rw [World.cell?_alloc_past _ _ _ (by simp <;> omega), World.cell?_alloc_past _ _ _ (by simp <;> omega), World.cell?_alloc_at _ _ _ _ (by simp)]; rfl)
      have b3 : ((w.alloc (.cells #[.string p.id, .int .i64 p.prio, .bool true, .int .i64 p.r0, .int .i64 p.r1, .int .i64 p.r2, .int .i64 p.l0, .int .i64 p.l1, .int .i64 p.l2, .string p.img, .int .i64 p.size] 24)).alloc (.cells #[.string v.id, .int .i64 v.prio, .bool true, .int .i64 v.r0, .int .i64 v.r1, .int .i64 v.r2, .int .i64 v.l0, .int .i64 v.l1, .int .i64 v.l2, .string v.img, .int .i64 v.size] 24)).cell? ⟨w.heap.size + 1, 3, none⟩ = some (.int .i64 v.r0) := by first | (simp; done) | (rw [World.cell?_alloc_at _ _ _ _ (by simp)]; rfl) | (rw [World.cell?_alloc_past _ _ _ (by simp <;> omega), World.cell?_alloc_at _ _ _ _ (by simp)]; rfl) | (rw [World.cell?_alloc_past _ _ _ (by simp <;> omega), World.cell?_alloc_past _ _ _ (by simp <;> omega), World.cell?_alloc_at _ _ _ _ (by simp)]; rfl)
      have b4 : ((w.alloc (.cells #[.string p.id, .int .i64 p.prio, .bool true, .int .i64 p.r0, .int .i64 p.r1, .int .i64 p.r2, .int .i64 p.l0, .int .i64 p.l1, .int .i64 p.l2, .string p.img, .int .i64 p.size] 24)).alloc (.cells #[.string v.id, .int .i64 v.prio, .bool true, .int .i64 v.r0, .int .i64 v.r1, .int .i64 v.r2, .int .i64 v.l0, .int .i64 v.l1, .int .i64 v.l2, .string v.img, .int .i64 v.size] 24)).cell? ⟨w.heap.size + 1, 4, none⟩ = some (.int .i64 v.r1) := by first | (simp; done) | (rw [World.cell?_alloc_at _ _ _ _ (by simp)]; rfl) | (rw [World.cell?_alloc_past _ _ _ (by simp <;> omega), World.cell?_alloc_at _ _ _ _ (by simp)]; rfl) | (rw [World.cell?_alloc_past _ _ _ (by simp <;> omega), World.cell?_alloc_past _ _ _ (by simp <;> omega), World.cell?_alloc_at _ _ _ _ (by simp)]; rfl)
      have b5 : ((w.alloc (.cells #[.string p.id, .int .i64 p.prio, .bool true, .int .i64 p.r0, .int .i64 p.r1, .int .i64 p.r2, .int .i64 p.l0, .int .i64 p.l1, .int .i64 p.l2, .string p.img, .int .i64 p.size] 24)).alloc (.cells #[.string v.id, .int .i64 v.prio, .bool true, .int .i64 v.r0, .int .i64 v.r1, .int .i64 v.r2, .int .i64 v.l0, .int .i64 v.l1, .int .i64 v.l2, .string v.img, .int .i64 v.size] 24)).cell? ⟨w.heap.size + 1, 5, none⟩ = some (.int .i64 v.r2) := by first | (simp; done) | (rw [World.cell?_alloc_at _ _ _ _ (by simp)]; rfl) | (rw [World.cell?_alloc_past _ _ _ (by simp <;> omega), World.cell?_alloc_at _ _ _ _ (by simp)]; rfl) | (rw [World.cell?_alloc_past _ _ _ (by simp <;> omega), World.cell?_alloc_past _ _ _ (by simp <;> omega), World.cell?_alloc_at _ _ _ _ (by simp)]; rfl)
      have b6 : ((w.alloc (.cells #[.string p.id, .int .i64 p.prio, .bool true, .int .i64 p.r0, .int .i64 p.r1, .int .i64 p.r2, .int .i64 p.l0, .int .i64 p.l1, .int .i64 p.l2, .string p.img, .int .i64 p.size] 24)).alloc (.cells #[.string v.id, .int .i64 v.prio, .bool true, .int .i64 v.r0, .int .i64 v.r1, .int .i64 v.r2, .int .i64 v.l0, .int .i64 v.l1, .int .i64 v.l2, .string v.img, .int .i64 v.size] 24)).cell? ⟨w.heap.size + 1, 6, none⟩ = some (.int .i64 v.l0) := by first | (simp; done) | (rw [World.cell?_alloc_at _ _ _ _ (by simp)]; rfl) | (rw [World.cell?_alloc_past _ _ _ (by simp <;> omega), World.cell?_alloc_at _ _ _ _ (by simp)]; rfl) | (rw [World.cell?_alloc_past _ _ _ (by simp <;> omega), World.cell?_alloc_past _ _ _ (by simp <;> omega), World.cell?_alloc_at _ _ _ _ (by simp)]; rfl)
      have b7 : ((w.alloc (.cells #[.string p.id, .int .i64 p.prio, .bool true, .int .i64 p.r0, .int .i64 p.r1, .int .i64 p.r2, .int .i64 p.l0, .int .i64 p.l1, .int .i64 p.l2, .string p.img, .int .i64 p.size] 24)).alloc (.cells #[.string v.id, .int .i64 v.prio, .bool true, .int .i64 v.r0, .int .i64 v.r1, .int .i64 v.r2, .int .i64 v.l0, .int .i64 v.l1, .int .i64 v.l2, .string v.img, .int .i64 v.size] 24)).cell? ⟨w.heap.size + 1, 7, none⟩ = some (.int .i64 v.l1) := by first | (simp; done) | (rw [World.cell?_alloc_at _ _ _ _ (by simp)]; rfl) | (rw [World.cell?_alloc_past _ _ _ (by simp <;> omega), World.cell?_alloc_at _ _ _ _ (by simp)]; rfl) | (rw [World.cell?_alloc_past _ _ _ (by simp <;> omega), World.cell?_alloc_past _ _ _ (by simp <;> omega), World.cell?_alloc_at _ _ _ _ (by simp)]; rfl)
      have b8 : ((w.alloc (.cells #[.string p.id, .int .i64 p.prio, .bool true, .int .i64 p.r0, .int .i64 p.r1, .int .i64 p.r2, .int .i64 p.l0, .int .i64 p.l1, .int .i64 p.l2, .string p.img, .int .i64 p.size] 24)).alloc (.cells #[.string v.id, .int .i64 v.prio, .bool true, .int .i64 v.r0, .int .i64 v.r1, .int .i64 v.r2, .int .i64 v.l0, .int .i64 v.l1, .int .i64 v.l2, .string v.img, .int .i64 v.size] 24)).cell? ⟨w.heap.size + 1, 8, none⟩ = some (.int .i64 v.l2) := by first | (simp; done) | (rw [World.cell?_alloc_at _ _ _ _ (by simp)]; rfl) | (rw [World.cell?_alloc_past _ _ _ (by simp <;> omega), World.cell?_alloc_at _ _ _ _ (by simp)]; rfl) | (rw [World.cell?_alloc_past _ _ _ (by simp <;> omega), World.cell?_alloc_past _ _ _ (by simp <;> omega), World.cell?_alloc_at _ _ _ _ (by simp)]; rfl)
      have b9 : ((w.alloc (.cells #[.string p.id, .int .i64 p.prio, .bool true, .int .i64 p.r0, .int .i64 p.r1, .int .i64 p.r2, .int .i64 p.l0, .int .i64 p.l1, .int .i64 p.l2, .string p.img, .int .i64 p.size] 24)).alloc (.cells #[.string v.id, .int .i64 v.prio, .bool true, .int .i64 v.r0, .int .i64 v.r1, .int .i64 v.r2, .int .i64 v.l0, .int .i64 v.l1, .int .i64 v.l2, .string v.img, .int .i64 v.size] 24)).cell? ⟨w.heap.size + 1, 9, none⟩ = some (.string v.img) := by first | (simp; done) | (rw [World.cell?_alloc_at _ _ _ _ (by simp)]; rfl) | (rw [World.cell?_alloc_past _ _ _ (by simp <;> omega), World.cell?_alloc_at _ _ _ _ (by simp)]; rfl) | (rw [World.cell?_alloc_past _ _ _ (by simp <;> omega), World.cell?_alloc_past _ _ _ (by simp <;> omega), World.cell?_alloc_at _ _ _ _ (by simp)]; rfl)
      have b10 : ((w.alloc (.cells #[.string p.id, .int .i64 p.prio, .bool true, .int .i64 p.r0, .int .i64 p.r1, .int .i64 p.r2, .int .i64 p.l0, .int .i64 p.l1, .int .i64 p.l2, .string p.img, .int .i64 p.size] 24)).alloc (.cells #[.string v.id, .int .i64 v.prio, .bool true, .int .i64 v.r0, .int .i64 v.r1, .int .i64 v.r2, .int .i64 v.l0, .int .i64 v.l1, .int .i64 v.l2, .string v.img, .int .i64 v.size] 24)).cell? ⟨w.heap.size + 1, 10, none⟩ = some (.int .i64 v.size) := by first | (simp; done) | (rw [World.cell?_alloc_at _ _ _ _ (by simp)]; rfl) | (rw [World.cell?_alloc_past _ _ _ (by simp <;> omega), World.cell?_alloc_at _ _ _ _ (by simp)]; rfl) | (rw [World.cell?_alloc_past _ _ _ (by simp <;> omega), World.cell?_alloc_past _ _ _ (by simp <;> omega), World.cell?_alloc_at _ _ _ _ (by simp)]; rfl)
      have hb2 := (by repeat (first | exact hbel | refine belAlloc ?_ _ | refine belDrew ?_ | refine belSet ?_ _ _ (by simp)) : Below w.heap.size w ((w.alloc (.cells #[.string p.id, .int .i64 p.prio, .bool true, .int .i64 p.r0, .int .i64 p.r1, .int .i64 p.r2, .int .i64 p.l0, .int .i64 p.l1, .int .i64 p.l2, .string p.img, .int .i64 p.size] 24)).alloc (.cells #[.string v.id, .int .i64 v.prio, .bool true, .int .i64 v.r0, .int .i64 v.r1, .int .i64 v.r2, .int .i64 v.l0, .int .i64 v.l1, .int .i64 v.l2, .string v.img, .int .i64 v.size] 24)))
      replace hw := belStep hw hb2
      clear hb2 hbel
      generalize (w.alloc (.cells #[.string p.id, .int .i64 p.prio, .bool true, .int .i64 p.r0, .int .i64 p.r1, .int .i64 p.r2, .int .i64 p.l0, .int .i64 p.l1, .int .i64 p.l2, .string p.img, .int .i64 p.size] 24)).alloc (.cells #[.string v.id, .int .i64 v.prio, .bool true, .int .i64 v.r0, .int .i64 v.r1, .int .i64 v.r2, .int .i64 v.l0, .int .i64 v.l1, .int .i64 v.l2, .string v.img, .int .i64 v.size] 24) = W1 at *
      replace a0 := keep a0
      replace a1 := keep a1
      replace a2 := keep a2
      replace a3 := keep a3
      replace a4 := keep a4
      replace a5 := keep a5
      replace a6 := keep a6
      replace a7 := keep a7
      replace a8 := keep a8
      replace a9 := keep a9
      replace a10 := keep a10
      replace b0 := keep b0
      replace b1 := keep b1
      replace b2 := keep b2
      replace b3 := keep b3
      replace b4 := keep b4
      replace b5 := keep b5
      replace b6 := keep b6
      replace b7 := keep b7
      replace b8 := keep b8
      replace b9 := keep b9
      replace b10 := keep b10
      have hbel : Below W1.heap.size W1 W1 := Below.refl _ _
      skip
      go_wp2
      go_ret
      exact ⟨rfl, belStep hw hbel⟩
    | false =>
      rw [h2] at hd
      have HD := Lib.hid (show r = decide (v.prio < p.prio) from hd)
      clear hd
      go_enter Try.func27, Try.ntmps27
      go_upto_region 1 with fail
      have a0 : ((w.alloc (.cells #[.string p.id, .int .i64 p.prio, .bool true, .int .i64 p.r0, .int .i64 p.r1, .int .i64 p.r2, .int .i64 p.l0, .int .i64 p.l1, .int .i64 p.l2, .string p.img, .int .i64 p.size] 24)).alloc (.cells #[.string v.id, .int .i64 v.prio, .bool false, .int .i64 v.r0, .int .i64 v.r1, .int .i64 v.r2, .int .i64 v.l0, .int .i64 v.l1, .int .i64 v.l2, .string v.img, .int .i64 v.size] 24)).cell? ⟨w.heap.size, 0, none⟩ = some (.string p.id) := by first | (simp; done) | (rw [World.cell?_alloc_at _ _ _ _ (by simp)]; rfl) | (rw [World.cell?_alloc_past _ _ _ (by simp <;> omega), World.cell?_alloc_at _ _ _ _ (by simp)]; rfl) | (rw [World.cell?_alloc_past _ _ _ (by simp <;> omega), World.cell?_alloc_past _ _ _ (by simp <;> omega), World.cell?_alloc_at _ _ _ _ (by simp)]; rfl)
      have a1 : ((w.alloc (.cells #[.string p.id, .int .i64 p.prio, .bool true, .int .i64 p.r0, .int .i64 p.r1, .int .i64 p.r2, .int .i64 p.l0, .int .i64 p.l1, .int .i64 p.l2, .string p.img, .int .i64 p.size] 24)).alloc (.cells #[.string v.id, .int .i64 v.prio, .bool false, .int .i64 v.r0, .int .i64 v.r1, .int .i64 v.r2, .int .i64 v.l0, .int .i64 v.l1, .int .i64 v.l2, .string v.img, .int .i64 v.size] 24)).cell? ⟨w.heap.size, 1, none⟩ = some (.int .i64 p.prio) := by first | (simp; done) | (rw [World.cell?_alloc_at _ _ _ _ (by simp)]; rfl) | (rw [World.cell?_alloc_past _ _ _ (by simp <;> omega), World.cell?_alloc_at _ _ _ _ (by simp)]; rfl) | (rw [World.cell?_alloc_past _ _ _ (by simp <;> omega), World.cell?_alloc_past _ _ _ (by simp <;> omega), World.cell?_alloc_at _ _ _ _ (by simp)]; rfl)
      have a2 : ((w.alloc (.cells #[.string p.id, .int .i64 p.prio, .bool true, .int .i64 p.r0, .int .i64 p.r1, .int .i64 p.r2, .int .i64 p.l0, .int .i64 p.l1, .int .i64 p.l2, .string p.img, .int .i64 p.size] 24)).alloc (.cells #[.string v.id, .int .i64 v.prio, .bool false, .int .i64 v.r0, .int .i64 v.r1, .int .i64 v.r2, .int .i64 v.l0, .int .i64 v.l1, .int .i64 v.l2, .string v.img, .int .i64 v.size] 24)).cell? ⟨w.heap.size, 2, none⟩ = some (.bool true) := by first | (simp; done) | (rw [World.cell?_alloc_at _ _ _ _ (by simp)]; rfl) | (rw [World.cell?_alloc_past _ _ _ (by simp <;> omega), World.cell?_alloc_at _ _ _ _ (by simp)]; rfl) | (rw [World.cell?_alloc_past _ _ _ (by simp <;> omega), World.cell?_alloc_past _ _ _ (by simp <;> omega), World.cell?_alloc_at _ _ _ _ (by simp)]; rfl)
      have a3 : ((w.alloc (.cells #[.string p.id, .int .i64 p.prio, .bool true, .int .i64 p.r0, .int .i64 p.r1, .int .i64 p.r2, .int .i64 p.l0, .int .i64 p.l1, .int .i64 p.l2, .string p.img, .int .i64 p.size] 24)).alloc (.cells #[.string v.id, .int .i64 v.prio, .bool false, .int .i64 v.r0, .int .i64 v.r1, .int .i64 v.r2, .int .i64 v.l0, .int .i64 v.l1, .int .i64 v.l2, .string v.img, .int .i64 v.size] 24)).cell? ⟨w.heap.size, 3, none⟩ = some (.int .i64 p.r0) := by first | (simp; done) | (rw [World.cell?_alloc_at _ _ _ _ (by simp)]; rfl) | (rw [World.cell?_alloc_past _ _ _ (by simp <;> omega), World.cell?_alloc_at _ _ _ _ (by simp)]; rfl) | (rw [World.cell?_alloc_past _ _ _ (by simp <;> omega), World.cell?_alloc_past _ _ _ (by simp <;> omega), World.cell?_alloc_at _ _ _ _ (by simp)]; rfl)
      have a4 : ((w.alloc (.cells #[.string p.id, .int .i64 p.prio, .bool true, .int .i64 p.r0, .int .i64 p.r1, .int .i64 p.r2, .int .i64 p.l0, .int .i64 p.l1, .int .i64 p.l2, .string p.img, .int .i64 p.size] 24)).alloc (.cells #[.string v.id, .int .i64 v.prio, .bool false, .int .i64 v.r0, .int .i64 v.r1, .int .i64 v.r2, .int .i64 v.l0, .int .i64 v.l1, .int .i64 v.l2, .string v.img, .int .i64 v.size] 24)).cell? ⟨w.heap.size, 4, none⟩ = some (.int .i64 p.r1) := by first | (simp; done) | (rw [World.cell?_alloc_at _ _ _ _ (by simp)]; rfl) | (rw [World.cell?_alloc_past _ _ _ (by simp <;> omega), World.cell?_alloc_at _ _ _ _ (by simp)]; rfl) | (rw [World.cell?_alloc_past _ _ _ (by simp <;> omega), World.cell?_alloc_past _ _ _ (by simp <;> omega), World.cell?_alloc_at _ _ _ _ (by simp)]; rfl)
      have a5 : ((w.alloc (.cells #[.string p.id, .int .i64 p.prio, .bool true, .int .i64 p.r0, .int .i64 p.r1, .int .i64 p.r2, .int .i64 p.l0, .int .i64 p.l1, .int .i64 p.l2, .string p.img, .int .i64 p.size] 24)).alloc (.cells #[.string v.id, .int .i64 v.prio, .bool false, .int .i64 v.r0, .int .i64 v.r1, .int .i64 v.r2, .int .i64 v.l0, .int .i64 v.l1, .int .i64 v.l2, .string v.img, .int .i64 v.size] 24)).cell? ⟨w.heap.size, 5, none⟩ = some (.int .i64 p.r2) := by first | (simp; done) | (rw [World.cell?_alloc_at _ _ _ _ (by simp)]; rfl) | (rw [World.cell?_alloc_past _ _ _ (by simp <;> omega), World.cell?_alloc_at _ _ _ _ (by simp)]; rfl) | (rw [World.cell?_alloc_past _ _ _ (by simp <;> omega), World.cell?_alloc_past _ _ _ (by simp <;> omega), World.cell?_alloc_at _ _ _ _ (by simp)]; rfl)
      have a6 : ((w.alloc (.cells #[.string p.id, .int .i64 p.prio, .bool true, .int .i64 p.r0, .int .i64 p.r1, .int .i64 p.r2, .int .i64 p.l0, .int .i64 p.l1, .int .i64 p.l2, .string p.img, .int .i64 p.size] 24)).alloc (.cells #[.string v.id, .int .i64 v.prio, .bool false, .int .i64 v.r0, .int .i64 v.r1, .int .i64 v.r2, .int .i64 v.l0, .int .i64 v.l1, .int .i64 v.l2, .string v.img, .int .i64 v.size] 24)).cell? ⟨w.heap.size, 6, none⟩ = some (.int .i64 p.l0) := by first | (simp; done) | (rw [World.cell?_alloc_at _ _ _ _ (by simp)]; rfl) | (rw [World.cell?_alloc_past _ _ _ (by simp <;> omega), World.cell?_alloc_at _ _ _ _ (by simp)]; rfl) | (rw [World.cell?_alloc_past _ _ _ (by simp <;> omega), World.cell?_alloc_past _ _ _ (by simp <;> omega), World.cell?_alloc_at _ _ _ _ (by simp)]; rfl)
      have a7 : ((w.alloc (.cells #[.string p.id, .int .i64 p.prio, .bool true, .int .i64 p.r0, .int .i64 p.r1, .int .i64 p.r2, .int .i64 p.l0, .int .i64 p.l1, .int .i64 p.l2, .string p.img, .int .i64 p.size] 24)).alloc (.cells #[.string v.id, .int .i64 v.prio, .bool false, .int .i64 v.r0, .int .i64 v.r1, .int .i64 v.r2, .int .i64 v.l0, .int .i64 v.l1, .int .i64 v.l2, .string v.img, .int .i64 v.size] 24)).cell? ⟨w.heap.size, 7, none⟩ = some (.int .i64 p.l1) := by first | (simp; done) | (rw [World.cell?_alloc_at _ _ _ _ (by simp)]; rfl) | (rw [World.cell?_alloc_past _ _ _ (by simp <;> omega), World.cell?_alloc_at _ _ _ _ (by simp)]; rfl) | (rw [World.cell?_alloc_past _ _ _ (by simp <;> omega), World.cell?_alloc_past _ _ _ (by simp <;> omega), World.cell?_alloc_at _ _ _ _ (by simp)]; rfl)
      have a8 : ((w.alloc (.cells #[.string p.id, .int .i64 p.prio, .bool true, .int .i64 p.r0, .int .i64 p.r1, .int .i64 p.r2, .int .i64 p.l0, .int .i64 p.l1, .int .i64 p.l2, .string p.img, .int .i64 p.size] 24)).alloc (.cells #[.string v.id, .int .i64 v.prio, .bool false, .int .i64 v.r0, .int .i64 v.r1, .int .i64 v.r2, .int .i64 v.l0, .int .i64 v.l1, .int .i64 v.l2, .string v.img, .int .i64 v.size] 24)).cell? ⟨w.heap.size, 8, none⟩ = some (.int .i64 p.l2) := by first | (simp; done) | (rw [World.cell?_alloc_at _ _ _ _ (by simp)]; rfl) | (rw [World.cell?_alloc_past _ _ _ (by simp <;> omega), World.cell?_alloc_at _ _ _ _ (by simp)]; rfl) | (rw [World.cell?_alloc_past _ _ _ (by simp <;> omega), World.cell?_alloc_past _ _ _ (by simp <;> omega), World.cell?_alloc_at _ _ _ _ (by simp)]; rfl)
      have a9 : ((w.alloc (.cells #[.string p.id, .int .i64 p.prio, .bool true, .int .i64 p.r0, .int .i64 p.r1, .int .i64 p.r2, .int .i64 p.l0, .int .i64 p.l1, .int .i64 p.l2, .string p.img, .int .i64 p.size] 24)).alloc (.cells #[.string v.id, .int .i64 v.prio, .bool false, .int .i64 v.r0, .int .i64 v.r1, .int .i64 v.r2, .int .i64 v.l0, .int .i64 v.l1, .int .i64 v.l2, .string v.img, .int .i64 v.size] 24)).cell? ⟨w.heap.size, 9, none⟩ = some (.string p.img) := by first | (simp; done) | (rw [World.cell?_alloc_at _ _ _ _ (by simp)]; rfl) | (rw [World.cell?_alloc_past _ _ _ (by simp <;> omega), World.cell?_alloc_at _ _ _ _ (by simp)]; rfl) | (rw [World.cell?_alloc_past _ _ _ (by simp <;> omega), World.cell?_alloc_past _ _ _ (by simp <;> omega), World.cell?_alloc_at _ _ _ _ (by simp)]; rfl)
      have a10 : ((w.alloc (.cells #[.string p.id, .int .i64 p.prio, .bool true, .int .i64 p.r0, .int .i64 p.r1, .int .i64 p.r2, .int .i64 p.l0, .int .i64 p.l1, .int .i64 p.l2, .string p.img, .int .i64 p.size] 24)).alloc (.cells #[.string v.id, .int .i64 v.prio, .bool false, .int .i64 v.r0, .int .i64 v.r1, .int .i64 v.r2, .int .i64 v.l0, .int .i64 v.l1, .int .i64 v.l2, .string v.img, .int .i64 v.size] 24)).cell? ⟨w.heap.size, 10, none⟩ = some (.int .i64 p.size) := by first | (simp; done) | (rw [World.cell?_alloc_at _ _ _ _ (by simp)]; rfl) | (rw [World.cell?_alloc_past _ _ _ (by simp <;> omega), World.cell?_alloc_at _ _ _ _ (by simp)]; rfl) | (rw [World.cell?_alloc_past _ _ _ (by simp <;> omega), World.cell?_alloc_past _ _ _ (by simp <;> omega), World.cell?_alloc_at _ _ _ _ (by simp)]; rfl)
      have b0 : ((w.alloc (.cells #[.string p.id, .int .i64 p.prio, .bool true, .int .i64 p.r0, .int .i64 p.r1, .int .i64 p.r2, .int .i64 p.l0, .int .i64 p.l1, .int .i64 p.l2, .string p.img, .int .i64 p.size] 24)).alloc (.cells #[.string v.id, .int .i64 v.prio, .bool false, .int .i64 v.r0, .int .i64 v.r1, .int .i64 v.r2, .int .i64 v.l0, .int .i64 v.l1, .int .i64 v.l2, .string v.img, .int .i64 v.size] 24)).cell? ⟨w.heap.size + 1, 0, none⟩ = some (.string v.id) := by first | (simp; done) | (rw [World.cell?_alloc_at _ _ _ _ (by simp)]; rfl) | (rw [World.cell?_alloc_past _ _ _ (by simp <;> omega), World.cell?_alloc_at _ _ _ _ (by simp)]; rfl) | (rw [World.cell?_alloc_past _ _ _ (by simp <;> omega), World.cell?_alloc_past _ _ _ (by simp <;> omega), World.cell?_alloc_at _ _ _ _ (by simp)]; rfl)
      have b1 : ((w.alloc (.cells #[.string p.id, .int .i64 p.prio, .bool true, .int .i64 p.r0, .int .i64 p.r1, .int .i64 p.r2, .int .i64 p.l0, .int .i64 p.l1, .int .i64 p.l2, .string p.img, .int .i64 p.size] 24)).alloc (.cells #[.string v.id, .int .i64 v.prio, .bool false, .int .i64 v.r0, .int .i64 v.r1, .int .i64 v.r2, .int .i64 v.l0, .int .i64 v.l1, .int .i64 v.l2, .string v.img, .int .i64 v.size] 24)).cell? ⟨w.heap.size + 1, 1, none⟩ = some (.int .i64 v.prio) := by first | (simp; done) | (rw [World.cell?_alloc_at _ _ _ _ (by simp)]; rfl) | (rw [World.cell?_alloc_past _ _ _ (by simp <;> omega), World.cell?_alloc_at _ _ _ _ (by simp)]; rfl) | (rw [World.cell?_alloc_past _ _ _ (by simp <;> omega), World.cell?_alloc_past _ _ _ (by simp <;> omega), World.cell?_alloc_at _ _ _ _ (by simp)]; rfl)
      have b2 : ((w.alloc (.cells #[.string p.id, .int .i64 p.prio, .bool true, .int .i64 p.r0, .int .i64 p.r1, .int .i64 p.r2, .int .i64 p.l0, .int .i64 p.l1, .int .i64 p.l2, .string p.img, .int .i64 p.size] 24)).alloc (.cells #[.string v.id, .int .i64 v.prio, .bool false, .int .i64 v.r0, .int .i64 v.r1, .int .i64 v.r2, .int .i64 v.l0, .int .i64 v.l1, .int .i64 v.l2, .string v.img, .int .i64 v.size] 24)).cell? ⟨w.heap.size + 1, 2, none⟩ = some (.bool false) := by first | (simp; done) | (rw [World.cell?_alloc_at _ _ _ _ (by simp)]; rfl) | (rw [World.cell?_alloc_past _ _ _ (by simp <;> omega), World.cell?_alloc_at _ _ _ _ (by simp)]; rfl) | (rw [World.cell?_alloc_past _ _ _ (by simp <;> omega), World.cell?_alloc_past _ _ _ (by simp <;> omega), World.cell?_alloc_at _ _ _ _ (by simp)]; rfl)
      have b3 : ((w.alloc (.cells #[.string p.id, .int .i64 p.prio, .bool true, .int .i64 p.r0, .int .i64 p.r1, .int .i64 p.r2, .int .i64 p.l0, .int .i64 p.l1, .int .i64 p.l2, .string p.img, .int .i64 p.size] 24)).alloc (.cells #[.string v.id, .int .i64 v.prio, .bool false, .int .i64 v.r0, .int .i64 v.r1, .int .i64 v.r2, .int .i64 v.l0, .int .i64 v.l1, .int .i64 v.l2, .string v.img, .int .i64 v.size] 24)).cell? ⟨w.heap.size + 1, 3, none⟩ = some (.int .i64 v.r0) := by first | (simp; done) | (rw [World.cell?_alloc_at _ _ _ _ (by simp)]; rfl) | (rw [World.cell?_alloc_past _ _ _ (by simp <;> omega), World.cell?_alloc_at _ _ _ _ (by simp)]; rfl) | (rw [World.cell?_alloc_past _ _ _ (by simp <;> omega), World.cell?_alloc_past _ _ _ (by simp <;> omega), World.cell?_alloc_at _ _ _ _ (by simp)]; rfl)
      have b4 : ((w.alloc (.cells #[.string p.id, .int .i64 p.prio, .bool true, .int .i64 p.r0, .int .i64 p.r1, .int .i64 p.r2, .int .i64 p.l0, .int .i64 p.l1, .int .i64 p.l2, .string p.img, .int .i64 p.size] 24)).alloc (.cells #[.string v.id, .int .i64 v.prio, .bool false, .int .i64 v.r0, .int .i64 v.r1, .int .i64 v.r2, .int .i64 v.l0, .int .i64 v.l1, .int .i64 v.l2, .string v.img, .int .i64 v.size] 24)).cell? ⟨w.heap.size + 1, 4, none⟩ = some (.int .i64 v.r1) := by first | (simp; done) | (rw [World.cell?_alloc_at _ _ _ _ (by simp)]; rfl) | (rw [World.cell?_alloc_past _ _ _ (by simp <;> omega), World.cell?_alloc_at _ _ _ _ (by simp)]; rfl) | (rw [World.cell?_alloc_past _ _ _ (by simp <;> omega), World.cell?_alloc_past _ _ _ (by simp <;> omega), World.cell?_alloc_at _ _ _ _ (by simp)]; rfl)
      have b5 : ((w.alloc (.cells #[.string p.id, .int .i64 p.prio, .bool true, .int .i64 p.r0, .int .i64 p.r1, .int .i64 p.r2, .int .i64 p.l0, .int .i64 p.l1, .int .i64 p.l2, .string p.img, .int .i64 p.size] 24)).alloc (.cells #[.string v.id, .int .i64 v.prio, .bool false, .int .i64 v.r0, .int .i64 v.r1, .int .i64 v.r2, .int .i64 v.l0, .int .i64 v.l1, .int .i64 v.l2, .string v.img, .int .i64 v.size] 24)).cell? ⟨w.heap.size + 1, 5, none⟩ = some (.int .i64 v.r2) := by first | (simp; done) | (rw [World.cell?_alloc_at _ _ _ _ (by simp)]; rfl) | (rw [World.cell?_alloc_past _ _ _ (by simp <;> omega), World.cell?_alloc_at _ _ _ _ (by simp)]; rfl) | (rw [World.cell?_alloc_past _ _ _ (by simp <;> omega), World.cell?_alloc_past _ _ _ (by simp <;> omega), World.cell?_alloc_at _ _ _ _ (by simp)]; rfl)
      have b6 : ((w.alloc (.cells #[.string p.id, .int .i64 p.prio, .bool true, .int .i64 p.r0, .int .i64 p.r1, .int .i64 p.r2, .int .i64 p.l0, .int .i64 p.l1, .int .i64 p.l2, .string p.img, .int .i64 p.size] 24)).alloc (.cells #[.string v.id, .int .i64 v.prio, .bool false, .int .i64 v.r0, .int .i64 v.r1, .int .i64 v.r2, .int .i64 v.l0, .int .i64 v.l1, .int .i64 v.l2, .string v.img, .int .i64 v.size] 24)).cell? ⟨w.heap.size + 1, 6, none⟩ = some (.int .i64 v.l0) := by first | (simp; done) | (rw [World.cell?_alloc_at _ _ _ _ (by simp)]; rfl) | (rw [World.cell?_alloc_past _ _ _ (by simp <;> omega), World.cell?_alloc_at _ _ _ _ (by simp)]; rfl) | (rw [World.cell?_alloc_past _ _ _ (by simp <;> omega), World.cell?_alloc_past _ _ _ (by simp <;> omega), World.cell?_alloc_at _ _ _ _ (by simp)]; rfl)
      have b7 : ((w.alloc (.cells #[.string p.id, .int .i64 p.prio, .bool true, .int .i64 p.r0, .int .i64 p.r1, .int .i64 p.r2, .int .i64 p.l0, .int .i64 p.l1, .int .i64 p.l2, .string p.img, .int .i64 p.size] 24)).alloc (.cells #[.string v.id, .int .i64 v.prio, .bool false, .int .i64 v.r0, .int .i64 v.r1, .int .i64 v.r2, .int .i64 v.l0, .int .i64 v.l1, .int .i64 v.l2, .string v.img, .int .i64 v.size] 24)).cell? ⟨w.heap.size + 1, 7, none⟩ = some (.int .i64 v.l1) := by first | (simp; done) | (rw [World.cell?_alloc_at _ _ _ _ (by simp)]; rfl) | (rw [World.cell?_alloc_past _ _ _ (by simp <;> omega), World.cell?_alloc_at _ _ _ _ (by simp)]; rfl) | (rw [World.cell?_alloc_past _ _ _ (by simp <;> omega), World.cell?_alloc_past _ _ _ (by simp <;> omega), World.cell?_alloc_at _ _ _ _ (by simp)]; rfl)
      have b8 : ((w.alloc (.cells #[.string p.id, .int .i64 p.prio, .bool true, .int .i64 p.r0, .int .i64 p.r1, .int .i64 p.r2, .int .i64 p.l0, .int .i64 p.l1, .int .i64 p.l2, .string p.img, .int .i64 p.size] 24)).alloc (.cells #[.string v.id, .int .i64 v.prio, .bool false, .int .i64 v.r0, .int .i64 v.r1, .int .i64 v.r2, .int .i64 v.l0, .int .i64 v.l1, .int .i64 v.l2, .string v.img, .int .i64 v.size] 24)).cell? ⟨w.heap.size + 1, 8, none⟩ = some (.int .i64 v.l2) := by first | (simp; done) | (rw [World.cell?_alloc_at _ _ _ _ (by simp)]; rfl) | (rw [World.cell?_alloc_past _ _ _ (by simp <;> omega), World.cell?_alloc_at _ _ _ _ (by simp)]; rfl) | (rw [World.cell?_alloc_past _ _ _ (by simp <;> omega), World.cell?_alloc_past _ _ _ (by simp <;> omega), World.cell?_alloc_at _ _ _ _ (by simp)]; rfl)
      have b9 : ((w.alloc (.cells #[.string p.id, .int .i64 p.prio, .bool true, .int .i64 p.r0, .int .i64 p.r1, .int .i64 p.r2, .int .i64 p.l0, .int .i64 p.l1, .int .i64 p.l2, .string p.img, .int .i64 p.size] 24)).alloc (.cells #[.string v.id, .int .i64 v.prio, .bool false, .int .i64 v.r0, .int .i64 v.r1, .int .i64 v.r2, .int .i64 v.l0, .int .i64 v.l1, .int .i64 v.l2, .string v.img, .int .i64 v.size] 24)).cell? ⟨w.heap.size + 1, 9, none⟩ = some (.string v.img) := by first | (simp; done) | (rw [World.cell?_alloc_at _ _ _ _ (by simp)]; rfl) | (rw [World.cell?_alloc_past _ _ _ (by simp <;> omega), World.cell?_alloc_at _ _ _ _ (by simp)]; rfl) | (rw [World.cell?_alloc_past _ _ _ (by simp <;> omega), World.cell?_alloc_past _ _ _ (by simp <;> omega), World.cell?_alloc_at _ _ _ _ (by simp)]; rfl)
      have b10 : ((w.alloc (.cells #[.string p.id, .int .i64 p.prio, .bool true, .int .i64 p.r0, .int .i64 p.r1, .int .i64 p.r2, .int .i64 p.l0, .int .i64 p.l1, .int .i64 p.l2, .string p.img, .int .i64 p.size] 24)).alloc (.cells #[.string v.id, .int .i64 v.prio, .bool false, .int .i64 v.r0, .int .i64 v.r1, .int .i64 v.r2, .int .i64 v.l0, .int .i64 v.l1, .int .i64 v.l2, .string v.img, .int .i64 v.size] 24)).cell? ⟨w.heap.size + 1, 10, none⟩ = some (.int .i64 v.size) := by first | (simp; done) | (rw [World.cell?_alloc_at _ _ _ _ (by simp)]; rfl) | (rw [World.cell?_alloc_past _ _ _ (by simp <;> omega), World.cell?_alloc_at _ _ _ _ (by simp)]; rfl) | (rw [World.cell?_alloc_past _ _ _ (by simp <;> omega), World.cell?_alloc_past _ _ _ (by simp <;> omega), World.cell?_alloc_at _ _ _ _ (by simp)]; rfl)
      have hb2 := (by repeat (first | exact hbel | refine belAlloc ?_ _ | refine belDrew ?_ | refine belSet ?_ _ _ (by simp)) : Below w.heap.size w ((w.alloc (.cells #[.string p.id, .int .i64 p.prio, .bool true, .int .i64 p.r0, .int .i64 p.r1, .int .i64 p.r2, .int .i64 p.l0, .int .i64 p.l1, .int .i64 p.l2, .string p.img, .int .i64 p.size] 24)).alloc (.cells #[.string v.id, .int .i64 v.prio, .bool false, .int .i64 v.r0, .int .i64 v.r1, .int .i64 v.r2, .int .i64 v.l0, .int .i64 v.l1, .int .i64 v.l2, .string v.img, .int .i64 v.size] 24)))
      replace hw := belStep hw hb2
      clear hb2 hbel
      generalize (w.alloc (.cells #[.string p.id, .int .i64 p.prio, .bool true, .int .i64 p.r0, .int .i64 p.r1, .int .i64 p.r2, .int .i64 p.l0, .int .i64 p.l1, .int .i64 p.l2, .string p.img, .int .i64 p.size] 24)).alloc (.cells #[.string v.id, .int .i64 v.prio, .bool false, .int .i64 v.r0, .int .i64 v.r1, .int .i64 v.r2, .int .i64 v.l0, .int .i64 v.l1, .int .i64 v.l2, .string v.img, .int .i64 v.size] 24) = W1 at *
      replace a0 := keep a0
      replace a1 := keep a1
      replace a2 := keep a2
      replace a3 := keep a3
      replace a4 := keep a4
      replace a5 := keep a5
      replace a6 := keep a6
      replace a7 := keep a7
      replace a8 := keep a8
      replace a9 := keep a9
      replace a10 := keep a10
      replace b0 := keep b0
      replace b1 := keep b1
      replace b2 := keep b2
      replace b3 := keep b3
      replace b4 := keep b4
      replace b5 := keep b5
      replace b6 := keep b6
      replace b7 := keep b7
      replace b8 := keep b8
      replace b9 := keep b9
      replace b10 := keep b10
      have hbel : Below W1.heap.size W1 W1 := Below.refl _ _
      skip
      go_wp2
      go_ret
      exact ⟨by rw [HD.out]; rfl, belStep hw hbel⟩
end Go.Proofs.Ytbifmmdiekodjaa
