
/- The signals' conditions behind a round: package cond and its reference. -/
import Derived.Test.YtkiphbonohifgaaCond
import Derived.Deep.RegionHeld3
namespace Go.Proofs.Ytkiphbonohifgaa
open Go.RowKit
set_option linter.unusedVariables false

/-- An event's cells. -/
def evCells (k s : Int) : List Value := [.int .i64 k, .string ByteArray.empty, .int .i64 s, .int .i64 0]
/-- The events of one signal that goes from 'a' to 'b'. -/
def turnEv (a b : Bool) (s : Int) : List (Int × Int) := if b && !a then [(6, s)] else if a && !b then [(7, s)] else []
def evsCells (l : List (Int × Int)) : List Value := l.flatMap fun x => evCells x.1 x.2
theorem evsCells_append (a b : List (Int × Int)) : evsCells (a ++ b) = evsCells a ++ evsCells b := List.flatMap_append

/-- What came in, of three signals. -/
structure Three where
  b0 : Bool
  c0 : Int
  b1 : Bool
  c1 : Int
  b2 : Bool
  c2 : Int
  h0 : Bool
  h1 : Bool
  h2 : Bool
  m0 : Bool
  m1 : Bool
  m2 : Bool
  fresh : Bool
  n : Int
def Three.s (x : Three) : Nat → Bool
  | 0 => stepOn x.b0 x.c0 x.h0 x.m0 x.fresh x.n
  | 1 => stepOn x.b1 x.c1 x.h1 x.m1 x.fresh x.n
  | _ => stepOn x.b2 x.c2 x.h2 x.m2 x.fresh x.n
def Three.d (x : Three) : Nat → Int
  | 0 => stepCalm x.b0 x.c0 x.h0 x.m0 x.fresh x.n
  | 1 => stepCalm x.b1 x.c1 x.h1 x.m1 x.fresh x.n
  | _ => stepCalm x.b2 x.c2 x.h2 x.m2 x.fresh x.n
/-- The cells behind k signals. -/
def Three.next (x : Three) (k : Nat) : List Value :=
  [.bool (if 0 < k then x.s 0 else x.b0), .int .i64 (if 0 < k then x.d 0 else x.c0),
   .bool (if 1 < k then x.s 1 else x.b1), .int .i64 (if 1 < k then x.d 1 else x.c1),
   .bool (if 2 < k then x.s 2 else x.b2), .int .i64 (if 2 < k then x.d 2 else x.c2)]
def Three.evs (x : Three) (k : Nat) : List (Int × Int) :=
  (if 0 < k then turnEv x.b0 (x.s 0) 0 else []) ++ (if 1 < k then turnEv x.b1 (x.s 1) 1 else []) ++ (if 2 < k then turnEv x.b2 (x.s 2) 2 else [])
def Three.cells (x : Three) : List Value := [.bool x.b0, .int .i64 x.c0, .bool x.b1, .int .i64 x.c1, .bool x.b2, .int .i64 x.c2]
def Three.fits (x : Three) : Prop := 0 ≤ x.c0 ∧ x.c0 < 9223372036854775807 ∧ 0 ≤ x.c1 ∧ x.c1 < 9223372036854775807 ∧ 0 ≤ x.c2 ∧ x.c2 < 9223372036854775807

theorem turnEv_le (a b : Bool) (s : Int) : (turnEv a b s).length ≤ 1 := by cases a <;> cases b <;> simp [turnEv]
theorem Three.evs_le (x : Three) (k : Nat) : (x.evs k).length ≤ 3 := by
  have h0 := turnEv_le x.b0 (x.s 0) 0
  have h1 := turnEv_le x.b1 (x.s 1) 1
  have h2 := turnEv_le x.b2 (x.s 2) 2
  simp only [Three.evs, List.length_append]
  split <;> split <;> split <;> simp <;> omega
theorem info_ev : (Try.prog.info? 33).map (fun i => (i.zero, i.size, i.bytes)) = some (some (.agg #[.int .i64 0, .string ByteArray.empty, .int .i64 0, .int .i64 0]), 4, 40) := by kernel_rfl

set_option maxHeartbeats 4000000 in
theorem cond_All_own (x : Three) (w : World) (hx : x.fits) :
    Calls Try.prog 7 #[.agg #[.bool x.b0, .int .i64 x.c0, .bool x.b1, .int .i64 x.c1, .bool x.b2, .int .i64 x.c2], .agg #[.bool x.h0, .bool x.h1, .bool x.h2], .agg #[.bool x.m0, .bool x.m1, .bool x.m2], .bool x.fresh, .int .i64 x.n] w fun e w' =>
      (∃ a cap, e = .returned (.tuple #[.agg (x.next 3).toArray, .slice a (x.evs 3).length cap]) ∧ Row w' a (x.evs 3).length cap 4 (evsCells (x.evs 3)) ∧ OwnR w' w.heap.size 33 4 (.slice a (x.evs 3).length cap) (x.evs 3).length (evsCells (x.evs 3))) ∧ Below w.heap.size w w' := by
  obtain ⟨f0, f1, f2, f3, f4, f5⟩ := hx
  go_enter Try.func7, Try.ntmps7
  go_wp2
  have hS : w.heap.size + 1 + 1 + 1 = (((w.alloc (.cells #[.bool x.b0, .int .i64 x.c0, .bool x.b1, .int .i64 x.c1, .bool x.b2, .int .i64 x.c2] 24)).alloc (.cells #[.bool x.h0, .bool x.h1, .bool x.h2] 25)).alloc (.cells #[.bool x.m0, .bool x.m1, .bool x.m2] 25)).heap.size := by simp
  have hw : Below w.heap.size w (((w.alloc (.cells #[.bool x.b0, .int .i64 x.c0, .bool x.b1, .int .i64 x.c1, .bool x.b2, .int .i64 x.c2] 24)).alloc (.cells #[.bool x.h0, .bool x.h1, .bool x.h2] 25)).alloc (.cells #[.bool x.m0, .bool x.m1, .bool x.m2] 25)) := belAlloc (belAlloc (belAlloc (Below.refl _ _) _) _) _
  have g0 : ∀ j v, [Value.bool x.h0, .bool x.h1, .bool x.h2][j]? = some v → (((w.alloc (.cells #[.bool x.b0, .int .i64 x.c0, .bool x.b1, .int .i64 x.c1, .bool x.b2, .int .i64 x.c2] 24)).alloc (.cells #[.bool x.h0, .bool x.h1, .bool x.h2] 25)).alloc (.cells #[.bool x.m0, .bool x.m1, .bool x.m2] 25)).cell? ⟨w.heap.size + 1, j, none⟩ = some v := by
    intro j v h
    rw [World.cell?_alloc_past _ _ _ (by simp), World.cell?_alloc_at _ _ _ _ (by simp)]
    simpa using h
  have g1 : ∀ j v, [Value.bool x.m0, .bool x.m1, .bool x.m2][j]? = some v → (((w.alloc (.cells #[.bool x.b0, .int .i64 x.c0, .bool x.b1, .int .i64 x.c1, .bool x.b2, .int .i64 x.c2] 24)).alloc (.cells #[.bool x.h0, .bool x.h1, .bool x.h2] 25)).alloc (.cells #[.bool x.m0, .bool x.m1, .bool x.m2] 25)).cell? ⟨w.heap.size + 1 + 1, j, none⟩ = some v := by
    intro j v h
    rw [World.cell?_alloc_at _ _ _ _ (by simp)]
    simpa using h
  generalize (((w.alloc (.cells #[.bool x.b0, .int .i64 x.c0, .bool x.b1, .int .i64 x.c1, .bool x.b2, .int .i64 x.c2] 24)).alloc (.cells #[.bool x.h0, .bool x.h1, .bool x.h2] 25)).alloc (.cells #[.bool x.m0, .bool x.m1, .bool x.m2] 25)) = W3 at *
  have k0 := keep (g0 0 _ rfl)
  have k1 := keep (g0 1 _ rfl)
  have k2 := keep (g0 2 _ rfl)
  have k3 := keep (g1 0 _ rfl)
  have k4 := keep (g1 1 _ rfl)
  have k5 := keep (g1 2 _ rfl)
  clear g0 g1
  simp only [hS]
  have HS := Lib.hid hS
  clear hS
  go_loopw [12, 19] (fun v i wr => ∃ (k : Nat) (I : Int), I = k ∧ k ≤ 3 ∧ i = .int .i64 I ∧ Below W3.heap.size W3 wr ∧ Blk wr (W3.heap.size + 1) (x.next k) 24 ∧ Blk wr W3.heap.size [.bool false, .int .i64 0, .bool false, .int .i64 0, .bool false, .int .i64 0] 24 ∧
    W3.heap.size + 1 + 1 ≤ wr.heap.size ∧ OwnR wr (W3.heap.size + 1 + 1) 33 4 v (x.evs k).length (evsCells (x.evs k))) (fun _ i _ => 3 - (intOf i).toNat)
  case atStart =>
    refine ⟨0, 0, rfl, by omega, rfl, belAlloc (belAlloc (Below.refl _ _) _) _, ?_, ?_, by simp, OwnR.nil _ _ _ _⟩
    · have := Blk.new (W3.alloc (.cells #[.bool false, .int .i64 0, .bool false, .int .i64 0, .bool false, .int .i64 0] 24)) (x.next 0) 24
      simpa [Three.next] using this
    · exact (Blk.new W3 _ _).later ((Below.refl _ _).alloc (Nat.le_refl _) _)
  case round =>
    obtain ⟨k, I, hI, hk, rfl, hbr, hN, hZ, hsz, ho⟩ := hrel
    have key : k = 0 ∨ k = 1 ∨ k = 2 ∨ k = 3 := by omega
    have hbel := hbr
    clear hbr
    rcases key with rfl | rfl | rfl | rfl
    · obtain rfl : I = 0 := hI
      obtain ⟨s, hs⟩ : ∃ s, x.s 0 = s := ⟨_, rfl⟩
      obtain ⟨d, hd⟩ : ∃ d, x.d 0 = d := ⟨_, rfl⟩
      have cs : ∀ v, Calls Try.prog 8 #[.agg #[.bool x.b0, .int .i64 x.c0], .bool x.h0, .bool x.m0, .bool x.fresh, .int .i64 x.n] v fun e w' => e = .returned (.agg #[.bool s, .int .i64 d]) ∧ Below v.heap.size v w' := by
        intro v; rw [← hs, ← hd]; exact cond_Step _ _ _ _ _ _ _ f0 f1
      have CS := Lib.hid cs
      have HSs := Lib.hid hs
      have HDd := Lib.hid hd
      clear cs hs hd
      have hc0 : (wr.alloc (.cells #[.bool x.b0, .int .i64 x.c0] 23)).cell? ⟨wr.heap.size, 0, none⟩ = some (.bool x.b0) := by simp
      have hc1 : (wr.alloc (.cells #[.bool x.b0, .int .i64 x.c0] 23)).cell? ⟨wr.heap.size, 1, none⟩ = some (.int .i64 x.c0) := by simp
      have hbc := belAlloc hbel (.cells #[.bool x.b0, .int .i64 x.c0] 23)
      have hNc := hN.later ((Below.refl _ _).alloc (Nat.le_refl _) (.cells #[.bool x.b0, .int .i64 x.c0] 23))
      have hZc := hZ.later ((Below.refl _ _).alloc (Nat.le_refl _) (.cells #[.bool x.b0, .int .i64 x.c0] 23))
      have hoc := ho.later ((Below.refl _ _).alloc (Nat.le_refl _) (.cells #[.bool x.b0, .int .i64 x.c0] 23))
      have hszc : W3.heap.size + 1 + 1 ≤ (wr.alloc (.cells #[.bool x.b0, .int .i64 x.c0] 23)).heap.size := by simp; omega
      have kk0 := keepOn k0 hbc
      have kk3 := keepOn k3 hbc
      have ix : ∀ v, (Instr.index 24 (.agg #[.bool x.b0, .int .i64 x.c0, .bool x.b1, .int .i64 x.c1, .bool x.b2, .int .i64 x.c2]) (.int .i64 0)).run Try.prog v = .ok (.agg #[.bool x.b0, .int .i64 x.c0]) v := fun _ => by kernel_rfl
      have hne1 : W3.heap.size + 1 ≠ wr.heap.size := by omega
      have hne2 : W3.heap.size + 1 ≠ w.heap.size + 1 := by have := HS.out; omega
      have hne3 : W3.heap.size + 1 ≠ w.heap.size + 1 + 1 := by have := HS.out; omega
      clear hN hZ ho
      go_upto_region 6 with (fail)
      generalize wr.alloc (.cells #[.bool x.b0, .int .i64 x.c0] 23) = Wc at *
      have c0 := keep hc0
      have c1 := keep hc1
      have n0 : ∀ v, Below Wc.heap.size Wc v → v.cell? ⟨W3.heap.size + 1, 0, none⟩ = some (.bool x.b0) := keep (hNc.cell rfl)
      have n1 : ∀ v, Below Wc.heap.size Wc v → v.cell? ⟨W3.heap.size + 1, 1, none⟩ = some (.int .i64 x.c0) := keep (hNc.cell rfl)
      have z0 : ∀ v, Below Wc.heap.size Wc v → v.frozen? ⟨W3.heap.size + 1, 0, none⟩ = false := fun v hv => (hNc.later hv).frozen 0
      have z1 : ∀ v, Below Wc.heap.size Wc v → v.frozen? ⟨W3.heap.size + 1, 1, none⟩ = false := fun v hv => (hNc.later hv).frozen 1
      clear k0 k1 k2 k3 k4 k5 hc0 hc1
      go_region_held3 (fun w' => w'.cell? ⟨wr.heap.size, 0, none⟩ = some (.bool x.b0) ∧ w'.cell? ⟨wr.heap.size, 1, none⟩ = some (.int .i64 x.c0) ∧ w'.cell? ⟨w.heap.size + 1, 0, none⟩ = some (.bool x.h0) ∧ w'.cell? ⟨w.heap.size + 1 + 1, 0, none⟩ = some (.bool x.m0))
        (first
          | exact ⟨c0 _ (belDrew (Below.refl _ _)), c1 _ (belDrew (Below.refl _ _)), kk0 _ (belDrew (Below.refl _ _)), kk3 _ (belDrew (Below.refl _ _))⟩
          | exact ⟨c0 _ (by assumption), c1 _ (by assumption), kk0 _ (by assumption), kk3 _ (by assumption)⟩
          | (refine ⟨?_, ?_, ?_, ?_⟩ <;> (rw [World.cell?_setCell_far _ _ _ _ (by first | exact hne1 | exact hne2 | exact hne3), World.cell?_setCell_far _ _ _ _ (by first | exact hne1 | exact hne2 | exact hne3)]; first | exact c0 _ (by assumption) | exact c1 _ (by assumption) | exact kk0 _ (by assumption) | exact kk3 _ (by assumption))))
        (first | (go_at_call 8; refine (CS.out _).mono ?_; rintro e w1 ⟨rfl, hb1⟩; replace hb1 := belStep (belDrew (Below.refl _ _)) hb1))
      have hN2 := ((hNc.later hb1).set 0 (.bool s)).set 1 (.int .i64 d)
      have hZ2 := ((hZc.later hb1).far (a := ⟨W3.heap.size + 1, 0, none⟩) (by simp) (.bool s)).far (a := ⟨W3.heap.size + 1, 1, none⟩) (by simp) (.int .i64 d)
      have ho2 := ((hoc.later hb1).setCell (a := ⟨W3.heap.size + 1, 0, none⟩) (by simp) (.bool s)).setCell (a := ⟨W3.heap.size + 1, 1, none⟩) (by simp) (.int .i64 d)
      have hb2 := belSet (belSet (belStep hbc hb1) ⟨W3.heap.size + 1, 0, none⟩ (.bool s) (by simp)) ⟨W3.heap.size + 1, 1, none⟩ (.int .i64 d) (by simp)
      have hs2 : W3.heap.size + 1 + 1 ≤ ((w1.setCell ⟨W3.heap.size + 1, 0, none⟩ (.bool s)).setCell ⟨W3.heap.size + 1, 1, none⟩ (.int .i64 d)).heap.size := by have := hb1.size; simp [World.setCell]; omega
      rename_i hH
      have h0 := hH.1
      have e1 : ((x.next 0).set 0 (.bool s)).set 1 (.int .i64 d) = x.next 1 := by rw [← HSs.out, ← HDd.out]; simp [Three.next]
      have e2 : x.evs 1 = x.evs 0 ++ turnEv x.b0 s 0 := by rw [← HSs.out]; simp [Three.evs]
      rw [e1] at hN2
      clear hNc hZc hoc hb1 hbc hH n0 n1 z0 z1 c0 c1 kk0 kk3 CS e1
      generalize (w1.setCell ⟨W3.heap.size + 1, 0, none⟩ (.bool s)).setCell ⟨W3.heap.size + 1, 1, none⟩ (.int .i64 d) = Wd at *
      have m0 : Wd.cell? ⟨W3.heap.size + 1, 0, none⟩ = some (.bool s) := hN2.cell (by rw [← HSs.out]; rfl)
      have E2 := Lib.hid e2
      clear e2
      rcases Bool.eq_false_or_eq_true x.b0 with hbb | hbb <;> cases s
      · rw [hbb] at h0 E2
        clear hbb
        have hro := row_new Wd (evCells 7 0) 33 1 4 rfl (by simp [maxLen])
        have HRo := Lib.hid hro
        have HO := Lib.hid (ho2.alloc (.cells (evCells 7 0).toArray 33))
        have hla := x.evs_le 0
        have hbn := (Below.refl Wd.heap.size Wd).alloc (Nat.le_refl _) (.cells (evCells 7 0).toArray 33)
        have hN3 := hN2.later hbn
        have hZ3 := hZ2.later hbn
        have hb3 := belAlloc hb2 (.cells (evCells 7 0).toArray 33)
        clear hro ho2 hN2 hZ2 hbn
        go_wp2_with (at_builtin; refine wpList_app_row rfl _ _ 29 rfl (W3.heap.size + 1 + 1) 33 _ 4 40 Try.underlying29 info_ev rfl (by decide) _ _ _ rfl HO.out _ 1 1 (evCells 7 0) rfl HRo.out ?c0 ?c1 ?c2 ?c3 ?_)
        case c0 => intro u hu; simp [evCells] at hu; rcases hu with rfl | rfl | rfl | rfl <;> rfl
        case c1 => simp only [maxLen]; omega
        case c2 => omega
        case c3 => simp; omega
        intro v' w2 ho' hb' hg'
        have hs3 : W3.heap.size + 1 + 1 ≤ w2.heap.size := by have := hb'.size; simp at this; omega
        have hb4 : Below W3.heap.size W3 w2 := hb3.trans (hb'.mono (by omega))
        have hN4 := hN3.below hb' (by omega)
        have hZ4 := hZ3.below hb' (by omega)
        have e3 : x.evs 1 = x.evs 0 ++ [(7, 0)] := E2.out
        have ho4 : OwnR w2 (W3.heap.size + 1 + 1) 33 4 v' (x.evs 1).length (evsCells (x.evs 1)) := by
          rw [e3, evsCells_append, List.length_append]; exact ho'
        have HO4 := Lib.hid ho4
        clear ho' hb' hg' e3 ho4
        go_wp2
        go_roundw
        case rel => exact ⟨1, 1, rfl, by omega, rfl, hb4, hN4, hZ4, hs3, HO4.out⟩
        case measure => simp [intOf]
      · rw [hbb] at h0 E2
        clear hbb
        go_wp2
        go_roundw
        case rel => exact ⟨1, 1, rfl, by omega, rfl, hb2, hN2, hZ2, hs2, by rw [E2.out]; simpa [turnEv] using ho2⟩
        case measure => simp [intOf]
      · rw [hbb] at h0 E2
        clear hbb
        go_wp2
        go_roundw
        case rel => exact ⟨1, 1, rfl, by omega, rfl, hb2, hN2, hZ2, hs2, by rw [E2.out]; simpa [turnEv] using ho2⟩
        case measure => simp [intOf]
      · rw [hbb] at h0 E2
        clear hbb
        have hro := row_new Wd (evCells 6 0) 33 1 4 rfl (by simp [maxLen])
        have HRo := Lib.hid hro
        have HO := Lib.hid (ho2.alloc (.cells (evCells 6 0).toArray 33))
        have hla := x.evs_le 0
        have hbn := (Below.refl Wd.heap.size Wd).alloc (Nat.le_refl _) (.cells (evCells 6 0).toArray 33)
        have hN3 := hN2.later hbn
        have hZ3 := hZ2.later hbn
        have hb3 := belAlloc hb2 (.cells (evCells 6 0).toArray 33)
        clear hro ho2 hN2 hZ2 hbn
        go_wp2_with (at_builtin; refine wpList_app_row rfl _ _ 29 rfl (W3.heap.size + 1 + 1) 33 _ 4 40 Try.underlying29 info_ev rfl (by decide) _ _ _ rfl HO.out _ 1 1 (evCells 6 0) rfl HRo.out ?c0 ?c1 ?c2 ?c3 ?_)
        case c0 => intro u hu; simp [evCells] at hu; rcases hu with rfl | rfl | rfl | rfl <;> rfl
        case c1 => simp only [maxLen]; omega
        case c2 => omega
        case c3 => simp; omega
        intro v' w2 ho' hb' hg'
        have hs3 : W3.heap.size + 1 + 1 ≤ w2.heap.size := by have := hb'.size; simp at this; omega
        have hb4 : Below W3.heap.size W3 w2 := hb3.trans (hb'.mono (by omega))
        have hN4 := hN3.below hb' (by omega)
        have hZ4 := hZ3.below hb' (by omega)
        have e3 : x.evs 1 = x.evs 0 ++ [(6, 0)] := E2.out
        have ho4 : OwnR w2 (W3.heap.size + 1 + 1) 33 4 v' (x.evs 1).length (evsCells (x.evs 1)) := by
          rw [e3, evsCells_append, List.length_append]; exact ho'
        have HO4 := Lib.hid ho4
        clear ho' hb' hg' e3 ho4
        go_wp2
        go_roundw
        case rel => exact ⟨1, 1, rfl, by omega, rfl, hb4, hN4, hZ4, hs3, HO4.out⟩
        case measure => simp [intOf]
    · obtain rfl : I = 1 := hI
      obtain ⟨s, hs⟩ : ∃ s, x.s 1 = s := ⟨_, rfl⟩
      obtain ⟨d, hd⟩ : ∃ d, x.d 1 = d := ⟨_, rfl⟩
      have cs : ∀ v, Calls Try.prog 8 #[.agg #[.bool x.b1, .int .i64 x.c1], .bool x.h1, .bool x.m1, .bool x.fresh, .int .i64 x.n] v fun e w' => e = .returned (.agg #[.bool s, .int .i64 d]) ∧ Below v.heap.size v w' := by
        intro v; rw [← hs, ← hd]; exact cond_Step _ _ _ _ _ _ _ f2 f3
      have CS := Lib.hid cs
      have HSs := Lib.hid hs
      have HDd := Lib.hid hd
      clear cs hs hd
      have hc0 : (wr.alloc (.cells #[.bool x.b1, .int .i64 x.c1] 23)).cell? ⟨wr.heap.size, 0, none⟩ = some (.bool x.b1) := by simp
      have hc1 : (wr.alloc (.cells #[.bool x.b1, .int .i64 x.c1] 23)).cell? ⟨wr.heap.size, 1, none⟩ = some (.int .i64 x.c1) := by simp
      have hbc := belAlloc hbel (.cells #[.bool x.b1, .int .i64 x.c1] 23)
      have hNc := hN.later ((Below.refl _ _).alloc (Nat.le_refl _) (.cells #[.bool x.b1, .int .i64 x.c1] 23))
      have hZc := hZ.later ((Below.refl _ _).alloc (Nat.le_refl _) (.cells #[.bool x.b1, .int .i64 x.c1] 23))
      have hoc := ho.later ((Below.refl _ _).alloc (Nat.le_refl _) (.cells #[.bool x.b1, .int .i64 x.c1] 23))
      have hszc : W3.heap.size + 1 + 1 ≤ (wr.alloc (.cells #[.bool x.b1, .int .i64 x.c1] 23)).heap.size := by simp; omega
      have kk0 := keepOn k1 hbc
      have kk3 := keepOn k4 hbc
      have ix : ∀ v, (Instr.index 24 (.agg #[.bool x.b0, .int .i64 x.c0, .bool x.b1, .int .i64 x.c1, .bool x.b2, .int .i64 x.c2]) (.int .i64 1)).run Try.prog v = .ok (.agg #[.bool x.b1, .int .i64 x.c1]) v := fun _ => by kernel_rfl
      have hne1 : W3.heap.size + 1 ≠ wr.heap.size := by omega
      have hne2 : W3.heap.size + 1 ≠ w.heap.size + 1 := by have := HS.out; omega
      have hne3 : W3.heap.size + 1 ≠ w.heap.size + 1 + 1 := by have := HS.out; omega
      clear hN hZ ho
      go_upto_region 6 with (fail)
      generalize wr.alloc (.cells #[.bool x.b1, .int .i64 x.c1] 23) = Wc at *
      have c0 := keep hc0
      have c1 := keep hc1
      have n0 : ∀ v, Below Wc.heap.size Wc v → v.cell? ⟨W3.heap.size + 1, 2, none⟩ = some (.bool x.b1) := keep (hNc.cell rfl)
      have n1 : ∀ v, Below Wc.heap.size Wc v → v.cell? ⟨W3.heap.size + 1, 3, none⟩ = some (.int .i64 x.c1) := keep (hNc.cell rfl)
      have z0 : ∀ v, Below Wc.heap.size Wc v → v.frozen? ⟨W3.heap.size + 1, 2, none⟩ = false := fun v hv => (hNc.later hv).frozen 2
      have z1 : ∀ v, Below Wc.heap.size Wc v → v.frozen? ⟨W3.heap.size + 1, 3, none⟩ = false := fun v hv => (hNc.later hv).frozen 3
      clear k0 k1 k2 k3 k4 k5 hc0 hc1
      go_region_held3 (fun w' => w'.cell? ⟨wr.heap.size, 0, none⟩ = some (.bool x.b1) ∧ w'.cell? ⟨wr.heap.size, 1, none⟩ = some (.int .i64 x.c1) ∧ w'.cell? ⟨w.heap.size + 1, 1, none⟩ = some (.bool x.h1) ∧ w'.cell? ⟨w.heap.size + 1 + 1, 1, none⟩ = some (.bool x.m1))
        (first
          | exact ⟨c0 _ (belDrew (Below.refl _ _)), c1 _ (belDrew (Below.refl _ _)), kk0 _ (belDrew (Below.refl _ _)), kk3 _ (belDrew (Below.refl _ _))⟩
          | exact ⟨c0 _ (by assumption), c1 _ (by assumption), kk0 _ (by assumption), kk3 _ (by assumption)⟩
          | (refine ⟨?_, ?_, ?_, ?_⟩ <;> (rw [World.cell?_setCell_far _ _ _ _ (by first | exact hne1 | exact hne2 | exact hne3), World.cell?_setCell_far _ _ _ _ (by first | exact hne1 | exact hne2 | exact hne3)]; first | exact c0 _ (by assumption) | exact c1 _ (by assumption) | exact kk0 _ (by assumption) | exact kk3 _ (by assumption))))
        (first | (go_at_call 8; refine (CS.out _).mono ?_; rintro e w1 ⟨rfl, hb1⟩; replace hb1 := belStep (belDrew (Below.refl _ _)) hb1))
      have hN2 := ((hNc.later hb1).set 2 (.bool s)).set 3 (.int .i64 d)
      have hZ2 := ((hZc.later hb1).far (a := ⟨W3.heap.size + 1, 2, none⟩) (by simp) (.bool s)).far (a := ⟨W3.heap.size + 1, 3, none⟩) (by simp) (.int .i64 d)
      have ho2 := ((hoc.later hb1).setCell (a := ⟨W3.heap.size + 1, 2, none⟩) (by simp) (.bool s)).setCell (a := ⟨W3.heap.size + 1, 3, none⟩) (by simp) (.int .i64 d)
      have hb2 := belSet (belSet (belStep hbc hb1) ⟨W3.heap.size + 1, 2, none⟩ (.bool s) (by simp)) ⟨W3.heap.size + 1, 3, none⟩ (.int .i64 d) (by simp)
      have hs2 : W3.heap.size + 1 + 1 ≤ ((w1.setCell ⟨W3.heap.size + 1, 2, none⟩ (.bool s)).setCell ⟨W3.heap.size + 1, 3, none⟩ (.int .i64 d)).heap.size := by have := hb1.size; simp [World.setCell]; omega
      rename_i hH
      have h0 := hH.1
      have e1 : ((x.next 1).set 2 (.bool s)).set 3 (.int .i64 d) = x.next 2 := by rw [← HSs.out, ← HDd.out]; simp [Three.next]
      have e2 : x.evs 2 = x.evs 1 ++ turnEv x.b1 s 1 := by rw [← HSs.out]; simp [Three.evs]
      rw [e1] at hN2
      clear hNc hZc hoc hb1 hbc hH n0 n1 z0 z1 c0 c1 kk0 kk3 CS e1
      generalize (w1.setCell ⟨W3.heap.size + 1, 2, none⟩ (.bool s)).setCell ⟨W3.heap.size + 1, 3, none⟩ (.int .i64 d) = Wd at *
      have m0 : Wd.cell? ⟨W3.heap.size + 1, 2, none⟩ = some (.bool s) := hN2.cell (by rw [← HSs.out]; rfl)
      have E2 := Lib.hid e2
      clear e2
      rcases Bool.eq_false_or_eq_true x.b1 with hbb | hbb <;> cases s
      · rw [hbb] at h0 E2
        clear hbb
        have hro := row_new Wd (evCells 7 1) 33 1 4 rfl (by simp [maxLen])
        have HRo := Lib.hid hro
        have HO := Lib.hid (ho2.alloc (.cells (evCells 7 1).toArray 33))
        have hla := x.evs_le 1
        have hbn := (Below.refl Wd.heap.size Wd).alloc (Nat.le_refl _) (.cells (evCells 7 1).toArray 33)
        have hN3 := hN2.later hbn
        have hZ3 := hZ2.later hbn
        have hb3 := belAlloc hb2 (.cells (evCells 7 1).toArray 33)
        clear hro ho2 hN2 hZ2 hbn
        go_wp2_with (at_builtin; refine wpList_app_row rfl _ _ 29 rfl (W3.heap.size + 1 + 1) 33 _ 4 40 Try.underlying29 info_ev rfl (by decide) _ _ _ rfl HO.out _ 1 1 (evCells 7 1) rfl HRo.out ?c0 ?c1 ?c2 ?c3 ?_)
        case c0 => intro u hu; simp [evCells] at hu; rcases hu with rfl | rfl | rfl | rfl <;> rfl
        case c1 => simp only [maxLen]; omega
        case c2 => omega
        case c3 => simp; omega
        intro v' w2 ho' hb' hg'
        have hs3 : W3.heap.size + 1 + 1 ≤ w2.heap.size := by have := hb'.size; simp at this; omega
        have hb4 : Below W3.heap.size W3 w2 := hb3.trans (hb'.mono (by omega))
        have hN4 := hN3.below hb' (by omega)
        have hZ4 := hZ3.below hb' (by omega)
        have e3 : x.evs 2 = x.evs 1 ++ [(7, 1)] := E2.out
        have ho4 : OwnR w2 (W3.heap.size + 1 + 1) 33 4 v' (x.evs 2).length (evsCells (x.evs 2)) := by
          rw [e3, evsCells_append, List.length_append]; exact ho'
        have HO4 := Lib.hid ho4
        clear ho' hb' hg' e3 ho4
        go_wp2
        go_roundw
        case rel => exact ⟨2, 2, rfl, by omega, rfl, hb4, hN4, hZ4, hs3, HO4.out⟩
        case measure => simp [intOf]
      · rw [hbb] at h0 E2
        clear hbb
        go_wp2
        go_roundw
        case rel => exact ⟨2, 2, rfl, by omega, rfl, hb2, hN2, hZ2, hs2, by rw [E2.out]; simpa [turnEv] using ho2⟩
        case measure => simp [intOf]
      · rw [hbb] at h0 E2
        clear hbb
        go_wp2
        go_roundw
        case rel => exact ⟨2, 2, rfl, by omega, rfl, hb2, hN2, hZ2, hs2, by rw [E2.out]; simpa [turnEv] using ho2⟩
        case measure => simp [intOf]
      · rw [hbb] at h0 E2
        clear hbb
        have hro := row_new Wd (evCells 6 1) 33 1 4 rfl (by simp [maxLen])
        have HRo := Lib.hid hro
        have HO := Lib.hid (ho2.alloc (.cells (evCells 6 1).toArray 33))
        have hla := x.evs_le 1
        have hbn := (Below.refl Wd.heap.size Wd).alloc (Nat.le_refl _) (.cells (evCells 6 1).toArray 33)
        have hN3 := hN2.later hbn
        have hZ3 := hZ2.later hbn
        have hb3 := belAlloc hb2 (.cells (evCells 6 1).toArray 33)
        clear hro ho2 hN2 hZ2 hbn
        go_wp2_with (at_builtin; refine wpList_app_row rfl _ _ 29 rfl (W3.heap.size + 1 + 1) 33 _ 4 40 Try.underlying29 info_ev rfl (by decide) _ _ _ rfl HO.out _ 1 1 (evCells 6 1) rfl HRo.out ?c0 ?c1 ?c2 ?c3 ?_)
        case c0 => intro u hu; simp [evCells] at hu; rcases hu with rfl | rfl | rfl | rfl <;> rfl
        case c1 => simp only [maxLen]; omega
        case c2 => omega
        case c3 => simp; omega
        intro v' w2 ho' hb' hg'
        have hs3 : W3.heap.size + 1 + 1 ≤ w2.heap.size := by have := hb'.size; simp at this; omega
        have hb4 : Below W3.heap.size W3 w2 := hb3.trans (hb'.mono (by omega))
        have hN4 := hN3.below hb' (by omega)
        have hZ4 := hZ3.below hb' (by omega)
        have e3 : x.evs 2 = x.evs 1 ++ [(6, 1)] := E2.out
        have ho4 : OwnR w2 (W3.heap.size + 1 + 1) 33 4 v' (x.evs 2).length (evsCells (x.evs 2)) := by
          rw [e3, evsCells_append, List.length_append]; exact ho'
        have HO4 := Lib.hid ho4
        clear ho' hb' hg' e3 ho4
        go_wp2
        go_roundw
        case rel => exact ⟨2, 2, rfl, by omega, rfl, hb4, hN4, hZ4, hs3, HO4.out⟩
        case measure => simp [intOf]
    · obtain rfl : I = 2 := hI
      obtain ⟨s, hs⟩ : ∃ s, x.s 2 = s := ⟨_, rfl⟩
      obtain ⟨d, hd⟩ : ∃ d, x.d 2 = d := ⟨_, rfl⟩
      have cs : ∀ v, Calls Try.prog 8 #[.agg #[.bool x.b2, .int .i64 x.c2], .bool x.h2, .bool x.m2, .bool x.fresh, .int .i64 x.n] v fun e w' => e = .returned (.agg #[.bool s, .int .i64 d]) ∧ Below v.heap.size v w' := by
        intro v; rw [← hs, ← hd]; exact cond_Step _ _ _ _ _ _ _ f4 f5
      have CS := Lib.hid cs
      have HSs := Lib.hid hs
      have HDd := Lib.hid hd
      clear cs hs hd
      have hc0 : (wr.alloc (.cells #[.bool x.b2, .int .i64 x.c2] 23)).cell? ⟨wr.heap.size, 0, none⟩ = some (.bool x.b2) := by simp
      have hc1 : (wr.alloc (.cells #[.bool x.b2, .int .i64 x.c2] 23)).cell? ⟨wr.heap.size, 1, none⟩ = some (.int .i64 x.c2) := by simp
      have hbc := belAlloc hbel (.cells #[.bool x.b2, .int .i64 x.c2] 23)
      have hNc := hN.later ((Below.refl _ _).alloc (Nat.le_refl _) (.cells #[.bool x.b2, .int .i64 x.c2] 23))
      have hZc := hZ.later ((Below.refl _ _).alloc (Nat.le_refl _) (.cells #[.bool x.b2, .int .i64 x.c2] 23))
      have hoc := ho.later ((Below.refl _ _).alloc (Nat.le_refl _) (.cells #[.bool x.b2, .int .i64 x.c2] 23))
      have hszc : W3.heap.size + 1 + 1 ≤ (wr.alloc (.cells #[.bool x.b2, .int .i64 x.c2] 23)).heap.size := by simp; omega
      have kk0 := keepOn k2 hbc
      have kk3 := keepOn k5 hbc
      have ix : ∀ v, (Instr.index 24 (.agg #[.bool x.b0, .int .i64 x.c0, .bool x.b1, .int .i64 x.c1, .bool x.b2, .int .i64 x.c2]) (.int .i64 2)).run Try.prog v = .ok (.agg #[.bool x.b2, .int .i64 x.c2]) v := fun _ => by kernel_rfl
      have hne1 : W3.heap.size + 1 ≠ wr.heap.size := by omega
      have hne2 : W3.heap.size + 1 ≠ w.heap.size + 1 := by have := HS.out; omega
      have hne3 : W3.heap.size + 1 ≠ w.heap.size + 1 + 1 := by have := HS.out; omega
      clear hN hZ ho
      go_upto_region 6 with (fail)
      generalize wr.alloc (.cells #[.bool x.b2, .int .i64 x.c2] 23) = Wc at *
      have c0 := keep hc0
      have c1 := keep hc1
      have n0 : ∀ v, Below Wc.heap.size Wc v → v.cell? ⟨W3.heap.size + 1, 4, none⟩ = some (.bool x.b2) := keep (hNc.cell rfl)
      have n1 : ∀ v, Below Wc.heap.size Wc v → v.cell? ⟨W3.heap.size + 1, 5, none⟩ = some (.int .i64 x.c2) := keep (hNc.cell rfl)
      have z0 : ∀ v, Below Wc.heap.size Wc v → v.frozen? ⟨W3.heap.size + 1, 4, none⟩ = false := fun v hv => (hNc.later hv).frozen 4
      have z1 : ∀ v, Below Wc.heap.size Wc v → v.frozen? ⟨W3.heap.size + 1, 5, none⟩ = false := fun v hv => (hNc.later hv).frozen 5
      clear k0 k1 k2 k3 k4 k5 hc0 hc1
      go_region_held3 (fun w' => w'.cell? ⟨wr.heap.size, 0, none⟩ = some (.bool x.b2) ∧ w'.cell? ⟨wr.heap.size, 1, none⟩ = some (.int .i64 x.c2) ∧ w'.cell? ⟨w.heap.size + 1, 2, none⟩ = some (.bool x.h2) ∧ w'.cell? ⟨w.heap.size + 1 + 1, 2, none⟩ = some (.bool x.m2))
        (first
          | exact ⟨c0 _ (belDrew (Below.refl _ _)), c1 _ (belDrew (Below.refl _ _)), kk0 _ (belDrew (Below.refl _ _)), kk3 _ (belDrew (Below.refl _ _))⟩
          | exact ⟨c0 _ (by assumption), c1 _ (by assumption), kk0 _ (by assumption), kk3 _ (by assumption)⟩
          | (refine ⟨?_, ?_, ?_, ?_⟩ <;> (rw [World.cell?_setCell_far _ _ _ _ (by first | exact hne1 | exact hne2 | exact hne3), World.cell?_setCell_far _ _ _ _ (by first | exact hne1 | exact hne2 | exact hne3)]; first | exact c0 _ (by assumption) | exact c1 _ (by assumption) | exact kk0 _ (by assumption) | exact kk3 _ (by assumption))))
        (first | (go_at_call 8; refine (CS.out _).mono ?_; rintro e w1 ⟨rfl, hb1⟩; replace hb1 := belStep (belDrew (Below.refl _ _)) hb1))
      have hN2 := ((hNc.later hb1).set 4 (.bool s)).set 5 (.int .i64 d)
      have hZ2 := ((hZc.later hb1).far (a := ⟨W3.heap.size + 1, 4, none⟩) (by simp) (.bool s)).far (a := ⟨W3.heap.size + 1, 5, none⟩) (by simp) (.int .i64 d)
      have ho2 := ((hoc.later hb1).setCell (a := ⟨W3.heap.size + 1, 4, none⟩) (by simp) (.bool s)).setCell (a := ⟨W3.heap.size + 1, 5, none⟩) (by simp) (.int .i64 d)
      have hb2 := belSet (belSet (belStep hbc hb1) ⟨W3.heap.size + 1, 4, none⟩ (.bool s) (by simp)) ⟨W3.heap.size + 1, 5, none⟩ (.int .i64 d) (by simp)
      have hs2 : W3.heap.size + 1 + 1 ≤ ((w1.setCell ⟨W3.heap.size + 1, 4, none⟩ (.bool s)).setCell ⟨W3.heap.size + 1, 5, none⟩ (.int .i64 d)).heap.size := by have := hb1.size; simp [World.setCell]; omega
      rename_i hH
      have h0 := hH.1
      have e1 : ((x.next 2).set 4 (.bool s)).set 5 (.int .i64 d) = x.next 3 := by rw [← HSs.out, ← HDd.out]; simp [Three.next]
      have e2 : x.evs 3 = x.evs 2 ++ turnEv x.b2 s 2 := by rw [← HSs.out]; simp [Three.evs]
      rw [e1] at hN2
      clear hNc hZc hoc hb1 hbc hH n0 n1 z0 z1 c0 c1 kk0 kk3 CS e1
      generalize (w1.setCell ⟨W3.heap.size + 1, 4, none⟩ (.bool s)).setCell ⟨W3.heap.size + 1, 5, none⟩ (.int .i64 d) = Wd at *
      have m0 : Wd.cell? ⟨W3.heap.size + 1, 4, none⟩ = some (.bool s) := hN2.cell (by rw [← HSs.out]; rfl)
      have E2 := Lib.hid e2
      clear e2
      rcases Bool.eq_false_or_eq_true x.b2 with hbb | hbb <;> cases s
      · rw [hbb] at h0 E2
        clear hbb
        have hro := row_new Wd (evCells 7 2) 33 1 4 rfl (by simp [maxLen])
        have HRo := Lib.hid hro
        have HO := Lib.hid (ho2.alloc (.cells (evCells 7 2).toArray 33))
        have hla := x.evs_le 2
        have hbn := (Below.refl Wd.heap.size Wd).alloc (Nat.le_refl _) (.cells (evCells 7 2).toArray 33)
        have hN3 := hN2.later hbn
        have hZ3 := hZ2.later hbn
        have hb3 := belAlloc hb2 (.cells (evCells 7 2).toArray 33)
        clear hro ho2 hN2 hZ2 hbn
        go_wp2_with (at_builtin; refine wpList_app_row rfl _ _ 29 rfl (W3.heap.size + 1 + 1) 33 _ 4 40 Try.underlying29 info_ev rfl (by decide) _ _ _ rfl HO.out _ 1 1 (evCells 7 2) rfl HRo.out ?c0 ?c1 ?c2 ?c3 ?_)
        case c0 => intro u hu; simp [evCells] at hu; rcases hu with rfl | rfl | rfl | rfl <;> rfl
        case c1 => simp only [maxLen]; omega
        case c2 => omega
        case c3 => simp; omega
        intro v' w2 ho' hb' hg'
        have hs3 : W3.heap.size + 1 + 1 ≤ w2.heap.size := by have := hb'.size; simp at this; omega
        have hb4 : Below W3.heap.size W3 w2 := hb3.trans (hb'.mono (by omega))
        have hN4 := hN3.below hb' (by omega)
        have hZ4 := hZ3.below hb' (by omega)
        have e3 : x.evs 3 = x.evs 2 ++ [(7, 2)] := E2.out
        have ho4 : OwnR w2 (W3.heap.size + 1 + 1) 33 4 v' (x.evs 3).length (evsCells (x.evs 3)) := by
          rw [e3, evsCells_append, List.length_append]; exact ho'
        have HO4 := Lib.hid ho4
        clear ho' hb' hg' e3 ho4
        go_wp2
        go_roundw
        case rel => exact ⟨3, 3, rfl, by omega, rfl, hb4, hN4, hZ4, hs3, HO4.out⟩
        case measure => simp [intOf]
      · rw [hbb] at h0 E2
        clear hbb
        go_wp2
        go_roundw
        case rel => exact ⟨3, 3, rfl, by omega, rfl, hb2, hN2, hZ2, hs2, by rw [E2.out]; simpa [turnEv] using ho2⟩
        case measure => simp [intOf]
      · rw [hbb] at h0 E2
        clear hbb
        go_wp2
        go_roundw
        case rel => exact ⟨3, 3, rfl, by omega, rfl, hb2, hN2, hZ2, hs2, by rw [E2.out]; simpa [turnEv] using ho2⟩
        case measure => simp [intOf]
      · rw [hbb] at h0 E2
        clear hbb
        have hro := row_new Wd (evCells 6 2) 33 1 4 rfl (by simp [maxLen])
        have HRo := Lib.hid hro
        have HO := Lib.hid (ho2.alloc (.cells (evCells 6 2).toArray 33))
        have hla := x.evs_le 2
        have hbn := (Below.refl Wd.heap.size Wd).alloc (Nat.le_refl _) (.cells (evCells 6 2).toArray 33)
        have hN3 := hN2.later hbn
        have hZ3 := hZ2.later hbn
        have hb3 := belAlloc hb2 (.cells (evCells 6 2).toArray 33)
        clear hro ho2 hN2 hZ2 hbn
        go_wp2_with (at_builtin; refine wpList_app_row rfl _ _ 29 rfl (W3.heap.size + 1 + 1) 33 _ 4 40 Try.underlying29 info_ev rfl (by decide) _ _ _ rfl HO.out _ 1 1 (evCells 6 2) rfl HRo.out ?c0 ?c1 ?c2 ?c3 ?_)
        case c0 => intro u hu; simp [evCells] at hu; rcases hu with rfl | rfl | rfl | rfl <;> rfl
        case c1 => simp only [maxLen]; omega
        case c2 => omega
        case c3 => simp; omega
        intro v' w2 ho' hb' hg'
        have hs3 : W3.heap.size + 1 + 1 ≤ w2.heap.size := by have := hb'.size; simp at this; omega
        have hb4 : Below W3.heap.size W3 w2 := hb3.trans (hb'.mono (by omega))
        have hN4 := hN3.below hb' (by omega)
        have hZ4 := hZ3.below hb' (by omega)
        have e3 : x.evs 3 = x.evs 2 ++ [(6, 2)] := E2.out
        have ho4 : OwnR w2 (W3.heap.size + 1 + 1) 33 4 v' (x.evs 3).length (evsCells (x.evs 3)) := by
          rw [e3, evsCells_append, List.length_append]; exact ho'
        have HO4 := Lib.hid ho4
        clear ho' hb' hg' e3 ho4
        go_wp2
        go_roundw
        case rel => exact ⟨3, 3, rfl, by omega, rfl, hb4, hN4, hZ4, hs3, HO4.out⟩
        case measure => simp [intOf]
    · obtain rfl : I = 3 := hI
      have HO := Lib.hid ho
      have n0 : wr.cell? ⟨W3.heap.size + 1, 0, none⟩ = some (.bool (x.s 0)) := hN.cell rfl
      have n1 : wr.cell? ⟨W3.heap.size + 1, 1, none⟩ = some (.int .i64 (x.d 0)) := hN.cell rfl
      have n2 : wr.cell? ⟨W3.heap.size + 1, 2, none⟩ = some (.bool (x.s 1)) := hN.cell rfl
      have n3 : wr.cell? ⟨W3.heap.size + 1, 3, none⟩ = some (.int .i64 (x.d 1)) := hN.cell rfl
      have n4 : wr.cell? ⟨W3.heap.size + 1, 4, none⟩ = some (.bool (x.s 2)) := hN.cell rfl
      have n5 : wr.cell? ⟨W3.heap.size + 1, 5, none⟩ = some (.int .i64 (x.d 2)) := hN.cell rfl
      have z0 : wr.cell? ⟨W3.heap.size, 0, none⟩ = some (.bool false) := hZ.cell rfl
      have z1 : wr.cell? ⟨W3.heap.size, 1, none⟩ = some (.int .i64 0) := hZ.cell rfl
      have z2 : wr.cell? ⟨W3.heap.size, 2, none⟩ = some (.bool false) := hZ.cell rfl
      have z3 : wr.cell? ⟨W3.heap.size, 3, none⟩ = some (.int .i64 0) := hZ.cell rfl
      have z4 : wr.cell? ⟨W3.heap.size, 4, none⟩ = some (.bool false) := hZ.cell rfl
      have z5 : wr.cell? ⟨W3.heap.size, 5, none⟩ = some (.int .i64 0) := hZ.cell rfl
      have fz := hZ.frozen
      clear ho k0 k1 k2 k3 k4 k5
      go_wp2
      have hF := ((((((hZ.set 0 (.bool (x.s 0))).set 1 (.int .i64 (x.d 0))).set 2 (.bool (x.s 1))).set 3 (.int .i64 (x.d 1))).set 4 (.bool (x.s 2))).set 5 (.int .i64 (x.d 2)))
      have hO6 := ((((((HO.out.setCell (a := ⟨W3.heap.size, 0, none⟩) (by simp; omega) (.bool (x.s 0))).setCell (a := ⟨W3.heap.size, 1, none⟩) (by simp; omega) (.int .i64 (x.d 0))).setCell (a := ⟨W3.heap.size, 2, none⟩) (by simp; omega) (.bool (x.s 1))).setCell (a := ⟨W3.heap.size, 3, none⟩) (by simp; omega) (.int .i64 (x.d 1))).setCell (a := ⟨W3.heap.size, 4, none⟩) (by simp; omega) (.bool (x.s 2))).setCell (a := ⟨W3.heap.size, 5, none⟩) (by simp; omega) (.int .i64 (x.d 2)))
      have hB6 := (belSet (belSet (belSet (belSet (belSet (belSet hbel ⟨W3.heap.size, 0, none⟩ (.bool (x.s 0)) (by simp)) ⟨W3.heap.size, 1, none⟩ (.int .i64 (x.d 0)) (by simp)) ⟨W3.heap.size, 2, none⟩ (.bool (x.s 1)) (by simp)) ⟨W3.heap.size, 3, none⟩ (.int .i64 (x.d 1)) (by simp)) ⟨W3.heap.size, 4, none⟩ (.bool (x.s 2)) (by simp)) ⟨W3.heap.size, 5, none⟩ (.int .i64 (x.d 2)) (by simp))
      generalize ((((((wr.setCell ⟨W3.heap.size, 0, none⟩ (.bool (x.s 0))).setCell ⟨W3.heap.size, 1, none⟩ (.int .i64 (x.d 0))).setCell ⟨W3.heap.size, 2, none⟩ (.bool (x.s 1))).setCell ⟨W3.heap.size, 3, none⟩ (.int .i64 (x.d 1))).setCell ⟨W3.heap.size, 4, none⟩ (.bool (x.s 2))).setCell ⟨W3.heap.size, 5, none⟩ (.int .i64 (x.d 2))) = Wf at *
      obtain ⟨a, cap, rfl, hrow⟩ := row_of_own hO6
      have p0 : Wf.cell? ⟨W3.heap.size, 0, none⟩ = some (.bool (x.s 0)) := hF.cell rfl
      have p1 : Wf.cell? ⟨W3.heap.size, 1, none⟩ = some (.int .i64 (x.d 0)) := hF.cell rfl
      have p2 : Wf.cell? ⟨W3.heap.size, 2, none⟩ = some (.bool (x.s 1)) := hF.cell rfl
      have p3 : Wf.cell? ⟨W3.heap.size, 3, none⟩ = some (.int .i64 (x.d 1)) := hF.cell rfl
      have p4 : Wf.cell? ⟨W3.heap.size, 4, none⟩ = some (.bool (x.s 2)) := hF.cell rfl
      have p5 : Wf.cell? ⟨W3.heap.size, 5, none⟩ = some (.int .i64 (x.d 2)) := hF.cell rfl
      have en : x.next 3 = [.bool (x.s 0), .int .i64 (x.d 0), .bool (x.s 1), .int .i64 (x.d 1), .bool (x.s 2), .int .i64 (x.d 2)] := rfl
      refine bodyPost_ret (v := .tuple #[.agg #[.bool (x.s 0), .int .i64 (x.d 0), .bool (x.s 1), .int .i64 (x.d 1), .bool (x.s 2), .int .i64 (x.d 2)], .slice a (x.evs 3).length cap]) ?_ rfl ⟨⟨a, cap, rfl, hrow, hO6.mono (by have := hw.size; omega)⟩, belStep hw hB6⟩
      simp [results, Try.results7, go_sem, p0, p1, p2, p3, p4, p5]

theorem cond_All (x : Three) (w : World) (hx : x.fits) :
    Calls Try.prog 7 #[.agg #[.bool x.b0, .int .i64 x.c0, .bool x.b1, .int .i64 x.c1, .bool x.b2, .int .i64 x.c2], .agg #[.bool x.h0, .bool x.h1, .bool x.h2], .agg #[.bool x.m0, .bool x.m1, .bool x.m2], .bool x.fresh, .int .i64 x.n] w fun e w' =>
      (∃ a cap, e = .returned (.tuple #[.agg (x.next 3).toArray, .slice a (x.evs 3).length cap]) ∧ Row w' a (x.evs 3).length cap 4 (evsCells (x.evs 3))) ∧ Below w.heap.size w w' :=
  (cond_All_own x w hx).mono fun _ _ ⟨⟨a, c, h1, h2, _⟩, h3⟩ => ⟨⟨a, c, h1, h2⟩, h3⟩
end Go.Proofs.Ytkiphbonohifgaa
