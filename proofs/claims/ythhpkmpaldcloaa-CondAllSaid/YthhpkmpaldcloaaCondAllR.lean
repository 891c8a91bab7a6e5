/- The signals' conditions behind a round: the reference's All, and SameEvents. -/
import Derived.Test.YthhpkmpaldcloaaCondAll0
namespace Go.Proofs.Ythhpkmpaldcloaa
open Go.RowKit
set_option linter.unusedVariables false

/-- The reference's cells behind k signals. -/
def Three.nextR (x : Three) (k : Nat) : List Value :=
  [.bool (if 0 < k then x.s 0 else false), .int .i64 (if 0 < k then x.d 0 else 0),
   .bool (if 1 < k then x.s 1 else false), .int .i64 (if 1 < k then x.d 1 else 0),
   .bool (if 2 < k then x.s 2 else false), .int .i64 (if 2 < k then x.d 2 else 0)]
def Three.fitsR (x : Three) : Prop := (if x.b0 then x.c0 < x.n else x.c0 = 0) ∧ (if x.b1 then x.c1 < x.n else x.c1 = 0) ∧ (if x.b2 then x.c2 < x.n else x.c2 = 0)

set_option maxHeartbeats 4000000 in
theorem cref_All (x : Three) (w : World) (hx : x.fits) (hr : x.fitsR) :
    Calls Try.prog 32 #[.agg #[.bool x.b0, .int .i64 x.c0, .bool x.b1, .int .i64 x.c1, .bool x.b2, .int .i64 x.c2], .agg #[.bool x.h0, .bool x.h1, .bool x.h2], .agg #[.bool x.m0, .bool x.m1, .bool x.m2], .bool x.fresh, .int .i64 x.n] w fun e w' =>
      (∃ a cap, e = .returned (.tuple #[.agg (x.next 3).toArray, .slice a (x.evs 3).length cap]) ∧ Row w' a (x.evs 3).length cap 4 (evsCells (x.evs 3))) ∧ Below w.heap.size w w' := by
  obtain ⟨f0, f1, f2, f3, f4, f5⟩ := hx
  obtain ⟨r0, r1, r2⟩ := hr
  have R0 := Lib.hid r0
  have R1 := Lib.hid r1
  have R2 := Lib.hid r2
  clear r0 r1 r2
  go_enter Try.func32, Try.ntmps32
  go_wp2
  have hS : w.heap.size + 1 + 1 + 1 = (((w.alloc (.cells #[.bool x.b0, .int .i64 x.c0, .bool x.b1, .int .i64 x.c1, .bool x.b2, .int .i64 x.c2] 57)).alloc (.cells #[.bool x.h0, .bool x.h1, .bool x.h2] 58)).alloc (.cells #[.bool x.m0, .bool x.m1, .bool x.m2] 58)).heap.size := by simp
  have hw : Below w.heap.size w (((w.alloc (.cells #[.bool x.b0, .int .i64 x.c0, .bool x.b1, .int .i64 x.c1, .bool x.b2, .int .i64 x.c2] 57)).alloc (.cells #[.bool x.h0, .bool x.h1, .bool x.h2] 58)).alloc (.cells #[.bool x.m0, .bool x.m1, .bool x.m2] 58)) := belAlloc (belAlloc (belAlloc (Below.refl _ _) _) _) _
  have gl : ∀ j v, [Value.bool x.b0, .int .i64 x.c0, .bool x.b1, .int .i64 x.c1, .bool x.b2, .int .i64 x.c2][j]? = some v → (((w.alloc (.cells #[.bool x.b0, .int .i64 x.c0, .bool x.b1, .int .i64 x.c1, .bool x.b2, .int .i64 x.c2] 57)).alloc (.cells #[.bool x.h0, .bool x.h1, .bool x.h2] 58)).alloc (.cells #[.bool x.m0, .bool x.m1, .bool x.m2] 58)).cell? ⟨w.heap.size, j, none⟩ = some v := by
    intro j v h
    rw [World.cell?_alloc_past _ _ _ (by simp; omega), World.cell?_alloc_past _ _ _ (by simp), World.cell?_alloc_at _ _ _ _ (by simp)]
    simpa using h
  have g0 : ∀ j v, [Value.bool x.h0, .bool x.h1, .bool x.h2][j]? = some v → (((w.alloc (.cells #[.bool x.b0, .int .i64 x.c0, .bool x.b1, .int .i64 x.c1, .bool x.b2, .int .i64 x.c2] 57)).alloc (.cells #[.bool x.h0, .bool x.h1, .bool x.h2] 58)).alloc (.cells #[.bool x.m0, .bool x.m1, .bool x.m2] 58)).cell? ⟨w.heap.size + 1, j, none⟩ = some v := by
    intro j v h
    rw [World.cell?_alloc_past _ _ _ (by simp), World.cell?_alloc_at _ _ _ _ (by simp)]
    simpa using h
  have g1 : ∀ j v, [Value.bool x.m0, .bool x.m1, .bool x.m2][j]? = some v → (((w.alloc (.cells #[.bool x.b0, .int .i64 x.c0, .bool x.b1, .int .i64 x.c1, .bool x.b2, .int .i64 x.c2] 57)).alloc (.cells #[.bool x.h0, .bool x.h1, .bool x.h2] 58)).alloc (.cells #[.bool x.m0, .bool x.m1, .bool x.m2] 58)).cell? ⟨w.heap.size + 1 + 1, j, none⟩ = some v := by
    intro j v h
    rw [World.cell?_alloc_at _ _ _ _ (by simp)]
    simpa using h
  generalize (((w.alloc (.cells #[.bool x.b0, .int .i64 x.c0, .bool x.b1, .int .i64 x.c1, .bool x.b2, .int .i64 x.c2] 57)).alloc (.cells #[.bool x.h0, .bool x.h1, .bool x.h2] 58)).alloc (.cells #[.bool x.m0, .bool x.m1, .bool x.m2] 58)) = W3 at *
  have l0 := keep (gl 0 _ rfl)
  have l1 := keep (gl 1 _ rfl)
  have l2 := keep (gl 2 _ rfl)
  have l3 := keep (gl 3 _ rfl)
  have l4 := keep (gl 4 _ rfl)
  have l5 := keep (gl 5 _ rfl)
  have k0 := keep (g0 0 _ rfl)
  have k1 := keep (g0 1 _ rfl)
  have k2 := keep (g0 2 _ rfl)
  have k3 := keep (g1 0 _ rfl)
  have k4 := keep (g1 1 _ rfl)
  have k5 := keep (g1 2 _ rfl)
  clear g0 g1 gl
  simp only [hS]
  have HS := Lib.hid hS
  clear hS
  go_loopw [13, 14] (fun v i wr => ∃ (k : Nat) (I : Int), I = k ∧ k ≤ 3 ∧ i = .int .i64 I ∧ Below W3.heap.size W3 wr ∧ Blk wr (W3.heap.size + 1) (x.nextR k) 57 ∧ Blk wr W3.heap.size [.bool false, .int .i64 0, .bool false, .int .i64 0, .bool false, .int .i64 0] 57 ∧
    W3.heap.size + 1 + 1 ≤ wr.heap.size ∧ OwnR wr (W3.heap.size + 1 + 1) 65 4 v (x.evs k).length (evsCells (x.evs k))) (fun _ i _ => 3 - (intOf i).toNat)
  case atStart =>
    refine ⟨0, 0, rfl, by omega, rfl, belAlloc (belAlloc (Below.refl _ _) _) _, ?_, ?_, by simp, OwnR.nil _ _ _ _⟩
    · have := Blk.new (W3.alloc (.cells #[.bool false, .int .i64 0, .bool false, .int .i64 0, .bool false, .int .i64 0] 57)) (x.nextR 0) 57
      simpa [Three.nextR] using this
    · exact (Blk.new W3 _ _).later ((Below.refl _ _).alloc (Nat.le_refl _) _)
  case round =>
    obtain ⟨k, I, hI, hk, rfl, hbr, hN, hZ, hsz, ho⟩ := hrel
    have key : k = 0 ∨ k = 1 ∨ k = 2 ∨ k = 3 := by omega
    have hbel := hbr
    clear hbr
    rcases key with rfl | rfl | rfl | rfl
    · obtain rfl : I = 0 := hI
      obtain ⟨s, hs⟩ : ∃ s, x.s 0 = s := ⟨_, rfl⟩
      obtain ⟨d, hd⟩ : ∃ d, x.d 0 = d := ⟨_, rfl⟩
      have cs : ∀ v, Calls Try.prog 29 #[.agg #[.bool x.b0, .int .i64 x.c0], .bool x.h0, .bool x.m0, .bool x.fresh, .int .i64 x.n] v fun e w' => e = .returned (.agg #[.bool s, .int .i64 d]) ∧ Below v.heap.size v w' := by
        intro v; rw [← hs, ← hd]; exact cref_Step _ _ _ _ _ _ _ f0 f1 R0.out
      have CS := Lib.hid cs
      have HSs := Lib.hid hs
      have HDd := Lib.hid hd
      clear cs hs hd
      have c0 := keepOn l0 hbel
      have c1 := keepOn l1 hbel
      have kk0 := keepOn k0 hbel
      have kk3 := keepOn k3 hbel
      have hne1 : W3.heap.size + 1 ≠ w.heap.size := by have := HS.out; omega
      have hne2 : W3.heap.size + 1 ≠ w.heap.size + 1 := by have := HS.out; omega
      have hne3 : W3.heap.size + 1 ≠ w.heap.size + 1 + 1 := by have := HS.out; omega
      have n0 : ∀ v, Below wr.heap.size wr v → v.cell? ⟨W3.heap.size + 1, 0, none⟩ = some (.bool false) := keep (hN.cell rfl)
      have n1 : ∀ v, Below wr.heap.size wr v → v.cell? ⟨W3.heap.size + 1, 1, none⟩ = some (.int .i64 0) := keep (hN.cell rfl)
      have z0 : ∀ v, Below wr.heap.size wr v → v.frozen? ⟨W3.heap.size + 1, 0, none⟩ = false := fun v hv => (hN.later hv).frozen 0
      have z1 : ∀ v, Below wr.heap.size wr v → v.frozen? ⟨W3.heap.size + 1, 1, none⟩ = false := fun v hv => (hN.later hv).frozen 1
      clear k0 k1 k2 k3 k4 k5 l0 l1 l2 l3 l4 l5
      go_upto_region 6 with (fail)
      go_region_held3 (fun w' => w'.cell? ⟨w.heap.size, 0, none⟩ = some (.bool x.b0) ∧ w'.cell? ⟨w.heap.size, 1, none⟩ = some (.int .i64 x.c0) ∧ w'.cell? ⟨w.heap.size + 1, 0, none⟩ = some (.bool x.h0) ∧ w'.cell? ⟨w.heap.size + 1 + 1, 0, none⟩ = some (.bool x.m0))
        (first
          | exact ⟨c0 _ (belDrew (Below.refl _ _)), c1 _ (belDrew (Below.refl _ _)), kk0 _ (belDrew (Below.refl _ _)), kk3 _ (belDrew (Below.refl _ _))⟩
          | exact ⟨c0 _ (by assumption), c1 _ (by assumption), kk0 _ (by assumption), kk3 _ (by assumption)⟩
          | (refine ⟨?_, ?_, ?_, ?_⟩ <;> (rw [World.cell?_setCell_far _ _ _ _ (by first | exact hne1 | exact hne2 | exact hne3), World.cell?_setCell_far _ _ _ _ (by first | exact hne1 | exact hne2 | exact hne3)]; first | exact c0 _ (by assumption) | exact c1 _ (by assumption) | exact kk0 _ (by assumption) | exact kk3 _ (by assumption))))
        (first | (go_at_call 29; refine (CS.out _).mono ?_; rintro e w1 ⟨rfl, hb1⟩; replace hb1 := belStep (belDrew (Below.refl _ _)) hb1))
      have hN2 := ((hN.later hb1).set 0 (.bool s)).set 1 (.int .i64 d)
      have hZ2 := ((hZ.later hb1).far (a := ⟨W3.heap.size + 1, 0, none⟩) (by simp) (.bool s)).far (a := ⟨W3.heap.size + 1, 1, none⟩) (by simp) (.int .i64 d)
      have ho2 := ((ho.later hb1).setCell (a := ⟨W3.heap.size + 1, 0, none⟩) (by simp) (.bool s)).setCell (a := ⟨W3.heap.size + 1, 1, none⟩) (by simp) (.int .i64 d)
      have hb2 := belSet (belSet (belStep hbel hb1) ⟨W3.heap.size + 1, 0, none⟩ (.bool s) (by simp)) ⟨W3.heap.size + 1, 1, none⟩ (.int .i64 d) (by simp)
      have hs2 : W3.heap.size + 1 + 1 ≤ ((w1.setCell ⟨W3.heap.size + 1, 0, none⟩ (.bool s)).setCell ⟨W3.heap.size + 1, 1, none⟩ (.int .i64 d)).heap.size := by have := hb1.size; simp [World.setCell]; omega
      rename_i hH
      have h0 := hH.1
      have e1 : ((x.nextR 0).set 0 (.bool s)).set 1 (.int .i64 d) = x.nextR 1 := by rw [← HSs.out, ← HDd.out]; simp [Three.nextR]
      have e2 : x.evs 1 = x.evs 0 ++ turnEv x.b0 s 0 := by rw [← HSs.out]; simp [Three.evs]
      rw [e1] at hN2
      clear hN hZ ho hb1 hbel hH n0 n1 z0 z1 c0 c1 kk0 kk3 CS e1
      generalize (w1.setCell ⟨W3.heap.size + 1, 0, none⟩ (.bool s)).setCell ⟨W3.heap.size + 1, 1, none⟩ (.int .i64 d) = Wd at *
      have m0 : Wd.cell? ⟨W3.heap.size + 1, 0, none⟩ = some (.bool s) := hN2.cell (by rw [← HSs.out]; rfl)
      have E2 := Lib.hid e2
      clear e2
      rcases Bool.eq_false_or_eq_true x.b0 with hbb | hbb <;> cases s
      · rw [hbb] at h0 E2
        clear hbb
        go_wp2
        go_quiet (fail)
        have hb2' := belDrewN hb2 nq
        have hN2' : Blk (Wd.drewN nq) _ _ _ := hN2
        have hZ2' : Blk (Wd.drewN nq) _ _ _ := hZ2
        have ho2' : OwnR (Wd.drewN nq) _ _ _ _ _ _ := ho2
        have hs2' : W3.heap.size + 1 + 1 ≤ (Wd.drewN nq).heap.size := hs2
        have m0' : (Wd.drewN nq).cell? ⟨W3.heap.size + 1, 0, none⟩ = some (.bool false) := m0
        clear hb2 hN2 hZ2 ho2 hs2 m0 h0
        generalize Wd.drewN nq = We at *
        have hro := row_new We (evCells 7 0) 65 1 4 rfl (by simp [maxLen])
        have HRo := Lib.hid hro
        have HO := Lib.hid (ho2'.alloc (.cells (evCells 7 0).toArray 65))
        have hla := x.evs_le 0
        have hbn := (Below.refl We.heap.size We).alloc (Nat.le_refl _) (.cells (evCells 7 0).toArray 65)
        have hN3 := hN2'.later hbn
        have hZ3 := hZ2'.later hbn
        have hb3 := belAlloc hb2' (.cells (evCells 7 0).toArray 65)
        clear hro ho2' hN2' hZ2' hbn
        go_wp2_with (at_builtin; refine wpList_app_row rfl _ _ 59 rfl (W3.heap.size + 1 + 1) 65 _ 4 40 Try.underlying59 info_ev rfl (by decide) _ _ _ rfl HO.out _ 1 1 (evCells 7 0) rfl HRo.out ?c0 ?c1 ?c2 ?c3 ?_)
        case c0 => intro u hu; simp [evCells] at hu; rcases hu with rfl | rfl | rfl | rfl <;> rfl
        case c1 => simp only [maxLen]; omega
        case c2 => omega
        case c3 => simp; omega
        intro v' w2 ho' hb' hg'
        have hs3 : W3.heap.size + 1 + 1 ≤ w2.heap.size := by have := hb'.size; simp at this; omega
        have hb4 : Below W3.heap.size W3 w2 := hb3.trans (hb'.mono (by omega))
        have hN4 := hN3.below hb' (by omega)
        have hZ4 := hZ3.below hb' (by omega)
        have e3 : x.evs 1 = x.evs 0 ++ [(7, 0)] := E2.out
        have ho4 : OwnR w2 (W3.heap.size + 1 + 1) 65 4 v' (x.evs 1).length (evsCells (x.evs 1)) := by
          rw [e3, evsCells_append, List.length_append]; exact ho'
        have HO4 := Lib.hid ho4
        clear ho' hb' hg' e3 ho4
        go_wp2
        go_roundw
        case rel => exact ⟨1, 1, rfl, by omega, rfl, hb4, hN4, hZ4, hs3, HO4.out⟩
        case measure => simp [intOf]
      · rw [hbb] at h0 E2
        clear hbb
        go_wp2
        go_quiet (fail)
        go_wp2
        go_roundw
        case rel => exact ⟨1, 1, rfl, by omega, rfl, belDrewN hb2 _, hN2, hZ2, hs2, by rw [E2.out]; simpa [turnEv] using ho2.drewN nq⟩
        case measure => simp [intOf]
      · rw [hbb] at h0 E2
        clear hbb
        go_wp2
        go_quiet (fail)
        go_wp2
        go_roundw
        case rel => exact ⟨1, 1, rfl, by omega, rfl, belDrewN hb2 _, hN2, hZ2, hs2, by rw [E2.out]; simpa [turnEv] using ho2.drewN nq⟩
        case measure => simp [intOf]
      · rw [hbb] at h0 E2
        clear hbb
        go_wp2
        go_quiet (fail)
        have hb2' := belDrewN hb2 nq
        have hN2' : Blk (Wd.drewN nq) _ _ _ := hN2
        have hZ2' : Blk (Wd.drewN nq) _ _ _ := hZ2
        have ho2' : OwnR (Wd.drewN nq) _ _ _ _ _ _ := ho2
        have hs2' : W3.heap.size + 1 + 1 ≤ (Wd.drewN nq).heap.size := hs2
        have m0' : (Wd.drewN nq).cell? ⟨W3.heap.size + 1, 0, none⟩ = some (.bool true) := m0
        clear hb2 hN2 hZ2 ho2 hs2 m0 h0
        generalize Wd.drewN nq = We at *
        have hro := row_new We (evCells 6 0) 65 1 4 rfl (by simp [maxLen])
        have HRo := Lib.hid hro
        have HO := Lib.hid (ho2'.alloc (.cells (evCells 6 0).toArray 65))
        have hla := x.evs_le 0
        have hbn := (Below.refl We.heap.size We).alloc (Nat.le_refl _) (.cells (evCells 6 0).toArray 65)
        have hN3 := hN2'.later hbn
        have hZ3 := hZ2'.later hbn
        have hb3 := belAlloc hb2' (.cells (evCells 6 0).toArray 65)
        clear hro ho2' hN2' hZ2' hbn
        go_wp2_with (at_builtin; refine wpList_app_row rfl _ _ 59 rfl (W3.heap.size + 1 + 1) 65 _ 4 40 Try.underlying59 info_ev rfl (by decide) _ _ _ rfl HO.out _ 1 1 (evCells 6 0) rfl HRo.out ?c0 ?c1 ?c2 ?c3 ?_)
        case c0 => intro u hu; simp [evCells] at hu; rcases hu with rfl | rfl | rfl | rfl <;> rfl
        case c1 => simp only [maxLen]; omega
        case c2 => omega
        case c3 => simp; omega
        intro v' w2 ho' hb' hg'
        have hs3 : W3.heap.size + 1 + 1 ≤ w2.heap.size := by have := hb'.size; simp at this; omega
        have hb4 : Below W3.heap.size W3 w2 := hb3.trans (hb'.mono (by omega))
        have hN4 := hN3.below hb' (by omega)
        have hZ4 := hZ3.below hb' (by omega)
        have e3 : x.evs 1 = x.evs 0 ++ [(6, 0)] := E2.out
        have ho4 : OwnR w2 (W3.heap.size + 1 + 1) 65 4 v' (x.evs 1).length (evsCells (x.evs 1)) := by
          rw [e3, evsCells_append, List.length_append]; exact ho'
        have HO4 := Lib.hid ho4
        clear ho' hb' hg' e3 ho4
        go_wp2
        go_roundw
        case rel => exact ⟨1, 1, rfl, by omega, rfl, hb4, hN4, hZ4, hs3, HO4.out⟩
        case measure => simp [intOf]
    · obtain rfl : I = 1 := hI
      obtain ⟨s, hs⟩ : ∃ s, x.s 1 = s := ⟨_, rfl⟩
      obtain ⟨d, hd⟩ : ∃ d, x.d 1 = d := ⟨_, rfl⟩
      have cs : ∀ v, Calls Try.prog 29 #[.agg #[.bool x.b1, .int .i64 x.c1], .bool x.h1, .bool x.m1, .bool x.fresh, .int .i64 x.n] v fun e w' => e = .returned (.agg #[.bool s, .int .i64 d]) ∧ Below v.heap.size v w' := by
        intro v; rw [← hs, ← hd]; exact cref_Step _ _ _ _ _ _ _ f2 f3 R1.out
      have CS := Lib.hid cs
      have HSs := Lib.hid hs
      have HDd := Lib.hid hd
      clear cs hs hd
      have c0 := keepOn l2 hbel
      have c1 := keepOn l3 hbel
      have kk0 := keepOn k1 hbel
      have kk3 := keepOn k4 hbel
      have hne1 : W3.heap.size + 1 ≠ w.heap.size := by have := HS.out; omega
      have hne2 : W3.heap.size + 1 ≠ w.heap.size + 1 := by have := HS.out; omega
      have hne3 : W3.heap.size + 1 ≠ w.heap.size + 1 + 1 := by have := HS.out; omega
      have n0 : ∀ v, Below wr.heap.size wr v → v.cell? ⟨W3.heap.size + 1, 2, none⟩ = some (.bool false) := keep (hN.cell rfl)
      have n1 : ∀ v, Below wr.heap.size wr v → v.cell? ⟨W3.heap.size + 1, 3, none⟩ = some (.int .i64 0) := keep (hN.cell rfl)
      have z0 : ∀ v, Below wr.heap.size wr v → v.frozen? ⟨W3.heap.size + 1, 2, none⟩ = false := fun v hv => (hN.later hv).frozen 2
      have z1 : ∀ v, Below wr.heap.size wr v → v.frozen? ⟨W3.heap.size + 1, 3, none⟩ = false := fun v hv => (hN.later hv).frozen 3
      clear k0 k1 k2 k3 k4 k5 l0 l1 l2 l3 l4 l5
      go_upto_region 6 with (fail)
      go_region_held3 (fun w' => w'.cell? ⟨w.heap.size, 2, none⟩ = some (.bool x.b1) ∧ w'.cell? ⟨w.heap.size, 3, none⟩ = some (.int .i64 x.c1) ∧ w'.cell? ⟨w.heap.size + 1, 1, none⟩ = some (.bool x.h1) ∧ w'.cell? ⟨w.heap.size + 1 + 1, 1, none⟩ = some (.bool x.m1))
        (first
          | exact ⟨c0 _ (belDrew (Below.refl _ _)), c1 _ (belDrew (Below.refl _ _)), kk0 _ (belDrew (Below.refl _ _)), kk3 _ (belDrew (Below.refl _ _))⟩
          | exact ⟨c0 _ (by assumption), c1 _ (by assumption), kk0 _ (by assumption), kk3 _ (by assumption)⟩
          | (refine ⟨?_, ?_, ?_, ?_⟩ <;> (rw [World.cell?_setCell_far _ _ _ _ (by first | exact hne1 | exact hne2 | exact hne3), World.cell?_setCell_far _ _ _ _ (by first | exact hne1 | exact hne2 | exact hne3)]; first | exact c0 _ (by assumption) | exact c1 _ (by assumption) | exact kk0 _ (by assumption) | exact kk3 _ (by assumption))))
        (first | (go_at_call 29; refine (CS.out _).mono ?_; rintro e w1 ⟨rfl, hb1⟩; replace hb1 := belStep (belDrew (Below.refl _ _)) hb1))
      have hN2 := ((hN.later hb1).set 2 (.bool s)).set 3 (.int .i64 d)
      have hZ2 := ((hZ.later hb1).far (a := ⟨W3.heap.size + 1, 2, none⟩) (by simp) (.bool s)).far (a := ⟨W3.heap.size + 1, 3, none⟩) (by simp) (.int .i64 d)
      have ho2 := ((ho.later hb1).setCell (a := ⟨W3.heap.size + 1, 2, none⟩) (by simp) (.bool s)).setCell (a := ⟨W3.heap.size + 1, 3, none⟩) (by simp) (.int .i64 d)
      have hb2 := belSet (belSet (belStep hbel hb1) ⟨W3.heap.size + 1, 2, none⟩ (.bool s) (by simp)) ⟨W3.heap.size + 1, 3, none⟩ (.int .i64 d) (by simp)
      have hs2 : W3.heap.size + 1 + 1 ≤ ((w1.setCell ⟨W3.heap.size + 1, 2, none⟩ (.bool s)).setCell ⟨W3.heap.size + 1, 3, none⟩ (.int .i64 d)).heap.size := by have := hb1.size; simp [World.setCell]; omega
      rename_i hH
      have h0 := hH.1
      have e1 : ((x.nextR 1).set 2 (.bool s)).set 3 (.int .i64 d) = x.nextR 2 := by rw [← HSs.out, ← HDd.out]; simp [Three.nextR]
      have e2 : x.evs 2 = x.evs 1 ++ turnEv x.b1 s 1 := by rw [← HSs.out]; simp [Three.evs]
      rw [e1] at hN2
      clear hN hZ ho hb1 hbel hH n0 n1 z0 z1 c0 c1 kk0 kk3 CS e1
      generalize (w1.setCell ⟨W3.heap.size + 1, 2, none⟩ (.bool s)).setCell ⟨W3.heap.size + 1, 3, none⟩ (.int .i64 d) = Wd at *
      have m0 : Wd.cell? ⟨W3.heap.size + 1, 2, none⟩ = some (.bool s) := hN2.cell (by rw [← HSs.out]; rfl)
      have E2 := Lib.hid e2
      clear e2
      rcases Bool.eq_false_or_eq_true x.b1 with hbb | hbb <;> cases s
      · rw [hbb] at h0 E2
        clear hbb
        go_wp2
        go_quiet (fail)
        have hb2' := belDrewN hb2 nq
        have hN2' : Blk (Wd.drewN nq) _ _ _ := hN2
        have hZ2' : Blk (Wd.drewN nq) _ _ _ := hZ2
        have ho2' : OwnR (Wd.drewN nq) _ _ _ _ _ _ := ho2
        have hs2' : W3.heap.size + 1 + 1 ≤ (Wd.drewN nq).heap.size := hs2
        have m0' : (Wd.drewN nq).cell? ⟨W3.heap.size + 1, 2, none⟩ = some (.bool false) := m0
        clear hb2 hN2 hZ2 ho2 hs2 m0 h0
        generalize Wd.drewN nq = We at *
        have hro := row_new We (evCells 7 1) 65 1 4 rfl (by simp [maxLen])
        have HRo := Lib.hid hro
        have HO := Lib.hid (ho2'.alloc (.cells (evCells 7 1).toArray 65))
        have hla := x.evs_le 1
        have hbn := (Below.refl We.heap.size We).alloc (Nat.le_refl _) (.cells (evCells 7 1).toArray 65)
        have hN3 := hN2'.later hbn
        have hZ3 := hZ2'.later hbn
        have hb3 := belAlloc hb2' (.cells (evCells 7 1).toArray 65)
        clear hro ho2' hN2' hZ2' hbn
        go_wp2_with (at_builtin; refine wpList_app_row rfl _ _ 59 rfl (W3.heap.size + 1 + 1) 65 _ 4 40 Try.underlying59 info_ev rfl (by decide) _ _ _ rfl HO.out _ 1 1 (evCells 7 1) rfl HRo.out ?c0 ?c1 ?c2 ?c3 ?_)
        case c0 => intro u hu; simp [evCells] at hu; rcases hu with rfl | rfl | rfl | rfl <;> rfl
        case c1 => simp only [maxLen]; omega
        case c2 => omega
        case c3 => simp; omega
        intro v' w2 ho' hb' hg'
        have hs3 : W3.heap.size + 1 + 1 ≤ w2.heap.size := by have := hb'.size; simp at this; omega
        have hb4 : Below W3.heap.size W3 w2 := hb3.trans (hb'.mono (by omega))
        have hN4 := hN3.below hb' (by omega)
        have hZ4 := hZ3.below hb' (by omega)
        have e3 : x.evs 2 = x.evs 1 ++ [(7, 1)] := E2.out
        have ho4 : OwnR w2 (W3.heap.size + 1 + 1) 65 4 v' (x.evs 2).length (evsCells (x.evs 2)) := by
          rw [e3, evsCells_append, List.length_append]; exact ho'
        have HO4 := Lib.hid ho4
        clear ho' hb' hg' e3 ho4
        go_wp2
        go_roundw
        case rel => exact ⟨2, 2, rfl, by omega, rfl, hb4, hN4, hZ4, hs3, HO4.out⟩
        case measure => simp [intOf]
      · rw [hbb] at h0 E2
        clear hbb
        go_wp2
        go_quiet (fail)
        go_wp2
        go_roundw
        case rel => exact ⟨2, 2, rfl, by omega, rfl, belDrewN hb2 _, hN2, hZ2, hs2, by rw [E2.out]; simpa [turnEv] using ho2.drewN nq⟩
        case measure => simp [intOf]
      · rw [hbb] at h0 E2
        clear hbb
        go_wp2
        go_quiet (fail)
        go_wp2
        go_roundw
        case rel => exact ⟨2, 2, rfl, by omega, rfl, belDrewN hb2 _, hN2, hZ2, hs2, by rw [E2.out]; simpa [turnEv] using ho2.drewN nq⟩
        case measure => simp [intOf]
      · rw [hbb] at h0 E2
        clear hbb
        go_wp2
        go_quiet (fail)
        have hb2' := belDrewN hb2 nq
        have hN2' : Blk (Wd.drewN nq) _ _ _ := hN2
        have hZ2' : Blk (Wd.drewN nq) _ _ _ := hZ2
        have ho2' : OwnR (Wd.drewN nq) _ _ _ _ _ _ := ho2
        have hs2' : W3.heap.size + 1 + 1 ≤ (Wd.drewN nq).heap.size := hs2
        have m0' : (Wd.drewN nq).cell? ⟨W3.heap.size + 1, 2, none⟩ = some (.bool true) := m0
        clear hb2 hN2 hZ2 ho2 hs2 m0 h0
        generalize Wd.drewN nq = We at *
        have hro := row_new We (evCells 6 1) 65 1 4 rfl (by simp [maxLen])
        have HRo := Lib.hid hro
        have HO := Lib.hid (ho2'.alloc (.cells (evCells 6 1).toArray 65))
        have hla := x.evs_le 1
        have hbn := (Below.refl We.heap.size We).alloc (Nat.le_refl _) (.cells (evCells 6 1).toArray 65)
        have hN3 := hN2'.later hbn
        have hZ3 := hZ2'.later hbn
        have hb3 := belAlloc hb2' (.cells (evCells 6 1).toArray 65)
        clear hro ho2' hN2' hZ2' hbn
        go_wp2_with (at_builtin; refine wpList_app_row rfl _ _ 59 rfl (W3.heap.size + 1 + 1) 65 _ 4 40 Try.underlying59 info_ev rfl (by decide) _ _ _ rfl HO.out _ 1 1 (evCells 6 1) rfl HRo.out ?c0 ?c1 ?c2 ?c3 ?_)
        case c0 => intro u hu; simp [evCells] at hu; rcases hu with rfl | rfl | rfl | rfl <;> rfl
        case c1 => simp only [maxLen]; omega
        case c2 => omega
        case c3 => simp; omega
        intro v' w2 ho' hb' hg'
        have hs3 : W3.heap.size + 1 + 1 ≤ w2.heap.size := by have := hb'.size; simp at this; omega
        have hb4 : Below W3.heap.size W3 w2 := hb3.trans (hb'.mono (by omega))
        have hN4 := hN3.below hb' (by omega)
        have hZ4 := hZ3.below hb' (by omega)
        have e3 : x.evs 2 = x.evs 1 ++ [(6, 1)] := E2.out
        have ho4 : OwnR w2 (W3.heap.size + 1 + 1) 65 4 v' (x.evs 2).length (evsCells (x.evs 2)) := by
          rw [e3, evsCells_append, List.length_append]; exact ho'
        have HO4 := Lib.hid ho4
        clear ho' hb' hg' e3 ho4
        go_wp2
        go_roundw
        case rel => exact ⟨2, 2, rfl, by omega, rfl, hb4, hN4, hZ4, hs3, HO4.out⟩
        case measure => simp [intOf]
    · obtain rfl : I = 2 := hI
      obtain ⟨s, hs⟩ : ∃ s, x.s 2 = s := ⟨_, rfl⟩
      obtain ⟨d, hd⟩ : ∃ d, x.d 2 = d := ⟨_, rfl⟩
      have cs : ∀ v, Calls Try.prog 29 #[.agg #[.bool x.b2, .int .i64 x.c2], .bool x.h2, .bool x.m2, .bool x.fresh, .int .i64 x.n] v fun e w' => e = .returned (.agg #[.bool s, .int .i64 d]) ∧ Below v.heap.size v w' := by
        intro v; rw [← hs, ← hd]; exact cref_Step _ _ _ _ _ _ _ f4 f5 R2.out
      have CS := Lib.hid cs
      have HSs := Lib.hid hs
      have HDd := Lib.hid hd
      clear cs hs hd
      have c0 := keepOn l4 hbel
      have c1 := keepOn l5 hbel
      have kk0 := keepOn k2 hbel
      have kk3 := keepOn k5 hbel
      have hne1 : W3.heap.size + 1 ≠ w.heap.size := by have := HS.out; omega
      have hne2 : W3.heap.size + 1 ≠ w.heap.size + 1 := by have := HS.out; omega
      have hne3 : W3.heap.size + 1 ≠ w.heap.size + 1 + 1 := by have := HS.out; omega
      have n0 : ∀ v, Below wr.heap.size wr v → v.cell? ⟨W3.heap.size + 1, 4, none⟩ = some (.bool false) := keep (hN.cell rfl)
      have n1 : ∀ v, Below wr.heap.size wr v → v.cell? ⟨W3.heap.size + 1, 5, none⟩ = some (.int .i64 0) := keep (hN.cell rfl)
      have z0 : ∀ v, Below wr.heap.size wr v → v.frozen? ⟨W3.heap.size + 1, 4, none⟩ = false := fun v hv => (hN.later hv).frozen 4
      have z1 : ∀ v, Below wr.heap.size wr v → v.frozen? ⟨W3.heap.size + 1, 5, none⟩ = false := fun v hv => (hN.later hv).frozen 5
      clear k0 k1 k2 k3 k4 k5 l0 l1 l2 l3 l4 l5
      go_upto_region 6 with (fail)
      go_region_held3 (fun w' => w'.cell? ⟨w.heap.size, 4, none⟩ = some (.bool x.b2) ∧ w'.cell? ⟨w.heap.size, 5, none⟩ = some (.int .i64 x.c2) ∧ w'.cell? ⟨w.heap.size + 1, 2, none⟩ = some (.bool x.h2) ∧ w'.cell? ⟨w.heap.size + 1 + 1, 2, none⟩ = some (.bool x.m2))
        (first
          | exact ⟨c0 _ (belDrew (Below.refl _ _)), c1 _ (belDrew (Below.refl _ _)), kk0 _ (belDrew (Below.refl _ _)), kk3 _ (belDrew (Below.refl _ _))⟩
          | exact ⟨c0 _ (by assumption), c1 _ (by assumption), kk0 _ (by assumption), kk3 _ (by assumption)⟩
          | (refine ⟨?_, ?_, ?_, ?_⟩ <;> (rw [World.cell?_setCell_far _ _ _ _ (by first | exact hne1 | exact hne2 | exact hne3), World.cell?_setCell_far _ _ _ _ (by first | exact hne1 | exact hne2 | exact hne3)]; first | exact c0 _ (by assumption) | exact c1 _ (by assumption) | exact kk0 _ (by assumption) | exact kk3 _ (by assumption))))
        (first | (go_at_call 29; refine (CS.out _).mono ?_; rintro e w1 ⟨rfl, hb1⟩; replace hb1 := belStep (belDrew (Below.refl _ _)) hb1))
      have hN2 := ((hN.later hb1).set 4 (.bool s)).set 5 (.int .i64 d)
      have hZ2 := ((hZ.later hb1).far (a := ⟨W3.heap.size + 1, 4, none⟩) (by simp) (.bool s)).far (a := ⟨W3.heap.size + 1, 5, none⟩) (by simp) (.int .i64 d)
      have ho2 := ((ho.later hb1).setCell (a := ⟨W3.heap.size + 1, 4, none⟩) (by simp) (.bool s)).setCell (a := ⟨W3.heap.size + 1, 5, none⟩) (by simp) (.int .i64 d)
      have hb2 := belSet (belSet (belStep hbel hb1) ⟨W3.heap.size + 1, 4, none⟩ (.bool s) (by simp)) ⟨W3.heap.size + 1, 5, none⟩ (.int .i64 d) (by simp)
      have hs2 : W3.heap.size + 1 + 1 ≤ ((w1.setCell ⟨W3.heap.size + 1, 4, none⟩ (.bool s)).setCell ⟨W3.heap.size + 1, 5, none⟩ (.int .i64 d)).heap.size := by have := hb1.size; simp [World.setCell]; omega
      rename_i hH
      have h0 := hH.1
      have e1 : ((x.nextR 2).set 4 (.bool s)).set 5 (.int .i64 d) = x.nextR 3 := by rw [← HSs.out, ← HDd.out]; simp [Three.nextR]
      have e2 : x.evs 3 = x.evs 2 ++ turnEv x.b2 s 2 := by rw [← HSs.out]; simp [Three.evs]
      rw [e1] at hN2
      clear hN hZ ho hb1 hbel hH n0 n1 z0 z1 c0 c1 kk0 kk3 CS e1
      generalize (w1.setCell ⟨W3.heap.size + 1, 4, none⟩ (.bool s)).setCell ⟨W3.heap.size + 1, 5, none⟩ (.int .i64 d) = Wd at *
      have m0 : Wd.cell? ⟨W3.heap.size + 1, 4, none⟩ = some (.bool s) := hN2.cell (by rw [← HSs.out]; rfl)
      have E2 := Lib.hid e2
      clear e2
      rcases Bool.eq_false_or_eq_true x.b2 with hbb | hbb <;> cases s
      · rw [hbb] at h0 E2
        clear hbb
        go_wp2
        go_quiet (fail)
        have hb2' := belDrewN hb2 nq
        have hN2' : Blk (Wd.drewN nq) _ _ _ := hN2
        have hZ2' : Blk (Wd.drewN nq) _ _ _ := hZ2
        have ho2' : OwnR (Wd.drewN nq) _ _ _ _ _ _ := ho2
        have hs2' : W3.heap.size + 1 + 1 ≤ (Wd.drewN nq).heap.size := hs2
        have m0' : (Wd.drewN nq).cell? ⟨W3.heap.size + 1, 4, none⟩ = some (.bool false) := m0
        clear hb2 hN2 hZ2 ho2 hs2 m0 h0
        generalize Wd.drewN nq = We at *
        have hro := row_new We (evCells 7 2) 65 1 4 rfl (by simp [maxLen])
        have HRo := Lib.hid hro
        have HO := Lib.hid (ho2'.alloc (.cells (evCells 7 2).toArray 65))
        have hla := x.evs_le 2
        have hbn := (Below.refl We.heap.size We).alloc (Nat.le_refl _) (.cells (evCells 7 2).toArray 65)
        have hN3 := hN2'.later hbn
        have hZ3 := hZ2'.later hbn
        have hb3 := belAlloc hb2' (.cells (evCells 7 2).toArray 65)
        clear hro ho2' hN2' hZ2' hbn
        go_wp2_with (at_builtin; refine wpList_app_row rfl _ _ 59 rfl (W3.heap.size + 1 + 1) 65 _ 4 40 Try.underlying59 info_ev rfl (by decide) _ _ _ rfl HO.out _ 1 1 (evCells 7 2) rfl HRo.out ?c0 ?c1 ?c2 ?c3 ?_)
        case c0 => intro u hu; simp [evCells] at hu; rcases hu with rfl | rfl | rfl | rfl <;> rfl
        case c1 => simp only [maxLen]; omega
        case c2 => omega
        case c3 => simp; omega
        intro v' w2 ho' hb' hg'
        have hs3 : W3.heap.size + 1 + 1 ≤ w2.heap.size := by have := hb'.size; simp at this; omega
        have hb4 : Below W3.heap.size W3 w2 := hb3.trans (hb'.mono (by omega))
        have hN4 := hN3.below hb' (by omega)
        have hZ4 := hZ3.below hb' (by omega)
        have e3 : x.evs 3 = x.evs 2 ++ [(7, 2)] := E2.out
        have ho4 : OwnR w2 (W3.heap.size + 1 + 1) 65 4 v' (x.evs 3).length (evsCells (x.evs 3)) := by
          rw [e3, evsCells_append, List.length_append]; exact ho'
        have HO4 := Lib.hid ho4
        clear ho' hb' hg' e3 ho4
        go_wp2
        go_roundw
        case rel => exact ⟨3, 3, rfl, by omega, rfl, hb4, hN4, hZ4, hs3, HO4.out⟩
        case measure => simp [intOf]
      · rw [hbb] at h0 E2
        clear hbb
        go_wp2
        go_quiet (fail)
        go_wp2
        go_roundw
        case rel => exact ⟨3, 3, rfl, by omega, rfl, belDrewN hb2 _, hN2, hZ2, hs2, by rw [E2.out]; simpa [turnEv] using ho2.drewN nq⟩
        case measure => simp [intOf]
      · rw [hbb] at h0 E2
        clear hbb
        go_wp2
        go_quiet (fail)
        go_wp2
        go_roundw
        case rel => exact ⟨3, 3, rfl, by omega, rfl, belDrewN hb2 _, hN2, hZ2, hs2, by rw [E2.out]; simpa [turnEv] using ho2.drewN nq⟩
        case measure => simp [intOf]
      · rw [hbb] at h0 E2
        clear hbb
        go_wp2
        go_quiet (fail)
        have hb2' := belDrewN hb2 nq
        have hN2' : Blk (Wd.drewN nq) _ _ _ := hN2
        have hZ2' : Blk (Wd.drewN nq) _ _ _ := hZ2
        have ho2' : OwnR (Wd.drewN nq) _ _ _ _ _ _ := ho2
        have hs2' : W3.heap.size + 1 + 1 ≤ (Wd.drewN nq).heap.size := hs2
        have m0' : (Wd.drewN nq).cell? ⟨W3.heap.size + 1, 4, none⟩ = some (.bool true) := m0
        clear hb2 hN2 hZ2 ho2 hs2 m0 h0
        generalize Wd.drewN nq = We at *
        have hro := row_new We (evCells 6 2) 65 1 4 rfl (by simp [maxLen])
        have HRo := Lib.hid hro
        have HO := Lib.hid (ho2'.alloc (.cells (evCells 6 2).toArray 65))
        have hla := x.evs_le 2
        have hbn := (Below.refl We.heap.size We).alloc (Nat.le_refl _) (.cells (evCells 6 2).toArray 65)
        have hN3 := hN2'.later hbn
        have hZ3 := hZ2'.later hbn
        have hb3 := belAlloc hb2' (.cells (evCells 6 2).toArray 65)
        clear hro ho2' hN2' hZ2' hbn
        go_wp2_with (at_builtin; refine wpList_app_row rfl _ _ 59 rfl (W3.heap.size + 1 + 1) 65 _ 4 40 Try.underlying59 info_ev rfl (by decide) _ _ _ rfl HO.out _ 1 1 (evCells 6 2) rfl HRo.out ?c0 ?c1 ?c2 ?c3 ?_)
        case c0 => intro u hu; simp [evCells] at hu; rcases hu with rfl | rfl | rfl | rfl <;> rfl
        case c1 => simp only [maxLen]; omega
        case c2 => omega
        case c3 => simp; omega
        intro v' w2 ho' hb' hg'
        have hs3 : W3.heap.size + 1 + 1 ≤ w2.heap.size := by have := hb'.size; simp at this; omega
        have hb4 : Below W3.heap.size W3 w2 := hb3.trans (hb'.mono (by omega))
        have hN4 := hN3.below hb' (by omega)
        have hZ4 := hZ3.below hb' (by omega)
        have e3 : x.evs 3 = x.evs 2 ++ [(6, 2)] := E2.out
        have ho4 : OwnR w2 (W3.heap.size + 1 + 1) 65 4 v' (x.evs 3).length (evsCells (x.evs 3)) := by
          rw [e3, evsCells_append, List.length_append]; exact ho'
        have HO4 := Lib.hid ho4
        clear ho' hb' hg' e3 ho4
        go_wp2
        go_roundw
        case rel => exact ⟨3, 3, rfl, by omega, rfl, hb4, hN4, hZ4, hs3, HO4.out⟩
        case measure => simp [intOf]
    · obtain rfl : I = 3 := hI
      have HO := Lib.hid ho
      have n0 : wr.cell? ⟨W3.heap.size + 1, 0, none⟩ = some (.bool (x.s 0)) := hN.cell rfl
      have n1 : wr.cell? ⟨W3.heap.size + 1, 1, none⟩ = some (.int .i64 (x.d 0)) := hN.cell rfl
      have n2 : wr.cell? ⟨W3.heap.size + 1, 2, none⟩ = some (.bool (x.s 1)) := hN.cell rfl
      have n3 : wr.cell? ⟨W3.heap.size + 1, 3, none⟩ = some (.int .i64 (x.d 1)) := hN.cell rfl
      have n4 : wr.cell? ⟨W3.heap.size + 1, 4, none⟩ = some (.bool (x.s 2)) := hN.cell rfl
      have n5 : wr.cell? ⟨W3.heap.size + 1, 5, none⟩ = some (.int .i64 (x.d 2)) := hN.cell rfl
      have z0 : wr.cell? ⟨W3.heap.size, 0, none⟩ = some (.bool false) := hZ.cell rfl
      have z1 : wr.cell? ⟨W3.heap.size, 1, none⟩ = some (.int .i64 0) := hZ.cell rfl
      have z2 : wr.cell? ⟨W3.heap.size, 2, none⟩ = some (.bool false) := hZ.cell rfl
      have z3 : wr.cell? ⟨W3.heap.size, 3, none⟩ = some (.int .i64 0) := hZ.cell rfl
      have z4 : wr.cell? ⟨W3.heap.size, 4, none⟩ = some (.bool false) := hZ.cell rfl
      have z5 : wr.cell? ⟨W3.heap.size, 5, none⟩ = some (.int .i64 0) := hZ.cell rfl
      have fz := hZ.frozen
      clear ho k0 k1 k2 k3 k4 k5 l0 l1 l2 l3 l4 l5
      go_wp2
      have hF := ((((((hZ.set 0 (.bool (x.s 0))).set 1 (.int .i64 (x.d 0))).set 2 (.bool (x.s 1))).set 3 (.int .i64 (x.d 1))).set 4 (.bool (x.s 2))).set 5 (.int .i64 (x.d 2)))
      have hO6 := ((((((HO.out.setCell (a := ⟨W3.heap.size, 0, none⟩) (by simp; omega) (.bool (x.s 0))).setCell (a := ⟨W3.heap.size, 1, none⟩) (by simp; omega) (.int .i64 (x.d 0))).setCell (a := ⟨W3.heap.size, 2, none⟩) (by simp; omega) (.bool (x.s 1))).setCell (a := ⟨W3.heap.size, 3, none⟩) (by simp; omega) (.int .i64 (x.d 1))).setCell (a := ⟨W3.heap.size, 4, none⟩) (by simp; omega) (.bool (x.s 2))).setCell (a := ⟨W3.heap.size, 5, none⟩) (by simp; omega) (.int .i64 (x.d 2)))
      have hB6 := (belSet (belSet (belSet (belSet (belSet (belSet hbel ⟨W3.heap.size, 0, none⟩ (.bool (x.s 0)) (by simp)) ⟨W3.heap.size, 1, none⟩ (.int .i64 (x.d 0)) (by simp)) ⟨W3.heap.size, 2, none⟩ (.bool (x.s 1)) (by simp)) ⟨W3.heap.size, 3, none⟩ (.int .i64 (x.d 1)) (by simp)) ⟨W3.heap.size, 4, none⟩ (.bool (x.s 2)) (by simp)) ⟨W3.heap.size, 5, none⟩ (.int .i64 (x.d 2)) (by simp))
      generalize ((((((wr.setCell ⟨W3.heap.size, 0, none⟩ (.bool (x.s 0))).setCell ⟨W3.heap.size, 1, none⟩ (.int .i64 (x.d 0))).setCell ⟨W3.heap.size, 2, none⟩ (.bool (x.s 1))).setCell ⟨W3.heap.size, 3, none⟩ (.int .i64 (x.d 1))).setCell ⟨W3.heap.size, 4, none⟩ (.bool (x.s 2))).setCell ⟨W3.heap.size, 5, none⟩ (.int .i64 (x.d 2))) = Wf at *
      obtain ⟨a, cap, rfl, hrow⟩ := row_of_own hO6
      have p0 : Wf.cell? ⟨W3.heap.size, 0, none⟩ = some (.bool (x.s 0)) := hF.cell rfl
      have p1 : Wf.cell? ⟨W3.heap.size, 1, none⟩ = some (.int .i64 (x.d 0)) := hF.cell rfl
      have p2 : Wf.cell? ⟨W3.heap.size, 2, none⟩ = some (.bool (x.s 1)) := hF.cell rfl
      have p3 : Wf.cell? ⟨W3.heap.size, 3, none⟩ = some (.int .i64 (x.d 1)) := hF.cell rfl
      have p4 : Wf.cell? ⟨W3.heap.size, 4, none⟩ = some (.bool (x.s 2)) := hF.cell rfl
      have p5 : Wf.cell? ⟨W3.heap.size, 5, none⟩ = some (.int .i64 (x.d 2)) := hF.cell rfl
      have en : x.next 3 = [.bool (x.s 0), .int .i64 (x.d 0), .bool (x.s 1), .int .i64 (x.d 1), .bool (x.s 2), .int .i64 (x.d 2)] := rfl
      refine bodyPost_ret (v := .tuple #[.agg #[.bool (x.s 0), .int .i64 (x.d 0), .bool (x.s 1), .int .i64 (x.d 1), .bool (x.s 2), .int .i64 (x.d 2)], .slice a (x.evs 3).length cap]) ?_ rfl ⟨⟨a, cap, rfl, hrow⟩, belStep hw hB6⟩
      simp [results, Try.results32, go_sem, p0, p1, p2, p3, p4, p5]

theorem evs_at {l : List (Int × Int)} {k : Nat} {x : Int × Int} (h : l[k]? = some x) :
    (evsCells l)[4 * k]? = some (.int .i64 x.1) ∧ (evsCells l)[4 * k + 1]? = some (.string ByteArray.empty) ∧ (evsCells l)[4 * k + 2]? = some (.int .i64 x.2) ∧ (evsCells l)[4 * k + 3]? = some (.int .i64 0) := by
  induction l generalizing k with
  | nil => simp at h
  | cons y l ih =>
    have e : evsCells (y :: l) = evCells y.1 y.2 ++ evsCells l := rfl
    cases k with
    | zero => simp at h; subst h; rw [e]; exact ⟨rfl, rfl, rfl, rfl⟩
    | succ k =>
      simp at h
      have := ih h
      rw [e, show 4 * (k + 1) = 4 * k + 4 by omega]
      have g : ∀ j, (evCells y.1 y.2 ++ evsCells l)[4 + j]? = (evsCells l)[j]? := fun j => by
        rw [List.getElem?_append_right (by simp [evCells])]
        simp [evCells]
      refine ⟨?_, ?_, ?_, ?_⟩
      · rw [Nat.add_comm, g]; exact this.1
      · rw [show 4 * k + 4 + 1 = 4 + (4 * k + 1) by omega, g]; exact this.2.1
      · rw [show 4 * k + 4 + 2 = 4 + (4 * k + 2) by omega, g]; exact this.2.2.1
      · rw [show 4 * k + 4 + 3 = 4 + (4 * k + 3) by omega, g]; exact this.2.2.2

set_option maxHeartbeats 1000000 in
/-- The same events. -/
theorem sameEvents (a b : Option Addr) (ca cb : Nat) (l : List (Int × Int)) (w : World) (ha : Row w a l.length ca 4 (evsCells l)) (hb : Row w b l.length cb 4 (evsCells l)) :
    Calls Try.prog 33 #[.slice a l.length ca, .slice b l.length cb] w fun e w' => e = .returned (.bool true) ∧ Below w.heap.size w w' := by
  obtain ⟨a1, a2, a3, a4, a5⟩ := ha
  obtain ⟨b1, b2, b3, b4, b5⟩ := hb
  unfold maxLen at a3
  have hb0 : Below w.heap.size w w := Below.refl _ _
  go_enter Try.func33, Try.ntmps33
  go_wp2
  go_loopw [5] (fun i wr => ∃ k : Nat, k ≤ l.length ∧ i = .int .i64 k ∧ Below w.heap.size w wr) (fun i _ => l.length - (intOf i).toNat)
  case atStart => exact ⟨0, Nat.zero_le _, rfl, hb0⟩
  case round =>
    obtain ⟨k, hk, rfl, hbr⟩ := hrel
    by_cases hlt : k < l.length
    · obtain ⟨ks, hks⟩ : ∃ ks, l[k]? = some ks := ⟨l[k], List.getElem?_eq_getElem hlt⟩
      have hcs := evs_at hks
      have hne : l ≠ [] := by intro e; rw [e] at hlt; simp at hlt
      have hle : 4 * k + 3 < (evsCells l).length := by rw [a1]; omega
      obtain ⟨ba, oa, rfl, ca5⟩ : ∃ b off, a = some ⟨b, off, none⟩ ∧ ∀ i, i < (evsCells l).length → w.cell? ⟨b, off + i, none⟩ = (evsCells l)[i]? := by
        rcases a5 with h | h
        · rw [h] at hle; simp at hle
        · exact h
      obtain ⟨bb, ob, rfl, cb5⟩ : ∃ c off, b = some ⟨c, off, none⟩ ∧ ∀ i, i < (evsCells l).length → w.cell? ⟨c, off + i, none⟩ = (evsCells l)[i]? := by
        rcases b5 with h | h
        · rw [h] at hle; simp at hle
        · exact h
      clear a5 b5
      have A0 := fun j hj v (hv : (evsCells l)[j]? = some v) => cell_later hbr ((ca5 j hj).trans hv)
      have B0 := fun j hj v (hv : (evsCells l)[j]? = some v) => cell_later hbr ((cb5 j hj).trans hv)
      have x0 := A0 (4 * k) (by omega) _ hcs.1
      rw [show oa + (4 * k) = oa + k * 4 by omega] at x0
      have x1 := A0 (4 * k + 1) (by omega) _ hcs.2.1
      rw [show oa + (4 * k + 1) = oa + k * 4 + 1 by omega] at x1
      have x2 := A0 (4 * k + 2) (by omega) _ hcs.2.2.1
      rw [show oa + (4 * k + 2) = oa + k * 4 + 2 by omega] at x2
      have x3 := A0 (4 * k + 3) (by omega) _ hcs.2.2.2
      rw [show oa + (4 * k + 3) = oa + k * 4 + 3 by omega] at x3
      have y0 := B0 (4 * k) (by omega) _ hcs.1
      rw [show ob + (4 * k) = ob + k * 4 by omega] at y0
      have y1 := B0 (4 * k + 1) (by omega) _ hcs.2.1
      rw [show ob + (4 * k + 1) = ob + k * 4 + 1 by omega] at y1
      have y2 := B0 (4 * k + 2) (by omega) _ hcs.2.2.1
      rw [show ob + (4 * k + 2) = ob + k * 4 + 2 by omega] at y2
      have y3 := B0 (4 * k + 3) (by omega) _ hcs.2.2.2
      rw [show ob + (4 * k + 3) = ob + k * 4 + 3 by omega] at y3
      have HB := Lib.hid hbr
      clear A0 B0 ca5 cb5 hcs hbr a1 b1 hks
      go_wp2
      go_quiet (fail)
      go_wp2
      go_roundw
      case rel => exact ⟨k + 1, by omega, by go_num, belDrewN HB.out _⟩
      case measure => simp [intOf]; omega
    · have : k = l.length := by omega
      subst this
      go_wp2
      go_ret
      exact ⟨rfl, hbr⟩
end Go.Proofs.Ythhpkmpaldcloaa
