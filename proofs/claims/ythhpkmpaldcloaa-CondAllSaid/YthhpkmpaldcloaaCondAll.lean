/- CondAll holds for every three conditions, whatever is told of a round, and every int as a period. No conditions. -/
import Derived.Test.YthhpkmpaldcloaaAwake19
import Derived.Test.YthhpkmpaldcloaaReadCond
namespace Go.Proofs.Ythhpkmpaldcloaa.condAll
open Go.ChangeShapes Go.WideShapes Go.ChangeAt Go.RowKit
open Go.ChangeMaps (open_string shut_string)
set_option linter.unusedVariables false

set_option maxRecDepth 100000

theorem right_fits (on : Bool) (c n : Int) (hn : n ≤ 1000) (h : rightC on c n = true) : (0 ≤ c ∧ c < 9223372036854775807) ∧ (if on then c < n else c = 0) := by
  cases on <;> simp [rightC] at h ⊢ <;> omega

set_option maxHeartbeats 4000000 in
theorem walk (b0 : Bool) (c0 : Int) (b1 : Bool) (c1 : Int) (b2 : Bool) (c2 : Int) (h0 h1 h2 m0 m1 m2 fresh : Bool) (n : Int) (w : World) (i0 : InI c0) (i1 : InI c1) (i2 : InI c2) (hn : InI n) :
    Calls Try.prog 14 #[.agg #[.bool b0, .int .i64 c0, .bool b1, .int .i64 c1, .bool b2, .int .i64 c2], .agg #[.bool h0, .bool h1, .bool h2], .agg #[.bool m0, .bool m1, .bool m2], .bool fresh, .int .i64 n] w fun e w' => e = .returned (.bool true) ∧ Below w.heap.size w w' := by
  have hw : Below w.heap.size w w := Below.refl _ _
  have hbel := hw
  go_enter Try.func14, Try.ntmps14
  go_upto_region 1 with (fail)
  have l0 : (((w.alloc (.cells #[.bool b0, .int .i64 c0, .bool b1, .int .i64 c1, .bool b2, .int .i64 c2] 57)).alloc (.cells #[.bool h0, .bool h1, .bool h2] 58)).alloc (.cells #[.bool m0, .bool m1, .bool m2] 58)).cell? ⟨w.heap.size, 0, none⟩ = some (.bool b0) := by first | (simp; done) | (rw [World.cell?_alloc_at _ _ _ _ (by simp)]; rfl) | (rw [World.cell?_alloc_past _ _ _ (by simp <;> omega), World.cell?_alloc_at _ _ _ _ (by simp)]; rfl) | (rw [World.cell?_alloc_past _ _ _ (by simp <;> omega), World.cell?_alloc_past _ _ _ (by simp <;> omega), World.cell?_alloc_at _ _ _ _ (by simp)]; rfl)
  have l1 : (((w.alloc (.cells #[.bool b0, .int .i64 c0, .bool b1, .int .i64 c1, .bool b2, .int .i64 c2] 57)).alloc (.cells #[.bool h0, .bool h1, .bool h2] 58)).alloc (.cells #[.bool m0, .bool m1, .bool m2] 58)).cell? ⟨w.heap.size, 1, none⟩ = some (.int .i64 c0) := by first | (simp; done) | (rw [World.cell?_alloc_at _ _ _ _ (by simp)]; rfl) | (rw [World.cell?_alloc_past _ _ _ (by simp <;> omega), World.cell?_alloc_at _ _ _ _ (by simp)]; rfl) | (rw [World.cell?_alloc_past _ _ _ (by simp <;> omega), World.cell?_alloc_past _ _ _ (by simp <;> omega), World.cell?_alloc_at _ _ _ _ (by simp)]; rfl)
  have l2 : (((w.alloc (.cells #[.bool b0, .int .i64 c0, .bool b1, .int .i64 c1, .bool b2, .int .i64 c2] 57)).alloc (.cells #[.bool h0, .bool h1, .bool h2] 58)).alloc (.cells #[.bool m0, .bool m1, .bool m2] 58)).cell? ⟨w.heap.size, 2, none⟩ = some (.bool b1) := by first | (simp; done) | (rw [World.cell?_alloc_at _ _ _ _ (by simp)]; rfl) | (rw [World.cell?_alloc_past _ _ _ (by simp <;> omega), World.cell?_alloc_at _ _ _ _ (by simp)]; rfl) | (rw [World.cell?_alloc_past _ _ _ (by simp <;> omega), World.cell?_alloc_past _ _ _ (by simp <;> omega), World.cell?_alloc_at _ _ _ _ (by simp)]; rfl)
  have l3 : (((w.alloc (.cells #[.bool b0, .int .i64 c0, .bool b1, .int .i64 c1, .bool b2, .int .i64 c2] 57)).alloc (.cells #[.bool h0, .bool h1, .bool h2] 58)).alloc (.cells #[.bool m0, .bool m1, .bool m2] 58)).cell? ⟨w.heap.size, 3, none⟩ = some (.int .i64 c1) := by first | (simp; done) | (rw [World.cell?_alloc_at _ _ _ _ (by simp)]; rfl) | (rw [World.cell?_alloc_past _ _ _ (by simp <;> omega), World.cell?_alloc_at _ _ _ _ (by simp)]; rfl) | (rw [World.cell?_alloc_past _ _ _ (by simp <;> omega), World.cell?_alloc_past _ _ _ (by simp <;> omega), World.cell?_alloc_at _ _ _ _ (by simp)]; rfl)
  have l4 : (((w.alloc (.cells #[.bool b0, .int .i64 c0, .bool b1, .int .i64 c1, .bool b2, .int .i64 c2] 57)).alloc (.cells #[.bool h0, .bool h1, .bool h2] 58)).alloc (.cells #[.bool m0, .bool m1, .bool m2] 58)).cell? ⟨w.heap.size, 4, none⟩ = some (.bool b2) := by first | (simp; done) | (rw [World.cell?_alloc_at _ _ _ _ (by simp)]; rfl) | (rw [World.cell?_alloc_past _ _ _ (by simp <;> omega), World.cell?_alloc_at _ _ _ _ (by simp)]; rfl) | (rw [World.cell?_alloc_past _ _ _ (by simp <;> omega), World.cell?_alloc_past _ _ _ (by simp <;> omega), World.cell?_alloc_at _ _ _ _ (by simp)]; rfl)
  have l5 : (((w.alloc (.cells #[.bool b0, .int .i64 c0, .bool b1, .int .i64 c1, .bool b2, .int .i64 c2] 57)).alloc (.cells #[.bool h0, .bool h1, .bool h2] 58)).alloc (.cells #[.bool m0, .bool m1, .bool m2] 58)).cell? ⟨w.heap.size, 5, none⟩ = some (.int .i64 c2) := by first | (simp; done) | (rw [World.cell?_alloc_at _ _ _ _ (by simp)]; rfl) | (rw [World.cell?_alloc_past _ _ _ (by simp <;> omega), World.cell?_alloc_at _ _ _ _ (by simp)]; rfl) | (rw [World.cell?_alloc_past _ _ _ (by simp <;> omega), World.cell?_alloc_past _ _ _ (by simp <;> omega), World.cell?_alloc_at _ _ _ _ (by simp)]; rfl)
  have k0 : (((w.alloc (.cells #[.bool b0, .int .i64 c0, .bool b1, .int .i64 c1, .bool b2, .int .i64 c2] 57)).alloc (.cells #[.bool h0, .bool h1, .bool h2] 58)).alloc (.cells #[.bool m0, .bool m1, .bool m2] 58)).cell? ⟨w.heap.size + 1, 0, none⟩ = some (.bool h0) := by first | (simp; done) | (rw [World.cell?_alloc_at _ _ _ _ (by simp)]; rfl) | (rw [World.cell?_alloc_past _ _ _ (by simp <;> omega), World.cell?_alloc_at _ _ _ _ (by simp)]; rfl) | (rw [World.cell?_alloc_past _ _ _ (by simp <;> omega), World.cell?_alloc_past _ _ _ (by simp <;> omega), World.cell?_alloc_at _ _ _ _ (by simp)]; rfl)
  have k1 : (((w.alloc (.cells #[.bool b0, .int .i64 c0, .bool b1, .int .i64 c1, .bool b2, .int .i64 c2] 57)).alloc (.cells #[.bool h0, .bool h1, .bool h2] 58)).alloc (.cells #[.bool m0, .bool m1, .bool m2] 58)).cell? ⟨w.heap.size + 1, 1, none⟩ = some (.bool h1) := by first | (simp; done) | (rw [World.cell?_alloc_at _ _ _ _ (by simp)]; rfl) | (rw [World.cell?_alloc_past _ _ _ (by simp <;> omega), World.cell?_alloc_at _ _ _ _ (by simp)]; rfl) | (rw [World.cell?_alloc_past _ _ _ (by simp <;> omega), World.cell?_alloc_past _ _ _ (by simp <;> omega), World.cell?_alloc_at _ _ _ _ (by simp)]; rfl)
  have k2 : (((w.alloc (.cells #[.bool b0, .int .i64 c0, .bool b1, .int .i64 c1, .bool b2, .int .i64 c2] 57)).alloc (.cells #[.bool h0, .bool h1, .bool h2] 58)).alloc (.cells #[.bool m0, .bool m1, .bool m2] 58)).cell? ⟨w.heap.size + 1, 2, none⟩ = some (.bool h2) := by first | (simp; done) | (rw [World.cell?_alloc_at _ _ _ _ (by simp)]; rfl) | (rw [World.cell?_alloc_past _ _ _ (by simp <;> omega), World.cell?_alloc_at _ _ _ _ (by simp)]; rfl) | (rw [World.cell?_alloc_past _ _ _ (by simp <;> omega), World.cell?_alloc_past _ _ _ (by simp <;> omega), World.cell?_alloc_at _ _ _ _ (by simp)]; rfl)
  have k3 : (((w.alloc (.cells #[.bool b0, .int .i64 c0, .bool b1, .int .i64 c1, .bool b2, .int .i64 c2] 57)).alloc (.cells #[.bool h0, .bool h1, .bool h2] 58)).alloc (.cells #[.bool m0, .bool m1, .bool m2] 58)).cell? ⟨w.heap.size + 1 + 1, 0, none⟩ = some (.bool m0) := by first | (simp; done) | (rw [World.cell?_alloc_at _ _ _ _ (by simp)]; rfl) | (rw [World.cell?_alloc_past _ _ _ (by simp <;> omega), World.cell?_alloc_at _ _ _ _ (by simp)]; rfl) | (rw [World.cell?_alloc_past _ _ _ (by simp <;> omega), World.cell?_alloc_past _ _ _ (by simp <;> omega), World.cell?_alloc_at _ _ _ _ (by simp)]; rfl)
  have k4 : (((w.alloc (.cells #[.bool b0, .int .i64 c0, .bool b1, .int .i64 c1, .bool b2, .int .i64 c2] 57)).alloc (.cells #[.bool h0, .bool h1, .bool h2] 58)).alloc (.cells #[.bool m0, .bool m1, .bool m2] 58)).cell? ⟨w.heap.size + 1 + 1, 1, none⟩ = some (.bool m1) := by first | (simp; done) | (rw [World.cell?_alloc_at _ _ _ _ (by simp)]; rfl) | (rw [World.cell?_alloc_past _ _ _ (by simp <;> omega), World.cell?_alloc_at _ _ _ _ (by simp)]; rfl) | (rw [World.cell?_alloc_past _ _ _ (by simp <;> omega), World.cell?_alloc_past _ _ _ (by simp <;> omega), World.cell?_alloc_at _ _ _ _ (by simp)]; rfl)
  have k5 : (((w.alloc (.cells #[.bool b0, .int .i64 c0, .bool b1, .int .i64 c1, .bool b2, .int .i64 c2] 57)).alloc (.cells #[.bool h0, .bool h1, .bool h2] 58)).alloc (.cells #[.bool m0, .bool m1, .bool m2] 58)).cell? ⟨w.heap.size + 1 + 1, 2, none⟩ = some (.bool m2) := by first | (simp; done) | (rw [World.cell?_alloc_at _ _ _ _ (by simp)]; rfl) | (rw [World.cell?_alloc_past _ _ _ (by simp <;> omega), World.cell?_alloc_at _ _ _ _ (by simp)]; rfl) | (rw [World.cell?_alloc_past _ _ _ (by simp <;> omega), World.cell?_alloc_past _ _ _ (by simp <;> omega), World.cell?_alloc_at _ _ _ _ (by simp)]; rfl)
  have hb2 := (by repeat (first | exact hbel | refine belAlloc ?_ _ | refine belDrew ?_ | refine belSet ?_ _ _ (by simp)) : Below w.heap.size w (((w.alloc (.cells #[.bool b0, .int .i64 c0, .bool b1, .int .i64 c1, .bool b2, .int .i64 c2] 57)).alloc (.cells #[.bool h0, .bool h1, .bool h2] 58)).alloc (.cells #[.bool m0, .bool m1, .bool m2] 58)))
  replace hw := belStep hw hb2
  clear hb2 hbel
  generalize ((w.alloc (.cells #[.bool b0, .int .i64 c0, .bool b1, .int .i64 c1, .bool b2, .int .i64 c2] 57)).alloc (.cells #[.bool h0, .bool h1, .bool h2] 58)).alloc (.cells #[.bool m0, .bool m1, .bool m2] 58) = W at *
  replace l0 := keep l0
  replace l1 := keep l1
  replace l2 := keep l2
  replace l3 := keep l3
  replace l4 := keep l4
  replace l5 := keep l5
  replace k0 := keep k0
  replace k1 := keep k1
  replace k2 := keep k2
  replace k3 := keep k3
  replace k4 := keep k4
  replace k5 := keep k5
  have hbel : Below W.heap.size W W := Below.refl _ _
  by_cases hp : 1 ≤ n ∧ n ≤ 1000
  · go_wp2_with (first | (go_at_call 24; refine (awake19 _).mono ?_; rintro e w1 ⟨rfl, hb1⟩; replace hbel := belStep hbel hb1; clear hb1) | (go_at_call 27; refine (period_any _ _).mono ?_; rintro e w' ⟨rfl, rfl⟩))
    go_loopw [11] (fun i wr => ∃ (k : Nat) (I : Int), I = k ∧ k ≤ 3 ∧ i = .int .i64 I ∧ Below W.heap.size W wr ∧ (0 < k → rightC b0 c0 n = true) ∧ (1 < k → rightC b1 c1 n = true) ∧ (2 < k → rightC b2 c2 n = true)) (fun i _ => 3 - (intOf i).toNat)
    case atStart => exact ⟨0, 0, rfl, by omega, rfl, hbel, by omega, by omega, by omega⟩
    case round =>
      obtain ⟨k, I, hI, hk, rfl, hbr, g0, g1, g2⟩ := hrel
      clear hbel
      have hbel := hbr
      clear hbr
      have key : k = 0 ∨ k = 1 ∨ k = 2 ∨ k = 3 := by omega
      rcases key with rfl | rfl | rfl | rfl
      · obtain rfl : I = 0 := hI
        cases hr : rightC b0 c0 n
        · go_wp2_with (first | (go_at_call 26; refine (cref_Right _ _ _ _).mono ?_; rintro e w1 ⟨rfl, hb1⟩; replace hbel := belStep hbel hb1; clear hb1))
          go_ret
          exact ⟨rfl, belStep hw hbel⟩
        · clear g0 g1 g2
          go_wp2_with (first | (go_at_call 26; refine (cref_Right _ _ _ _).mono ?_; rintro e w1 ⟨rfl, hb1⟩; replace hbel := belStep hbel hb1; clear hb1))
          go_roundw
          case rel => exact ⟨1, 1, rfl, by omega, rfl, hbel, fun _ => by first | exact hr | trivial, by omega, by omega⟩
          case measure => simp [intOf]
      · obtain rfl : I = 1 := hI
        have g0 := g0 (by omega)
        cases hr : rightC b1 c1 n
        · clear g1 g2
          go_wp2_with (first | (go_at_call 26; refine (cref_Right _ _ _ _).mono ?_; rintro e w1 ⟨rfl, hb1⟩; replace hbel := belStep hbel hb1; clear hb1))
          go_ret
          exact ⟨rfl, belStep hw hbel⟩
        · clear g1 g2
          go_wp2_with (first | (go_at_call 26; refine (cref_Right _ _ _ _).mono ?_; rintro e w1 ⟨rfl, hb1⟩; replace hbel := belStep hbel hb1; clear hb1))
          go_roundw
          case rel => exact ⟨2, 2, rfl, by omega, rfl, hbel, fun _ => by first | exact g0 | trivial, fun _ => by first | exact hr | trivial, by omega⟩
          case measure => simp [intOf]
      · obtain rfl : I = 2 := hI
        have g0 := g0 (by omega)
        have g1 := g1 (by omega)
        cases hr : rightC b2 c2 n
        · clear g2
          go_wp2_with (first | (go_at_call 26; refine (cref_Right _ _ _ _).mono ?_; rintro e w1 ⟨rfl, hb1⟩; replace hbel := belStep hbel hb1; clear hb1))
          go_ret
          exact ⟨rfl, belStep hw hbel⟩
        · clear g2
          go_wp2_with (first | (go_at_call 26; refine (cref_Right _ _ _ _).mono ?_; rintro e w1 ⟨rfl, hb1⟩; replace hbel := belStep hbel hb1; clear hb1))
          go_roundw
          case rel => exact ⟨3, 3, rfl, by omega, rfl, hbel, fun _ => by first | exact g0 | trivial, fun _ => by first | exact g1 | trivial, fun _ => by first | exact hr | trivial⟩
          case measure => simp [intOf]
      · obtain rfl : I = 3 := hI
        obtain ⟨f0, r0⟩ := right_fits _ _ _ hp.2 (g0 (by omega))
        obtain ⟨f1, r1⟩ := right_fits _ _ _ hp.2 (g1 (by omega))
        obtain ⟨f2, r2⟩ := right_fits _ _ _ hp.2 (g2 (by omega))
        clear g0 g1 g2
        obtain ⟨x, hx⟩ : ∃ x : Three, x = ⟨b0, c0, b1, c1, b2, c2, h0, h1, h2, m0, m1, m2, fresh, n⟩ := ⟨_, rfl⟩
        have fx : x.fits := by subst hx; exact ⟨f0.1, f0.2, f1.1, f1.2, f2.1, f2.2⟩
        have fr : x.fitsR := by subst hx; exact ⟨r0, r1, r2⟩
        have ca := fun v => cond_All x v fx
        have cr := fun v => cref_All x v fx fr
        have en : x.next 3 = [.bool (x.s 0), .int .i64 (x.d 0), .bool (x.s 1), .int .i64 (x.d 1), .bool (x.s 2), .int .i64 (x.d 2)] := rfl
        obtain ⟨s0, hs0⟩ : ∃ s, x.s 0 = s := ⟨_, rfl⟩
        obtain ⟨s1, hs1⟩ : ∃ s, x.s 1 = s := ⟨_, rfl⟩
        obtain ⟨s2, hs2⟩ : ∃ s, x.s 2 = s := ⟨_, rfl⟩
        obtain ⟨d0, hd0⟩ : ∃ s, x.d 0 = s := ⟨_, rfl⟩
        obtain ⟨d1, hd1⟩ : ∃ s, x.d 1 = s := ⟨_, rfl⟩
        obtain ⟨d2, hd2⟩ : ∃ s, x.d 2 = s := ⟨_, rfl⟩
        obtain ⟨ev, hev⟩ : ∃ ev, x.evs 3 = ev := ⟨_, rfl⟩
        simp only [en, hs0, hs1, hs2, hd0, hd1, hd2, hev] at ca cr
        subst hx
        have CA := Lib.hid ca
        have CR := Lib.hid cr
        clear ca cr en hs0 hs1 hs2 hd0 hd1 hd2 hev fx fr f0 f1 f2 r0 r1 r2
        go_upto_region 9 with (first | (go_at_call 31; (with_reducible refine (CA.out _).mono ?_); rintro e w1 ⟨⟨ea, ec, rfl, hrow⟩, hb1⟩; have HA := Lib.hid hrow; clear hrow; replace hbel := belStep hbel hb1; clear hb1))
        have HA1 := Lib.hid (HA.out.later ((Below.refl _ _).alloc (Nat.le_refl _) (.cells #[.bool s0, .int .i64 d0, .bool s1, .int .i64 d1, .bool s2, .int .i64 d2] 57)))
        have a0 : (w1.alloc (.cells #[.bool s0, .int .i64 d0, .bool s1, .int .i64 d1, .bool s2, .int .i64 d2] 57)).cell? ⟨w1.heap.size, 0, none⟩ = some (.bool s0) := by first | (simp; done) | (rw [World.cell?_alloc_at _ _ _ _ (by simp)]; rfl) | (rw [World.cell?_alloc_past _ _ _ (by simp <;> omega), World.cell?_alloc_at _ _ _ _ (by simp)]; rfl) | (rw [World.cell?_alloc_past _ _ _ (by simp <;> omega), World.cell?_alloc_past _ _ _ (by simp <;> omega), World.cell?_alloc_at _ _ _ _ (by simp)]; rfl)
        have a1 : (w1.alloc (.cells #[.bool s0, .int .i64 d0, .bool s1, .int .i64 d1, .bool s2, .int .i64 d2] 57)).cell? ⟨w1.heap.size, 1, none⟩ = some (.int .i64 d0) := by first | (simp; done) | (rw [World.cell?_alloc_at _ _ _ _ (by simp)]; rfl) | (rw [World.cell?_alloc_past _ _ _ (by simp <;> omega), World.cell?_alloc_at _ _ _ _ (by simp)]; rfl) | (rw [World.cell?_alloc_past _ _ _ (by simp <;> omega), World.cell?_alloc_past _ _ _ (by simp <;> omega), World.cell?_alloc_at _ _ _ _ (by simp)]; rfl)
        have a2 : (w1.alloc (.cells #[.bool s0, .int .i64 d0, .bool s1, .int .i64 d1, .bool s2, .int .i64 d2] 57)).cell? ⟨w1.heap.size, 2, none⟩ = some (.bool s1) := by first | (simp; done) | (rw [World.cell?_alloc_at _ _ _ _ (by simp)]; rfl) | (rw [World.cell?_alloc_past _ _ _ (by simp <;> omega), World.cell?_alloc_at _ _ _ _ (by simp)]; rfl) | (rw [World.cell?_alloc_past _ _ _ (by simp <;> omega), World.cell?_alloc_past _ _ _ (by simp <;> omega), World.cell?_alloc_at _ _ _ _ (by simp)]; rfl)
        have a3 : (w1.alloc (.cells #[.bool s0, .int .i64 d0, .bool s1, .int .i64 d1, .bool s2, .int .i64 d2] 57)).cell? ⟨w1.heap.size, 3, none⟩ = some (.int .i64 d1) := by first | (simp; done) | (rw [World.cell?_alloc_at _ _ _ _ (by simp)]; rfl) | (rw [World.cell?_alloc_past _ _ _ (by simp <;> omega), World.cell?_alloc_at _ _ _ _ (by simp)]; rfl) | (rw [World.cell?_alloc_past _ _ _ (by simp <;> omega), World.cell?_alloc_past _ _ _ (by simp <;> omega), World.cell?_alloc_at _ _ _ _ (by simp)]; rfl)
        have a4 : (w1.alloc (.cells #[.bool s0, .int .i64 d0, .bool s1, .int .i64 d1, .bool s2, .int .i64 d2] 57)).cell? ⟨w1.heap.size, 4, none⟩ = some (.bool s2) := by first | (simp; done) | (rw [World.cell?_alloc_at _ _ _ _ (by simp)]; rfl) | (rw [World.cell?_alloc_past _ _ _ (by simp <;> omega), World.cell?_alloc_at _ _ _ _ (by simp)]; rfl) | (rw [World.cell?_alloc_past _ _ _ (by simp <;> omega), World.cell?_alloc_past _ _ _ (by simp <;> omega), World.cell?_alloc_at _ _ _ _ (by simp)]; rfl)
        have a5 : (w1.alloc (.cells #[.bool s0, .int .i64 d0, .bool s1, .int .i64 d1, .bool s2, .int .i64 d2] 57)).cell? ⟨w1.heap.size, 5, none⟩ = some (.int .i64 d2) := by first | (simp; done) | (rw [World.cell?_alloc_at _ _ _ _ (by simp)]; rfl) | (rw [World.cell?_alloc_past _ _ _ (by simp <;> omega), World.cell?_alloc_at _ _ _ _ (by simp)]; rfl) | (rw [World.cell?_alloc_past _ _ _ (by simp <;> omega), World.cell?_alloc_past _ _ _ (by simp <;> omega), World.cell?_alloc_at _ _ _ _ (by simp)]; rfl)
        have hb2 := (by repeat (first | exact hbel | refine belAlloc ?_ _ | refine belDrew ?_ | refine belSet ?_ _ _ (by simp)) : Below W.heap.size W (w1.alloc (.cells #[.bool s0, .int .i64 d0, .bool s1, .int .i64 d1, .bool s2, .int .i64 d2] 57)))
        replace l0 := keepOn l0 hb2
        replace l1 := keepOn l1 hb2
        replace l2 := keepOn l2 hb2
        replace l3 := keepOn l3 hb2
        replace l4 := keepOn l4 hb2
        replace l5 := keepOn l5 hb2
        replace k0 := keepOn k0 hb2
        replace k1 := keepOn k1 hb2
        replace k2 := keepOn k2 hb2
        replace k3 := keepOn k3 hb2
        replace k4 := keepOn k4 hb2
        replace k5 := keepOn k5 hb2
        replace hw := belStep hw hb2
        clear hb2 hbel
        generalize w1.alloc (.cells #[.bool s0, .int .i64 d0, .bool s1, .int .i64 d1, .bool s2, .int .i64 d2] 57) = W2 at *
        replace a0 := keep a0
        replace a1 := keep a1
        replace a2 := keep a2
        replace a3 := keep a3
        replace a4 := keep a4
        replace a5 := keep a5
        generalize w1.heap.size = n1 at *
        have hbel : Below W2.heap.size W2 W2 := Below.refl _ _
        clear HA w1
        go_upto_region 10 with (first | (go_at_call 32; (with_reducible refine (CR.out _).mono ?_); rintro e w1 ⟨⟨fa, fc, rfl, hrow⟩, hb1⟩; have HB := Lib.hid hrow; clear hrow; replace hbel := belStep hbel hb1; clear hb1))
        have HA2 := Lib.hid (HA1.out.later (belAlloc hbel (.cells #[.bool s0, .int .i64 d0, .bool s1, .int .i64 d1, .bool s2, .int .i64 d2] 57)))
        have HB1 := Lib.hid (HB.out.later ((Below.refl _ _).alloc (Nat.le_refl _) (.cells #[.bool s0, .int .i64 d0, .bool s1, .int .i64 d1, .bool s2, .int .i64 d2] 57)))
        have b0' : (w1.alloc (.cells #[.bool s0, .int .i64 d0, .bool s1, .int .i64 d1, .bool s2, .int .i64 d2] 57)).cell? ⟨w1.heap.size, 0, none⟩ = some (.bool s0) := by first | (simp; done) | (rw [World.cell?_alloc_at _ _ _ _ (by simp)]; rfl) | (rw [World.cell?_alloc_past _ _ _ (by simp <;> omega), World.cell?_alloc_at _ _ _ _ (by simp)]; rfl) | (rw [World.cell?_alloc_past _ _ _ (by simp <;> omega), World.cell?_alloc_past _ _ _ (by simp <;> omega), World.cell?_alloc_at _ _ _ _ (by simp)]; rfl)
        have b1' : (w1.alloc (.cells #[.bool s0, .int .i64 d0, .bool s1, .int .i64 d1, .bool s2, .int .i64 d2] 57)).cell? ⟨w1.heap.size, 1, none⟩ = some (.int .i64 d0) := by first | (simp; done) | (rw [World.cell?_alloc_at _ _ _ _ (by simp)]; rfl) | (rw [World.cell?_alloc_past _ _ _ (by simp <;> omega), World.cell?_alloc_at _ _ _ _ (by simp)]; rfl) | (rw [World.cell?_alloc_past _ _ _ (by simp <;> omega), World.cell?_alloc_past _ _ _ (by simp <;> omega), World.cell?_alloc_at _ _ _ _ (by simp)]; rfl)
        have b2' : (w1.alloc (.cells #[.bool s0, .int .i64 d0, .bool s1, .int .i64 d1, .bool s2, .int .i64 d2] 57)).cell? ⟨w1.heap.size, 2, none⟩ = some (.bool s1) := by first | (simp; done) | (rw [World.cell?_alloc_at _ _ _ _ (by simp)]; rfl) | (rw [World.cell?_alloc_past _ _ _ (by simp <;> omega), World.cell?_alloc_at _ _ _ _ (by simp)]; rfl) | (rw [World.cell?_alloc_past _ _ _ (by simp <;> omega), World.cell?_alloc_past _ _ _ (by simp <;> omega), World.cell?_alloc_at _ _ _ _ (by simp)]; rfl)
        have b3' : (w1.alloc (.cells #[.bool s0, .int .i64 d0, .bool s1, .int .i64 d1, .bool s2, .int .i64 d2] 57)).cell? ⟨w1.heap.size, 3, none⟩ = some (.int .i64 d1) := by first | (simp; done) | (rw [World.cell?_alloc_at _ _ _ _ (by simp)]; rfl) | (rw [World.cell?_alloc_past _ _ _ (by simp <;> omega), World.cell?_alloc_at _ _ _ _ (by simp)]; rfl) | (rw [World.cell?_alloc_past _ _ _ (by simp <;> omega), World.cell?_alloc_past _ _ _ (by simp <;> omega), World.cell?_alloc_at _ _ _ _ (by simp)]; rfl)
        have b4' : (w1.alloc (.cells #[.bool s0, .int .i64 d0, .bool s1, .int .i64 d1, .bool s2, .int .i64 d2] 57)).cell? ⟨w1.heap.size, 4, none⟩ = some (.bool s2) := by first | (simp; done) | (rw [World.cell?_alloc_at _ _ _ _ (by simp)]; rfl) | (rw [World.cell?_alloc_past _ _ _ (by simp <;> omega), World.cell?_alloc_at _ _ _ _ (by simp)]; rfl) | (rw [World.cell?_alloc_past _ _ _ (by simp <;> omega), World.cell?_alloc_past _ _ _ (by simp <;> omega), World.cell?_alloc_at _ _ _ _ (by simp)]; rfl)
        have b5' : (w1.alloc (.cells #[.bool s0, .int .i64 d0, .bool s1, .int .i64 d1, .bool s2, .int .i64 d2] 57)).cell? ⟨w1.heap.size, 5, none⟩ = some (.int .i64 d2) := by first | (simp; done) | (rw [World.cell?_alloc_at _ _ _ _ (by simp)]; rfl) | (rw [World.cell?_alloc_past _ _ _ (by simp <;> omega), World.cell?_alloc_at _ _ _ _ (by simp)]; rfl) | (rw [World.cell?_alloc_past _ _ _ (by simp <;> omega), World.cell?_alloc_past _ _ _ (by simp <;> omega), World.cell?_alloc_at _ _ _ _ (by simp)]; rfl)
        have hb2 := (by repeat (first | exact hbel | refine belAlloc ?_ _ | refine belDrew ?_ | refine belSet ?_ _ _ (by simp)) : Below W2.heap.size W2 (w1.alloc (.cells #[.bool s0, .int .i64 d0, .bool s1, .int .i64 d1, .bool s2, .int .i64 d2] 57)))
        replace a0 := keepOn a0 hb2
        replace a1 := keepOn a1 hb2
        replace a2 := keepOn a2 hb2
        replace a3 := keepOn a3 hb2
        replace a4 := keepOn a4 hb2
        replace a5 := keepOn a5 hb2
        replace hw := belStep hw hb2
        clear hb2 hbel
        generalize w1.alloc (.cells #[.bool s0, .int .i64 d0, .bool s1, .int .i64 d1, .bool s2, .int .i64 d2] 57) = W3 at *
        replace b0' := keep b0'
        replace b1' := keep b1'
        replace b2' := keep b2'
        replace b3' := keep b3'
        replace b4' := keep b4'
        replace b5' := keep b5'
        generalize w1.heap.size = n2 at *
        have hbel : Below W3.heap.size W3 W3 := Below.refl _ _
        clear HA1 HB w1 l0 l1 l2 l3 l4 l5 k0 k1 k2 k3 k4 k5
        have eqs := eq_conds_same s0 d0 s1 d1 s2 d2
        go_wp2_with (first | (go_at_call 33; (with_reducible refine (sameEvents _ _ _ _ ev _ HA2.out HB1.out).mono ?_); rintro e w1 ⟨rfl, hb1⟩; replace hbel := belStep hbel hb1; clear hb1))
        go_ret
        exact ⟨rfl, belStep hw hbel⟩
  · go_wp2_with (first | (go_at_call 24; refine (awake19 _).mono ?_; rintro e w1 ⟨rfl, hb1⟩; replace hbel := belStep hbel hb1; clear hb1) | (go_at_call 27; refine (period_any _ _).mono ?_; rintro e w' ⟨rfl, rfl⟩))
    go_ret
    exact ⟨rfl, belStep hw hbel⟩

set_option maxRecDepth 100000 in
theorem lifted (os : Os) (started : os.Started) (H : Type) (enc : TypeId × Value → H) :
    ReturnsInHanded {} Try.checked os 14 .any (Rows.condAllSpec.pre6 enc Try.prog Try.f14 Rows.condAllRow.domain false) (Rows.condAllSpec.post enc Try.prog Try.f14 false true false false) := by
  refine returnsInHanded_of_change (C := Try.checked) own started (by kernel_rfl) Try.func14
    (ChangeSpec.witness6 (enc := enc) (C := Try.checked) false ⟨#[], #[.agg #[.bool false, .int .i64 0, .bool false, .int .i64 0, .bool false, .int .i64 0], .agg #[.bool false, .bool false, .bool false], .agg #[.bool false, .bool false, .bool false], .bool false, .int .i64 0], []⟩ 8 (by kernel_rfl) (by kernel_rfl) (by kernel_rfl) (by kernel_rfl)) ?_
  intro W base args ds gs before hval0 hW hcnd _
  have hval : ∀ (j : Nat) t v, Try.f14.params[j]? = some t → args[j]? = some v → Value.okWide Try.prog W .any base t v := hval0
  have hW' := hW
  obtain ⟨p, q, hA0, hV, rfl, hfz, hnd⟩ := hW
  have hA : DataW.TrodAll enc Try.prog W 0 (fun _ => true) true Try.f14.params.toList args.toList ds p := hA0
  rw [Try.params14] at hA hval
  obtain ⟨v0, vs0, d0, ds0, p0, q0, hargs, rfl, rfl, h0, r0⟩ := trodAll_cons hA
  obtain ⟨v1, vs1, d1, ds1, p1, q1, rfl, rfl, rfl, h1, r1⟩ := trodAll_cons r0
  obtain ⟨v2, vs2, d2, ds2, p2, q2, rfl, rfl, rfl, h2, r2⟩ := trodAll_cons r1
  obtain ⟨v3, vs3, d3, ds3, p3, q3, rfl, rfl, rfl, h3, r3⟩ := trodAll_cons r2
  obtain ⟨v4, vs4, d4, ds4, p4, q4, rfl, rfl, rfl, h4, r4⟩ := trodAll_cons r3
  obtain ⟨rfl, rfl, rfl⟩ := trodAll_nil r4
  obtain rfl : args = #[v0, v1, v2, v3, v4] := by cases args; simp_all
  obtain ⟨rfl, rfl⟩ := trodVars_none hV
  have k0 := h0
  have lt0 : ∀ x ∈ p0, x.block < W.heap.size := by obtain ⟨m, hm⟩ := k0; exact DataW.trod_lt m _ _ _ hm
  have o0 : Value.okWide Try.prog W .any base 57 v0 := hval 0 57 v0 rfl rfl
  obtain ⟨b0, c0, bb0, cc0, bbb0, ccc0, rfl, f0, g0, h0⟩ := open_conds o0 h0
  have k1 := h1
  have lt1 : ∀ x ∈ p1, x.block < W.heap.size := by obtain ⟨m, hm⟩ := k1; exact DataW.trod_lt m _ _ _ hm
  have o1 : Value.okWide Try.prog W .any base 58 v1 := hval 1 58 v1 rfl rfl
  obtain ⟨x1, xx1, xxx1, rfl⟩ := open_bools o1 h1
  have k2 := h2
  have lt2 : ∀ x ∈ p2, x.block < W.heap.size := by obtain ⟨m, hm⟩ := k2; exact DataW.trod_lt m _ _ _ hm
  have o2 : Value.okWide Try.prog W .any base 58 v2 := hval 2 58 v2 rfl rfl
  obtain ⟨y2, yy2, yyy2, rfl⟩ := open_bools o2 h2
  have k3 := h3
  have lt3 : ∀ x ∈ p3, x.block < W.heap.size := by obtain ⟨m, hm⟩ := k3; exact DataW.trod_lt m _ _ _ hm
  have o3 : Value.okWide Try.prog W .any base 4 v3 := hval 3 4 v3 rfl rfl
  obtain ⟨a3, rfl, rfl, rfl⟩ := open_bool Try.underlying4 o3 h3
  have k4 := h4
  have lt4 : ∀ x ∈ p4, x.block < W.heap.size := by obtain ⟨m, hm⟩ := k4; exact DataW.trod_lt m _ _ _ hm
  have o4 : Value.okWide Try.prog W .any base 3 v4 := hval 4 3 v4 rfl rfl
  obtain ⟨a4, rfl, rfl, rfl, w4⟩ := open_int Try.underlying3 o4 h4
  clear hA0 hval0
  refine (walk b0 c0 bb0 cc0 bbb0 ccc0 x1 xx1 xxx1 y2 yy2 yyy2 a3 a4 W f0 g0 h0   (inI_of_wf w4)).mono fun e W' ⟨he, bel⟩ => ?_
  subst he
  exact ⟨_, rfl, _, _, _, [], _, [], hW', trodAll_mk1 (shut_bool Try.underlying4 _), (trodAll_cons_mk (Below.trod laidOut (by kernel_rfl) (of_decide_eq_true (by kernel_rfl)) k0 bel lt0) (trodAll_cons_mk (Below.trod laidOut (by kernel_rfl) (of_decide_eq_true (by kernel_rfl)) k1 bel lt1) (trodAll_cons_mk (Below.trod laidOut (by kernel_rfl) (of_decide_eq_true (by kernel_rfl)) k2 bel lt2) (trodAll_cons_mk (Below.trod laidOut (by kernel_rfl) (of_decide_eq_true (by kernel_rfl)) k3 bel lt3) (trodAll_cons_mk (Below.trod laidOut (by kernel_rfl) (of_decide_eq_true (by kernel_rfl)) k4 bel lt4) trodAll_mk0))))), rfl, bel.frame _, fun h => by cases h⟩

theorem over : Rows.condAllRow.holds Try.pinned (OpenSpec.ofChange Rows.condAllSpec) :=
  OpenClaim.holds_of_wide 14 Try.f14 rfl rfl rfl rfl rfl rfl rfl ⟨rfl, rfl, rfl, rfl, rfl⟩ rfl rfl rfl rfl rfl (by kernel_rfl) Try.func14 (by kernel_rfl)
    (of_decide_eq_true (by kernel_rfl)) (by unfold Func.isWrapper; first | (rw [if_pos (by decide +kernel)]; kernel_rfl) | (rw [if_neg (by decide +kernel)]; exact ⟨rfl, rfl⟩))
    (fun os started H enc _ => lifted os started H enc)

/-- The statement. -/
theorem proved : Rows.CondAllSaid := over
#print axioms proved

end Go.Proofs.Ythhpkmpaldcloaa.condAll
