/- BoxTries holds for every number of retries and of fails. No conditions. -/
import Derived.Test.YthhpkmpaldcloaaAwake14
namespace Go.Proofs.Ythhpkmpaldcloaa.boxTries
open Go.ChangeShapes Go.WideShapes Go.ChangeAt Go.RowKit
open Go.ChangeMaps (open_string shut_string)
set_option linter.unusedVariables false

set_option maxRecDepth 100000 in
set_option maxHeartbeats 4000000 in
theorem walk (a b : Int) (w : World) (ha : 0 ≤ a ∧ a ≤ 255) (hb : 0 ≤ b ∧ b ≤ 255) :
    Calls Try.prog 5 #[.int .u8 a, .int .u8 b] w fun e w' => e = .returned (.bool true) ∧ Below w.heap.size w w' := by
  have hw : Below w.heap.size w w := Below.refl _ _
  have hbel := hw
  obtain ⟨R, eR⟩ : ∃ R : Nat, a % 50 = (R : Int) := ⟨(a % 50).toNat, by omega⟩
  obtain ⟨F, eF⟩ : ∃ F : Nat, b % 60 = (F : Int) := ⟨(b % 60).toNat, by omega⟩
  have hR : R < 50 := by omega
  have hF : F < 60 := by omega
  have iR : InI R := by unfold InI; omega
  go_enter Try.func5, Try.ntmps5
  go_upto_region 5 with (first | (go_at_call 16; (with_reducible refine (awake14 _).mono ?_); rintro e w1 ⟨rfl, hb1⟩; replace hbel := belStep hbel hb1; clear hb1))
  replace hw := belStep hw hbel
  clear hbel
  generalize w1 = W1 at *
  have hbel : Below W1.heap.size W1 W1 := Below.refl _ _
  simp only [eR, eF]
  go_upto_region 6 with (first | (go_at_call 23; (with_reducible refine (box_New _).mono ?_); rintro e w1 ⟨rfl, hb1⟩; replace hbel := belStep hbel hb1; clear hb1))
  replace hw := belStep hw hbel
  clear hbel
  generalize w1 = W2 at *
  have hbel : Below W2.heap.size W2 W2 := Below.refl _ _
  go_wp2
  go_loopw [8] (fun i wr => ∃ (k : Nat) (s t : Int), k ≤ F ∧ i = .int .i64 k ∧ ((k ≤ R ∧ s = 1 ∧ t = k) ∨ (R < k ∧ s = 6 ∧ t = R + 1)) ∧ Below W2.heap.size W2 wr ∧ Blk wr W2.heap.size [.int .i64 s, .int .i64 t] 23) (fun i _ => F - (intOf i).toNat)
  case atStart => exact ⟨0, 1, 0, Nat.zero_le _, rfl, .inl ⟨Nat.zero_le _, rfl, rfl⟩, belAlloc (Below.refl _ _) _, Blk.new W2 [.int .i64 1, .int .i64 0] _⟩
  case round =>
    obtain ⟨k, s, t, hk, rfl, hst, hbr, hblk⟩ := hrel
    have c0 : ∀ v, Below wr.heap.size wr v → v.cell? ⟨W2.heap.size, 0, none⟩ = some (.int .i64 s) := keep (hblk.cell rfl)
    have c1 : ∀ v, Below wr.heap.size wr v → v.cell? ⟨W2.heap.size, 1, none⟩ = some (.int .i64 t) := keep (hblk.cell rfl)
    have hF := hblk.keepF
    have hM : W2.heap.size < wr.heap.size := hblk.lt
    have hbel : Below wr.heap.size wr wr := Below.refl _ _
    replace hw := belStep hw hbr
    by_cases hlt : k < F
    · have hB := hblk.keepB
      have HBR := Lib.hid hbr
      clear hblk hbr
      have key : ∃ s' t' E : Int, doS s t 1 false R = s' ∧ doN s t 1 false R = t' ∧ doE s 1 = E ∧ ((k + 1 ≤ R ∧ s' = 1 ∧ t' = k + 1 ∧ E = 0) ∨ (k = R ∧ s' = 6 ∧ t' = R + 1 ∧ E = 0) ∨ (R < k ∧ s' = 6 ∧ t' = R + 1 ∧ E = 7)) := by
        refine ⟨_, _, _, rfl, rfl, rfl, ?_⟩
        rcases hst with ⟨h1, rfl, rfl⟩ | ⟨h1, rfl, rfl⟩
        · have e1 : satAdd (k : Int) 1 = k + 1 := by rw [satAdd_1]; omega
          simp only [doS, doN, doE, failS, toS, e1]
          rcases Nat.lt_or_ge k R with q | q
          · simp; omega
          · simp; omega
        · simp only [doS, doN, doE, failS, toS]
          simp; omega
      obtain ⟨s', t', E, q1, q2, q3, key⟩ := key
      have is : InI s := by unfold InI; omega
      have it : InI t := by unfold InI; omega
      have CS := Lib.hid (do_at s t 1 false R s' t' E q1 q2 q3 is it (by unfold InI; omega))
      clear q1 q2 q3 hst
      rcases key with ⟨k1, rfl, rfl, rfl⟩ | ⟨rfl, rfl, rfl, rfl⟩ | ⟨k1, rfl, rfl, rfl⟩
      · have m1 : k ≤ R := by omega
        have m2 : ¬ R ≤ k := by omega
        go_upto_region 10 with (first | (go_at_call 17; (with_reducible refine (CS.out _).mono ?_); rintro e w1 ⟨rfl, hb1⟩; replace hbel := belStep hbel hb1; clear hb1))
        have hb9 := belStep HBR.out (belAlloc hbel (.cells #[.int .i64 1, .int .i64 (k + 1)] 23))
        have d0 : (w1.alloc (.cells #[.int .i64 1, .int .i64 (k + 1)] 23)).cell? ⟨w1.heap.size, 0, none⟩ = some (.int .i64 1) := by first | (simp; done) | (rw [World.cell?_alloc_at _ _ _ _ (by simp)]; rfl) | (rw [World.cell?_alloc_past _ _ _ (by simp <;> omega), World.cell?_alloc_at _ _ _ _ (by simp)]; rfl) | (rw [World.cell?_alloc_past _ _ _ (by simp <;> omega), World.cell?_alloc_past _ _ _ (by simp <;> omega), World.cell?_alloc_at _ _ _ _ (by simp)]; rfl)
        have d1 : (w1.alloc (.cells #[.int .i64 1, .int .i64 (k + 1)] 23)).cell? ⟨w1.heap.size, 1, none⟩ = some (.int .i64 (k + 1)) := by first | (simp; done) | (rw [World.cell?_alloc_at _ _ _ _ (by simp)]; rfl) | (rw [World.cell?_alloc_past _ _ _ (by simp <;> omega), World.cell?_alloc_at _ _ _ _ (by simp)]; rfl) | (rw [World.cell?_alloc_past _ _ _ (by simp <;> omega), World.cell?_alloc_past _ _ _ (by simp <;> omega), World.cell?_alloc_at _ _ _ _ (by simp)]; rfl)
        have hb2 := (by repeat (first | exact hbel | refine belAlloc ?_ _ | refine belDrew ?_ | refine belSet ?_ _ _ (by simp)) : Below wr.heap.size wr (w1.alloc (.cells #[.int .i64 1, .int .i64 (k + 1)] 23)))
        replace c0 := keepOnP c0 hb2
        replace c1 := keepOnP c1 hb2
        replace hF := keepOnP hF hb2
        replace hB := keepOnP hB hb2
        replace hw := belStep hw hb2
        clear hb2 hbel
        generalize w1.alloc (.cells #[.int .i64 1, .int .i64 (k + 1)] 23) = W3 at *
        replace d0 := keep d0
        replace d1 := keep d1
        generalize w1.heap.size = n3 at *
        have hbel : Below W3.heap.size W3 W3 := Below.refl _ _
        clear w1
        have hM3 : W2.heap.size < W3.heap.size := (hB _ hbel).lt
        go_wp2
        go_roundw
        case rel => exact ⟨k + 1, _, _, by omega, by push_cast; rfl, .inl ⟨by omega, rfl, by push_cast; rfl⟩, belSet (belSet hb9 _ _ (Nat.le_refl _)) _ _ (Nat.le_refl _), ((hB _ hbel).set 0 _).set 1 _⟩
        case measure => simp [intOf] <;> omega
      · skip
        go_upto_region 10 with (first | (go_at_call 17; (with_reducible refine (CS.out _).mono ?_); rintro e w1 ⟨rfl, hb1⟩; replace hbel := belStep hbel hb1; clear hb1))
        have hb9 := belStep HBR.out (belAlloc hbel (.cells #[.int .i64 6, .int .i64 (k + 1)] 23))
        have d0 : (w1.alloc (.cells #[.int .i64 6, .int .i64 (k + 1)] 23)).cell? ⟨w1.heap.size, 0, none⟩ = some (.int .i64 6) := by first | (simp; done) | (rw [World.cell?_alloc_at _ _ _ _ (by simp)]; rfl) | (rw [World.cell?_alloc_past _ _ _ (by simp <;> omega), World.cell?_alloc_at _ _ _ _ (by simp)]; rfl) | (rw [World.cell?_alloc_past _ _ _ (by simp <;> omega), World.cell?_alloc_past _ _ _ (by simp <;> omega), World.cell?_alloc_at _ _ _ _ (by simp)]; rfl)
        have d1 : (w1.alloc (.cells #[.int .i64 6, .int .i64 (k + 1)] 23)).cell? ⟨w1.heap.size, 1, none⟩ = some (.int .i64 (k + 1)) := by first | (simp; done) | (rw [World.cell?_alloc_at _ _ _ _ (by simp)]; rfl) | (rw [World.cell?_alloc_past _ _ _ (by simp <;> omega), World.cell?_alloc_at _ _ _ _ (by simp)]; rfl) | (rw [World.cell?_alloc_past _ _ _ (by simp <;> omega), World.cell?_alloc_past _ _ _ (by simp <;> omega), World.cell?_alloc_at _ _ _ _ (by simp)]; rfl)
        have hb2 := (by repeat (first | exact hbel | refine belAlloc ?_ _ | refine belDrew ?_ | refine belSet ?_ _ _ (by simp)) : Below wr.heap.size wr (w1.alloc (.cells #[.int .i64 6, .int .i64 (k + 1)] 23)))
        replace c0 := keepOnP c0 hb2
        replace c1 := keepOnP c1 hb2
        replace hF := keepOnP hF hb2
        replace hB := keepOnP hB hb2
        replace hw := belStep hw hb2
        clear hb2 hbel
        generalize w1.alloc (.cells #[.int .i64 6, .int .i64 (k + 1)] 23) = W3 at *
        replace d0 := keep d0
        replace d1 := keep d1
        generalize w1.heap.size = n3 at *
        have hbel : Below W3.heap.size W3 W3 := Below.refl _ _
        clear w1
        have hM3 : W2.heap.size < W3.heap.size := (hB _ hbel).lt
        go_wp2
        go_roundw
        case rel => exact ⟨k + 1, _, _, by omega, by push_cast; rfl, .inr ⟨by omega, rfl, rfl⟩, belSet (belSet hb9 _ _ (Nat.le_refl _)) _ _ (Nat.le_refl _), ((hB _ hbel).set 0 _).set 1 _⟩
        case measure => simp [intOf] <;> omega
      · have m1 : ¬ k ≤ R := by omega
        have m2 : R ≤ k := by omega
        go_upto_region 10 with (first | (go_at_call 17; (with_reducible refine (CS.out _).mono ?_); rintro e w1 ⟨rfl, hb1⟩; replace hbel := belStep hbel hb1; clear hb1))
        have hb9 := belStep HBR.out (belAlloc hbel (.cells #[.int .i64 6, .int .i64 (R + 1)] 23))
        have d0 : (w1.alloc (.cells #[.int .i64 6, .int .i64 (R + 1)] 23)).cell? ⟨w1.heap.size, 0, none⟩ = some (.int .i64 6) := by first | (simp; done) | (rw [World.cell?_alloc_at _ _ _ _ (by simp)]; rfl) | (rw [World.cell?_alloc_past _ _ _ (by simp <;> omega), World.cell?_alloc_at _ _ _ _ (by simp)]; rfl) | (rw [World.cell?_alloc_past _ _ _ (by simp <;> omega), World.cell?_alloc_past _ _ _ (by simp <;> omega), World.cell?_alloc_at _ _ _ _ (by simp)]; rfl)
        have d1 : (w1.alloc (.cells #[.int .i64 6, .int .i64 (R + 1)] 23)).cell? ⟨w1.heap.size, 1, none⟩ = some (.int .i64 (R + 1)) := by first | (simp; done) | (rw [World.cell?_alloc_at _ _ _ _ (by simp)]; rfl) | (rw [World.cell?_alloc_past _ _ _ (by simp <;> omega), World.cell?_alloc_at _ _ _ _ (by simp)]; rfl) | (rw [World.cell?_alloc_past _ _ _ (by simp <;> omega), World.cell?_alloc_past _ _ _ (by simp <;> omega), World.cell?_alloc_at _ _ _ _ (by simp)]; rfl)
        have hb2 := (by repeat (first | exact hbel | refine belAlloc ?_ _ | refine belDrew ?_ | refine belSet ?_ _ _ (by simp)) : Below wr.heap.size wr (w1.alloc (.cells #[.int .i64 6, .int .i64 (R + 1)] 23)))
        replace c0 := keepOnP c0 hb2
        replace c1 := keepOnP c1 hb2
        replace hF := keepOnP hF hb2
        replace hB := keepOnP hB hb2
        replace hw := belStep hw hb2
        clear hb2 hbel
        generalize w1.alloc (.cells #[.int .i64 6, .int .i64 (R + 1)] 23) = W3 at *
        replace d0 := keep d0
        replace d1 := keep d1
        generalize w1.heap.size = n3 at *
        have hbel : Below W3.heap.size W3 W3 := Below.refl _ _
        clear w1
        have hM3 : W2.heap.size < W3.heap.size := (hB _ hbel).lt
        go_wp2
        go_roundw
        case rel => exact ⟨k + 1, _, _, by omega, by push_cast; rfl, .inr ⟨by omega, rfl, rfl⟩, belSet (belSet hb9 _ _ (Nat.le_refl _)) _ _ (Nat.le_refl _), ((hB _ hbel).set 0 _).set 1 _⟩
        case measure => simp [intOf] <;> omega
    · obtain rfl : k = F := by omega
      clear hbr hblk
      rcases hst with ⟨h1, rfl, rfl⟩ | ⟨h1, rfl, rfl⟩
      · have CS := Lib.hid (do_at 1 k 1 true R 2 0 0 rfl rfl rfl (by unfold InI; omega) (by unfold InI; omega) (by unfold InI; omega))
        have m1 : ¬ R < k := by omega
        go_upto_region 14 with (first | (go_at_call 17; (with_reducible refine (CS.out _).mono ?_); rintro e w1 ⟨rfl, hb1⟩; replace hbel := belStep hbel hb1; clear hb1))
        have d0 : (w1.alloc (.cells #[.int .i64 2, .int .i64 0] 23)).cell? ⟨w1.heap.size, 0, none⟩ = some (.int .i64 2) := by first | (simp; done) | (rw [World.cell?_alloc_at _ _ _ _ (by simp)]; rfl) | (rw [World.cell?_alloc_past _ _ _ (by simp <;> omega), World.cell?_alloc_at _ _ _ _ (by simp)]; rfl) | (rw [World.cell?_alloc_past _ _ _ (by simp <;> omega), World.cell?_alloc_past _ _ _ (by simp <;> omega), World.cell?_alloc_at _ _ _ _ (by simp)]; rfl)
        have d1 : (w1.alloc (.cells #[.int .i64 2, .int .i64 0] 23)).cell? ⟨w1.heap.size, 1, none⟩ = some (.int .i64 0) := by first | (simp; done) | (rw [World.cell?_alloc_at _ _ _ _ (by simp)]; rfl) | (rw [World.cell?_alloc_past _ _ _ (by simp <;> omega), World.cell?_alloc_at _ _ _ _ (by simp)]; rfl) | (rw [World.cell?_alloc_past _ _ _ (by simp <;> omega), World.cell?_alloc_past _ _ _ (by simp <;> omega), World.cell?_alloc_at _ _ _ _ (by simp)]; rfl)
        have hb2 := (by repeat (first | exact hbel | refine belAlloc ?_ _ | refine belDrew ?_ | refine belSet ?_ _ _ (by simp)) : Below wr.heap.size wr (w1.alloc (.cells #[.int .i64 2, .int .i64 0] 23)))
        replace c0 := keepOnP c0 hb2
        replace c1 := keepOnP c1 hb2
        replace hw := belStep hw hb2
        clear hb2 hbel
        generalize w1.alloc (.cells #[.int .i64 2, .int .i64 0] 23) = W3 at *
        replace d0 := keep d0
        replace d1 := keep d1
        generalize w1.heap.size = n3 at *
        have hbel : Below W3.heap.size W3 W3 := Below.refl _ _
        clear w1
        go_wp2
        go_ret
        exact ⟨rfl, belStep hw hbel⟩
      · have CS := Lib.hid (do_at 6 (R + 1) 1 true R 6 (R + 1) 7 rfl rfl rfl (by unfold InI; omega) (by unfold InI; omega) (by unfold InI; omega))
        have CO := Lib.hid (over_at 6 (R + 1) true rfl)
        go_upto_region 14 with (first | (go_at_call 17; (with_reducible refine (CS.out _).mono ?_); rintro e w1 ⟨rfl, hb1⟩; replace hbel := belStep hbel hb1; clear hb1))
        have d0 : (w1.alloc (.cells #[.int .i64 6, .int .i64 (R + 1)] 23)).cell? ⟨w1.heap.size, 0, none⟩ = some (.int .i64 6) := by first | (simp; done) | (rw [World.cell?_alloc_at _ _ _ _ (by simp)]; rfl) | (rw [World.cell?_alloc_past _ _ _ (by simp <;> omega), World.cell?_alloc_at _ _ _ _ (by simp)]; rfl) | (rw [World.cell?_alloc_past _ _ _ (by simp <;> omega), World.cell?_alloc_past _ _ _ (by simp <;> omega), World.cell?_alloc_at _ _ _ _ (by simp)]; rfl)
        have d1 : (w1.alloc (.cells #[.int .i64 6, .int .i64 (R + 1)] 23)).cell? ⟨w1.heap.size, 1, none⟩ = some (.int .i64 (R + 1)) := by first | (simp; done) | (rw [World.cell?_alloc_at _ _ _ _ (by simp)]; rfl) | (rw [World.cell?_alloc_past _ _ _ (by simp <;> omega), World.cell?_alloc_at _ _ _ _ (by simp)]; rfl) | (rw [World.cell?_alloc_past _ _ _ (by simp <;> omega), World.cell?_alloc_past _ _ _ (by simp <;> omega), World.cell?_alloc_at _ _ _ _ (by simp)]; rfl)
        have hb2 := (by repeat (first | exact hbel | refine belAlloc ?_ _ | refine belDrew ?_ | refine belSet ?_ _ _ (by simp)) : Below wr.heap.size wr (w1.alloc (.cells #[.int .i64 6, .int .i64 (R + 1)] 23)))
        replace c0 := keepOnP c0 hb2
        replace c1 := keepOnP c1 hb2
        replace hw := belStep hw hb2
        clear hb2 hbel
        generalize w1.alloc (.cells #[.int .i64 6, .int .i64 (R + 1)] 23) = W3 at *
        replace d0 := keep d0
        replace d1 := keep d1
        generalize w1.heap.size = n3 at *
        have hbel : Below W3.heap.size W3 W3 := Below.refl _ _
        clear w1
        go_wp2_with (first | (go_at_call 21; (with_reducible refine (CO.out _).mono ?_); rintro e w1 ⟨rfl, hb1⟩; replace hbel := belStep hbel hb1; clear hb1))
        go_ret
        exact ⟨rfl, belStep hw hbel⟩

set_option maxRecDepth 100000 in
theorem lifted (os : Os) (started : os.Started) (H : Type) (enc : TypeId × Value → H) :
    ReturnsInHanded {} Try.checked os 5 .any (Rows.boxTriesSpec.pre6 enc Try.prog Try.f5 Rows.boxTriesRow.domain false) (Rows.boxTriesSpec.post enc Try.prog Try.f5 false true false false) := by
  refine returnsInHanded_of_change (C := Try.checked) own started (by kernel_rfl) Try.func5
    (ChangeSpec.witness6 (enc := enc) (C := Try.checked) false ⟨#[], #[.int .u8 0, .int .u8 0], []⟩ 8 (by kernel_rfl) (by kernel_rfl) (by kernel_rfl) (by kernel_rfl)) ?_
  intro W base args ds gs before hval0 hW hcnd _
  have hval : ∀ (j : Nat) t v, Try.f5.params[j]? = some t → args[j]? = some v → Value.okWide Try.prog W .any base t v := hval0
  have hW' := hW
  obtain ⟨p, q, hA0, hV, rfl, hfz, hnd⟩ := hW
  have hA : DataW.TrodAll enc Try.prog W 0 (fun _ => true) true Try.f5.params.toList args.toList ds p := hA0
  rw [Try.params5] at hA hval
  obtain ⟨v0, vs0, d0, ds0, p0, q0, hargs, rfl, rfl, h0, r0⟩ := trodAll_cons hA
  obtain ⟨v1, vs1, d1, ds1, p1, q1, rfl, rfl, rfl, h1, r1⟩ := trodAll_cons r0
  obtain ⟨rfl, rfl, rfl⟩ := trodAll_nil r1
  obtain rfl : args = #[v0, v1] := by cases args; simp_all
  obtain ⟨rfl, rfl⟩ := trodVars_none hV
  have k0 := h0
  have lt0 : ∀ x ∈ p0, x.block < W.heap.size := by obtain ⟨m, hm⟩ := k0; exact DataW.trod_lt m _ _ _ hm
  have o0 : Value.okWide Try.prog W .any base 5 v0 := hval 0 5 v0 rfl rfl
  obtain ⟨a0, rfl, rfl, rfl, w0⟩ := open_int Try.underlying5 o0 h0
  have k1 := h1
  have lt1 : ∀ x ∈ p1, x.block < W.heap.size := by obtain ⟨m, hm⟩ := k1; exact DataW.trod_lt m _ _ _ hm
  have o1 : Value.okWide Try.prog W .any base 5 v1 := hval 1 5 v1 rfl rfl
  obtain ⟨a1, rfl, rfl, rfl, w1⟩ := open_int Try.underlying5 o1 h1
  clear hA0 hval0
  refine (walk a0 a1 W (in8_of_wf w0) (in8_of_wf w1)).mono fun e W' ⟨he, bel⟩ => ?_
  subst he
  exact ⟨_, rfl, _, _, _, [], _, [], hW', trodAll_mk1 (shut_bool Try.underlying4 _), (trodAll_cons_mk (Below.trod laidOut (by kernel_rfl) (of_decide_eq_true (by kernel_rfl)) k0 bel lt0) (trodAll_cons_mk (Below.trod laidOut (by kernel_rfl) (of_decide_eq_true (by kernel_rfl)) k1 bel lt1) trodAll_mk0)), rfl, bel.frame _, fun h => by cases h⟩

theorem over : Rows.boxTriesRow.holds Try.pinned (OpenSpec.ofChange Rows.boxTriesSpec) :=
  OpenClaim.holds_of_wide 5 Try.f5 rfl rfl rfl rfl rfl rfl rfl ⟨rfl, rfl, rfl, rfl, rfl⟩ rfl rfl rfl rfl rfl (by kernel_rfl) Try.func5 (by kernel_rfl)
    (of_decide_eq_true (by kernel_rfl)) (by unfold Func.isWrapper; first | (rw [if_pos (by decide +kernel)]; kernel_rfl) | (rw [if_neg (by decide +kernel)]; exact ⟨rfl, rfl⟩))
    (fun os started H enc _ => lifted os started H enc)

/-- The statement. -/
theorem proved : Rows.BoxTriesSaid := over
#print axioms proved

end Go.Proofs.Ythhpkmpaldcloaa.boxTries
