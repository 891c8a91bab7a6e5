
/- SampleWhole holds for all its arguments. No conditions. -/
import Derived.Test.YtcgpmihjodolmaaAwake17
namespace Go.Proofs.Ytcgpmihjodolmaa.sampleWhole
open Go.ChangeShapes Go.WideShapes Go.ChangeAt Go.RowKit
open Go.ChangeMaps (open_string shut_string)
set_option linter.unusedVariables false
set_option linter.unusedSimpArgs false
theorem rd_u3 {w : World} {a b c : Value} (h : Rd Try.prog w 43 [a, b, c]) : ∃ x y z : Int, a = .int .u64 x ∧ b = .int .u64 y ∧ c = .int .u64 z ∧ (0 ≤ x ∧ x ≤ 18446744073709551615) ∧ (0 ≤ y ∧ y ≤ 18446744073709551615) ∧ (0 ≤ z ∧ z ≤ 18446744073709551615) := by
  obtain ⟨_, hf⟩ := Rd.array Try.underlying43 h
  have h0 := hf 0 (by omega)
  have h1 := hf 1 (by omega)
  have h2 := hf 2 (by omega)
  simp [show Try.prog.cellsOf 42 = 1 by kernel_rfl] at h0 h1 h2
  obtain ⟨x, e0, w0⟩ := Rd.int Try.underlying42 h0
  obtain ⟨y, e1, w1⟩ := Rd.int Try.underlying42 h1
  obtain ⟨z, e2, w2⟩ := Rd.int Try.underlying42 h2
  exact ⟨x, y, z, one_int e0, one_int e1, one_int e2, in64_of_wf w0, in64_of_wf w1, in64_of_wf w2⟩
set_option maxRecDepth 100000 in
theorem open_u3 {H : Type} {enc : TypeId × Value → H} {W : World} {v : Value} {b : Nat} {d : DataW H} {p : List MemPlace} (o : Value.okWide Try.prog W .any b 43 v) (h : DataW.Trod enc Try.prog W 0 (fun _ => true) true 43 v d p) :
    ∃ x y z : Nat, v = .agg #[.int .u64 x, .int .u64 y, .int .u64 z] ∧ (x < 18446744073709551616 ∧ y < 18446744073709551616 ∧ z < 18446744073709551616) := by
  obtain ⟨cs, rfl⟩ := agg_of_array Try.underlying43 o
  have hr := Rd.of h
  rw [agg_cells] at hr
  obtain ⟨hl, hf⟩ := Rd.array Try.underlying43 hr
  rw [show Try.prog.cellsOf 43 = 3 by kernel_rfl] at hl
  obtain ⟨a, b, c, e⟩ := list3 hl
  rw [e] at hr
  obtain ⟨x, y, z, rfl, rfl, rfl, hx, hy, hz⟩ := rd_u3 hr
  refine ⟨x.toNat, y.toNat, z.toNat, ?_, by omega, by omega, by omega⟩
  rw [show cs = cs.toList.toArray by simp, e, Int.toNat_of_nonneg hx.1, Int.toNat_of_nonneg hy.1, Int.toNat_of_nonneg hz.1]
def fS (x y z : Nat) : Nat → List Value
  | 0 => [.float .f64 0, .float .f64 0, .float .f64 0]
  | 1 => [.float .f64 x, .float .f64 0, .float .f64 0]
  | 2 => [.float .f64 x, .float .f64 y, .float .f64 0]
  | _ => [.float .f64 x, .float .f64 y, .float .f64 z]
def badK (x y z u v t : Nat) : Nat → Bool
  | 0 => false
  | 1 => !notNaN x || !notNaN u
  | 2 => (!notNaN x || !notNaN u) || (!notNaN y || !notNaN v)
  | _ => ((!notNaN x || !notNaN u) || (!notNaN y || !notNaN v)) || (!notNaN z || !notNaN t)
theorem bad_all (x y z u v t : Nat) : badK x y z u v t 3 = !(all3 x y z && all3 u v t) := by
  unfold badK all3
  cases notNaN x <;> cases notNaN y <;> cases notNaN z <;> cases notNaN u <;> cases notNaN v <;> cases notNaN t <;> rfl
theorem kind_nan (n : Nat) : (kindF n == 1) = !notNaN n := by unfold notNaN; rw [Bool.not_not]
theorem readF_nn (n : Nat) : 0 ≤ readF n := by unfold readF; split <;> (try split) <;> omega
theorem wh_right (x y z u v t : Nat) : rightR ⟨1, x, y, z⟩ [⟨⟨#[112]⟩, u, v, t⟩] = (all3 x y z && all3 u v t) := by
  rw [right_eq]
  have h1 : twiceB [⟨⟨#[112]⟩, u, v, t⟩] = false := rfl
  have h2 : nameB ⟨#[112]⟩ = true := by decide +kernel
  rw [h1]
  simp [okU, h2]
theorem wh_list (u v t : Nat) : readL [⟨⟨#[112]⟩, u, v, t⟩] = [⟨⟨#[112]⟩, readF u, readF v, readF t⟩] := by
  unfold readL sortU sortBy
  rw [List.map_cons, List.map_nil, List.mergeSort_singleton]; rfl
set_option maxRecDepth 100000 in
set_option maxHeartbeats 16000000 in
theorem walk (x y z u v t : Nat) (w : World) (hA : x < 18446744073709551616 ∧ y < 18446744073709551616 ∧ z < 18446744073709551616) (hB : u < 18446744073709551616 ∧ v < 18446744073709551616 ∧ t < 18446744073709551616) :
    Calls Try.prog 5 #[.agg #[.int .u64 x, .int .u64 y, .int .u64 z], .agg #[.int .u64 u, .int .u64 v, .int .u64 t]] w fun e w' => e = .returned (.bool true) ∧ Below w.heap.size w w' := by
  obtain ⟨hx, hy, hz⟩ := hA
  obtain ⟨hu, hv, ht⟩ := hB
  have hw : Below w.heap.size w w := Below.refl _ _
  have hbel := hw
  go_enter Try.func5, Try.ntmps5
  go_upto_region 1 with fail
  have aa0 : ((w.alloc (.cells #[.int .u64 x, .int .u64 y, .int .u64 z] 43)).alloc (.cells #[.int .u64 u, .int .u64 v, .int .u64 t] 43)).cell? ⟨w.heap.size, 0, none⟩ = some (.int .u64 x) := by first | (simp; done) | (rw [World.cell?_alloc_at _ _ _ _ (by simp)]; rfl) | (rw [World.cell?_alloc_past _ _ _ (by simp <;> omega), World.cell?_alloc_at _ _ _ _ (by simp)]; rfl) | (rw [World.cell?_alloc_past _ _ _ (by simp <;> omega), World.cell?_alloc_past _ _ _ (by simp <;> omega), World.cell?_alloc_at _ _ _ _ (by simp)]; rfl)
  have aa1 : ((w.alloc (.cells #[.int .u64 x, .int .u64 y, .int .u64 z] 43)).alloc (.cells #[.int .u64 u, .int .u64 v, .int .u64 t] 43)).cell? ⟨w.heap.size, 1, none⟩ = some (.int .u64 y) := by first | (simp; done) | (rw [World.cell?_alloc_at _ _ _ _ (by simp)]; rfl) | (rw [World.cell?_alloc_past _ _ _ (by simp <;> omega), World.cell?_alloc_at _ _ _ _ (by simp)]; rfl) | (rw [World.cell?_alloc_past _ _ _ (by simp <;> omega), World.cell?_alloc_past _ _ _ (by simp <;> omega), World.cell?_alloc_at _ _ _ _ (by simp)]; rfl)
  have aa2 : ((w.alloc (.cells #[.int .u64 x, .int .u64 y, .int .u64 z] 43)).alloc (.cells #[.int .u64 u, .int .u64 v, .int .u64 t] 43)).cell? ⟨w.heap.size, 2, none⟩ = some (.int .u64 z) := by first | (simp; done) | (rw [World.cell?_alloc_at _ _ _ _ (by simp)]; rfl) | (rw [World.cell?_alloc_past _ _ _ (by simp <;> omega), World.cell?_alloc_at _ _ _ _ (by simp)]; rfl) | (rw [World.cell?_alloc_past _ _ _ (by simp <;> omega), World.cell?_alloc_past _ _ _ (by simp <;> omega), World.cell?_alloc_at _ _ _ _ (by simp)]; rfl)
  have bb0 : ((w.alloc (.cells #[.int .u64 x, .int .u64 y, .int .u64 z] 43)).alloc (.cells #[.int .u64 u, .int .u64 v, .int .u64 t] 43)).cell? ⟨w.heap.size + 1, 0, none⟩ = some (.int .u64 u) := by first | (simp; done) | (rw [World.cell?_alloc_at _ _ _ _ (by simp)]; rfl) | (rw [World.cell?_alloc_past _ _ _ (by simp <;> omega), World.cell?_alloc_at _ _ _ _ (by simp)]; rfl) | (rw [World.cell?_alloc_past _ _ _ (by simp <;> omega), World.cell?_alloc_past _ _ _ (by simp <;> omega), World.cell?_alloc_at _ _ _ _ (by simp)]; rfl)
  have bb1 : ((w.alloc (.cells #[.int .u64 x, .int .u64 y, .int .u64 z] 43)).alloc (.cells #[.int .u64 u, .int .u64 v, .int .u64 t] 43)).cell? ⟨w.heap.size + 1, 1, none⟩ = some (.int .u64 v) := by first | (simp; done) | (rw [World.cell?_alloc_at _ _ _ _ (by simp)]; rfl) | (rw [World.cell?_alloc_past _ _ _ (by simp <;> omega), World.cell?_alloc_at _ _ _ _ (by simp)]; rfl) | (rw [World.cell?_alloc_past _ _ _ (by simp <;> omega), World.cell?_alloc_past _ _ _ (by simp <;> omega), World.cell?_alloc_at _ _ _ _ (by simp)]; rfl)
  have bb2 : ((w.alloc (.cells #[.int .u64 x, .int .u64 y, .int .u64 z] 43)).alloc (.cells #[.int .u64 u, .int .u64 v, .int .u64 t] 43)).cell? ⟨w.heap.size + 1, 2, none⟩ = some (.int .u64 t) := by first | (simp; done) | (rw [World.cell?_alloc_at _ _ _ _ (by simp)]; rfl) | (rw [World.cell?_alloc_past _ _ _ (by simp <;> omega), World.cell?_alloc_at _ _ _ _ (by simp)]; rfl) | (rw [World.cell?_alloc_past _ _ _ (by simp <;> omega), World.cell?_alloc_past _ _ _ (by simp <;> omega), World.cell?_alloc_at _ _ _ _ (by simp)]; rfl)
  have hb2 := (by repeat (first | exact hbel | refine belAlloc ?_ _ | refine belDrew ?_ | refine belSet ?_ _ _ (by simp)) : Below w.heap.size w ((w.alloc (.cells #[.int .u64 x, .int .u64 y, .int .u64 z] 43)).alloc (.cells #[.int .u64 u, .int .u64 v, .int .u64 t] 43)))
  replace hw := belStep hw hb2
  clear hb2 hbel
  generalize (w.alloc (.cells #[.int .u64 x, .int .u64 y, .int .u64 z] 43)).alloc (.cells #[.int .u64 u, .int .u64 v, .int .u64 t] 43) = W1 at *
  replace aa0 := keep aa0
  replace aa1 := keep aa1
  replace aa2 := keep aa2
  replace bb0 := keep bb0
  replace bb1 := keep bb1
  replace bb2 := keep bb2
  have hbel : Below W1.heap.size W1 W1 := Below.refl _ _
  skip
  go_upto_region 3 with (first | (go_at_call 18; (with_reducible refine (awake17 _).mono ?_); rintro e w1 ⟨rfl, hb1⟩; replace hbel := belStep hbel hb1; clear hb1))
  replace aa0 := keepOnP aa0 hbel
  replace aa1 := keepOnP aa1 hbel
  replace aa2 := keepOnP aa2 hbel
  replace bb0 := keepOnP bb0 hbel
  replace bb1 := keepOnP bb1 hbel
  replace bb2 := keepOnP bb2 hbel
  replace hw := belStep hw hbel
  clear hbel
  generalize w1 = W2 at *
  have hbel : Below W2.heap.size W2 W2 := Below.refl _ _
  go_upto_region 5 with fail
  have hX : Blk ((W2.alloc (.cells #[.float .f64 0, .float .f64 0, .float .f64 0] 23)).alloc (.cells #[.float .f64 0, .float .f64 0, .float .f64 0] 23)) W2.heap.size (fS x y z 0) 23 := (Blk.new W2 (fS x y z 0) 23).later (belAlloc (Below.refl _ _) _)
  have hY : Blk ((W2.alloc (.cells #[.float .f64 0, .float .f64 0, .float .f64 0] 23)).alloc (.cells #[.float .f64 0, .float .f64 0, .float .f64 0] 23)) (W2.heap.size + 1) (fS u v t 0) 23 := Blk.at (by simp)
  have hb3 : Below W2.heap.size W2 ((W2.alloc (.cells #[.float .f64 0, .float .f64 0, .float .f64 0] 23)).alloc (.cells #[.float .f64 0, .float .f64 0, .float .f64 0] 23)) := belAlloc (belAlloc hbel _) _
  generalize (W2.alloc (.cells #[.float .f64 0, .float .f64 0, .float .f64 0] 23)).alloc (.cells #[.float .f64 0, .float .f64 0, .float .f64 0] 23) = W3 at *
  clear hbel
  have hbel := hb3
  have hf0 := run_frombits
  go_wp2
  clear hbel
  go_loopw [7, 8] (fun bv i wr => ∃ (k : Nat) (I : Int), I = k ∧ k ≤ 3 ∧ i = .int .i64 I ∧ bv = .bool (badK x y z u v t k) ∧ Blk wr W2.heap.size (fS x y z k) 23 ∧ Blk wr (W2.heap.size + 1) (fS u v t k) 23 ∧ Below W2.heap.size W2 wr) (fun _ i _ => 3 - (intOf i).toNat)
  case atStart => exact ⟨0, 0, rfl, by omega, rfl, rfl, hX, hY, hb3⟩
  case round =>
    obtain ⟨k, I, hI, hk, rfl, rfl, hX2, hY2, hbel⟩ := hrel
    clear hX hY hb3
    have key : k = 0 ∨ k = 1 ∨ k = 2 ∨ k = 3 := by omega
    clear hk
    rcases key with rfl | rfl | rfl | rfl
    · obtain rfl : I = 0 := hI
      have yx := hX2.cell (j := 0) rfl
      have yy := hY2.cell (j := 0) rfl
      have fx := hX2.frozen
      have fy := hY2.frozen
      have HX2 := Lib.hid hX2
      have HY2 := Lib.hid hY2
      clear hX2 hY2
      have CKX := Lib.hid (fun n => ref_Kind x n hx)
      have CKY := Lib.hid (fun n => ref_Kind u n hu)
      have hlt : W2.heap.size + 1 < wr.heap.size := HY2.out.lt
      go_upto_region 11 with fail
      have hX3 := (HX2.out.set 0 (.float .f64 x)).far (a := ⟨W2.heap.size + 1, 0, none⟩) (show W2.heap.size + 1 ≠ W2.heap.size by omega) (.float .f64 u)
      have hY3 := (HY2.out.far (a := ⟨W2.heap.size, 0, none⟩) (show W2.heap.size ≠ W2.heap.size + 1 by omega) (.float .f64 x)).set 0 (.float .f64 u)
      have hb4 := belSet (belSet hbel ⟨W2.heap.size, 0, none⟩ (.float .f64 x) (Nat.le_refl _)) ⟨W2.heap.size + 1, 0, none⟩ (.float .f64 u) (by dsimp only; omega)
      clear yx yy fx fy hbel HX2 HY2
      generalize (wr.setCell ⟨W2.heap.size, 0, none⟩ (.float .f64 x)).setCell ⟨W2.heap.size + 1, 0, none⟩ (.float .f64 u) = W4 at *
      have hbel := hb4
      have yx := hX3.cell (j := 0) rfl
      have yy := hY3.cell (j := 0) rfl
      have HX3 := Lib.hid hX3
      have HY3 := Lib.hid hY3
      clear hX3 hY3 hb4
      have NX := Lib.hid (kind_nan x)
      have NY := Lib.hid (kind_nan u)
      obtain ⟨kx, hkx⟩ : ∃ n, kindF x = n := ⟨_, rfl⟩
      obtain ⟨ky, hky⟩ : ∃ n, kindF u = n := ⟨_, rfl⟩
      rw [hkx] at CKX NX
      rw [hky] at CKY NY
      clear hkx hky
      obtain ⟨bo, hbo⟩ : ∃ b, badK x y z u v t 0 = b := ⟨_, rfl⟩
      simp only [hbo]
      have HBO := Lib.hid hbo
      clear hbo
      rcases bo with _ | _
      · cases hq : (kx == 1) with
        | false =>
          cases hq2 : (ky == 1) with
          | false =>
            go_wp2_with (first | (go_at_call 30; (with_reducible refine (CKX.out _).mono ?_); rintro e w' ⟨rfl, rfl⟩) | (go_at_call 30; (with_reducible refine (CKY.out _).mono ?_); rintro e w' ⟨rfl, rfl⟩))
            go_roundw
            case rel => exact ⟨1, 1, rfl, by omega, rfl, by rw [show badK x y z u v t 1 = (badK x y z u v t 0 || (!notNaN x || !notNaN u)) from rfl, HBO.out, ← NX.out, ← NY.out]; simp_all, HX3.out, HY3.out, hbel⟩
            case measure => simp [intOf] <;> omega
          | true =>
            go_wp2_with (first | (go_at_call 30; (with_reducible refine (CKX.out _).mono ?_); rintro e w' ⟨rfl, rfl⟩) | (go_at_call 30; (with_reducible refine (CKY.out _).mono ?_); rintro e w' ⟨rfl, rfl⟩))
            go_roundw
            case rel => exact ⟨1, 1, rfl, by omega, rfl, by rw [show badK x y z u v t 1 = (badK x y z u v t 0 || (!notNaN x || !notNaN u)) from rfl, HBO.out, ← NX.out, ← NY.out]; simp_all, HX3.out, HY3.out, hbel⟩
            case measure => simp [intOf] <;> omega
        | true =>
          go_wp2_with (first | (go_at_call 30; (with_reducible refine (CKX.out _).mono ?_); rintro e w' ⟨rfl, rfl⟩) | (go_at_call 30; (with_reducible refine (CKY.out _).mono ?_); rintro e w' ⟨rfl, rfl⟩))
          go_roundw
          case rel => exact ⟨1, 1, rfl, by omega, rfl, by rw [show badK x y z u v t 1 = (badK x y z u v t 0 || (!notNaN x || !notNaN u)) from rfl, HBO.out, ← NX.out, ← NY.out]; simp_all, HX3.out, HY3.out, hbel⟩
          case measure => simp [intOf] <;> omega
      · go_wp2
        go_roundw
        case rel => exact ⟨1, 1, rfl, by omega, rfl, by rw [show badK x y z u v t 1 = (badK x y z u v t 0 || (!notNaN x || !notNaN u)) from rfl, HBO.out, ← NX.out, ← NY.out]; simp_all, HX3.out, HY3.out, hbel⟩
        case measure => simp [intOf] <;> omega
    · obtain rfl : I = 1 := hI
      have yx := hX2.cell (j := 1) rfl
      have yy := hY2.cell (j := 1) rfl
      have fx := hX2.frozen
      have fy := hY2.frozen
      have HX2 := Lib.hid hX2
      have HY2 := Lib.hid hY2
      clear hX2 hY2
      have CKX := Lib.hid (fun n => ref_Kind y n hy)
      have CKY := Lib.hid (fun n => ref_Kind v n hv)
      have hlt : W2.heap.size + 1 < wr.heap.size := HY2.out.lt
      go_upto_region 11 with fail
      have hX3 := (HX2.out.set 1 (.float .f64 y)).far (a := ⟨W2.heap.size + 1, 1, none⟩) (show W2.heap.size + 1 ≠ W2.heap.size by omega) (.float .f64 v)
      have hY3 := (HY2.out.far (a := ⟨W2.heap.size, 1, none⟩) (show W2.heap.size ≠ W2.heap.size + 1 by omega) (.float .f64 y)).set 1 (.float .f64 v)
      have hb4 := belSet (belSet hbel ⟨W2.heap.size, 1, none⟩ (.float .f64 y) (Nat.le_refl _)) ⟨W2.heap.size + 1, 1, none⟩ (.float .f64 v) (by dsimp only; omega)
      clear yx yy fx fy hbel HX2 HY2
      generalize (wr.setCell ⟨W2.heap.size, 1, none⟩ (.float .f64 y)).setCell ⟨W2.heap.size + 1, 1, none⟩ (.float .f64 v) = W4 at *
      have hbel := hb4
      have yx := hX3.cell (j := 1) rfl
      have yy := hY3.cell (j := 1) rfl
      have HX3 := Lib.hid hX3
      have HY3 := Lib.hid hY3
      clear hX3 hY3 hb4
      have NX := Lib.hid (kind_nan y)
      have NY := Lib.hid (kind_nan v)
      obtain ⟨kx, hkx⟩ : ∃ n, kindF y = n := ⟨_, rfl⟩
      obtain ⟨ky, hky⟩ : ∃ n, kindF v = n := ⟨_, rfl⟩
      rw [hkx] at CKX NX
      rw [hky] at CKY NY
      clear hkx hky
      obtain ⟨bo, hbo⟩ : ∃ b, badK x y z u v t 1 = b := ⟨_, rfl⟩
      simp only [hbo]
      have HBO := Lib.hid hbo
      clear hbo
      rcases bo with _ | _
      · cases hq : (kx == 1) with
        | false =>
          cases hq2 : (ky == 1) with
          | false =>
            go_wp2_with (first | (go_at_call 30; (with_reducible refine (CKX.out _).mono ?_); rintro e w' ⟨rfl, rfl⟩) | (go_at_call 30; (with_reducible refine (CKY.out _).mono ?_); rintro e w' ⟨rfl, rfl⟩))
            go_roundw
            case rel => exact ⟨2, 2, rfl, by omega, rfl, by rw [show badK x y z u v t 2 = (badK x y z u v t 1 || (!notNaN y || !notNaN v)) from rfl, HBO.out, ← NX.out, ← NY.out]; simp_all, HX3.out, HY3.out, hbel⟩
            case measure => simp [intOf] <;> omega
          | true =>
            go_wp2_with (first | (go_at_call 30; (with_reducible refine (CKX.out _).mono ?_); rintro e w' ⟨rfl, rfl⟩) | (go_at_call 30; (with_reducible refine (CKY.out _).mono ?_); rintro e w' ⟨rfl, rfl⟩))
            go_roundw
            case rel => exact ⟨2, 2, rfl, by omega, rfl, by rw [show badK x y z u v t 2 = (badK x y z u v t 1 || (!notNaN y || !notNaN v)) from rfl, HBO.out, ← NX.out, ← NY.out]; simp_all, HX3.out, HY3.out, hbel⟩
            case measure => simp [intOf] <;> omega
        | true =>
          go_wp2_with (first | (go_at_call 30; (with_reducible refine (CKX.out _).mono ?_); rintro e w' ⟨rfl, rfl⟩) | (go_at_call 30; (with_reducible refine (CKY.out _).mono ?_); rintro e w' ⟨rfl, rfl⟩))
          go_roundw
          case rel => exact ⟨2, 2, rfl, by omega, rfl, by rw [show badK x y z u v t 2 = (badK x y z u v t 1 || (!notNaN y || !notNaN v)) from rfl, HBO.out, ← NX.out, ← NY.out]; simp_all, HX3.out, HY3.out, hbel⟩
          case measure => simp [intOf] <;> omega
      · go_wp2
        go_roundw
        case rel => exact ⟨2, 2, rfl, by omega, rfl, by rw [show badK x y z u v t 2 = (badK x y z u v t 1 || (!notNaN y || !notNaN v)) from rfl, HBO.out, ← NX.out, ← NY.out]; simp_all, HX3.out, HY3.out, hbel⟩
        case measure => simp [intOf] <;> omega
    · obtain rfl : I = 2 := hI
      have yx := hX2.cell (j := 2) rfl
      have yy := hY2.cell (j := 2) rfl
      have fx := hX2.frozen
      have fy := hY2.frozen
      have HX2 := Lib.hid hX2
      have HY2 := Lib.hid hY2
      clear hX2 hY2
      have CKX := Lib.hid (fun n => ref_Kind z n hz)
      have CKY := Lib.hid (fun n => ref_Kind t n ht)
      have hlt : W2.heap.size + 1 < wr.heap.size := HY2.out.lt
      go_upto_region 11 with fail
      have hX3 := (HX2.out.set 2 (.float .f64 z)).far (a := ⟨W2.heap.size + 1, 2, none⟩) (show W2.heap.size + 1 ≠ W2.heap.size by omega) (.float .f64 t)
      have hY3 := (HY2.out.far (a := ⟨W2.heap.size, 2, none⟩) (show W2.heap.size ≠ W2.heap.size + 1 by omega) (.float .f64 z)).set 2 (.float .f64 t)
      have hb4 := belSet (belSet hbel ⟨W2.heap.size, 2, none⟩ (.float .f64 z) (Nat.le_refl _)) ⟨W2.heap.size + 1, 2, none⟩ (.float .f64 t) (by dsimp only; omega)
      clear yx yy fx fy hbel HX2 HY2
      generalize (wr.setCell ⟨W2.heap.size, 2, none⟩ (.float .f64 z)).setCell ⟨W2.heap.size + 1, 2, none⟩ (.float .f64 t) = W4 at *
      have hbel := hb4
      have yx := hX3.cell (j := 2) rfl
      have yy := hY3.cell (j := 2) rfl
      have HX3 := Lib.hid hX3
      have HY3 := Lib.hid hY3
      clear hX3 hY3 hb4
      have NX := Lib.hid (kind_nan z)
      have NY := Lib.hid (kind_nan t)
      obtain ⟨kx, hkx⟩ : ∃ n, kindF z = n := ⟨_, rfl⟩
      obtain ⟨ky, hky⟩ : ∃ n, kindF t = n := ⟨_, rfl⟩
      rw [hkx] at CKX NX
      rw [hky] at CKY NY
      clear hkx hky
      obtain ⟨bo, hbo⟩ : ∃ b, badK x y z u v t 2 = b := ⟨_, rfl⟩
      simp only [hbo]
      have HBO := Lib.hid hbo
      clear hbo
      rcases bo with _ | _
      · cases hq : (kx == 1) with
        | false =>
          cases hq2 : (ky == 1) with
          | false =>
            go_wp2_with (first | (go_at_call 30; (with_reducible refine (CKX.out _).mono ?_); rintro e w' ⟨rfl, rfl⟩) | (go_at_call 30; (with_reducible refine (CKY.out _).mono ?_); rintro e w' ⟨rfl, rfl⟩))
            go_roundw
            case rel => exact ⟨3, 3, rfl, by omega, rfl, by rw [show badK x y z u v t 3 = (badK x y z u v t 2 || (!notNaN z || !notNaN t)) from rfl, HBO.out, ← NX.out, ← NY.out]; simp_all, HX3.out, HY3.out, hbel⟩
            case measure => simp [intOf] <;> omega
          | true =>
            go_wp2_with (first | (go_at_call 30; (with_reducible refine (CKX.out _).mono ?_); rintro e w' ⟨rfl, rfl⟩) | (go_at_call 30; (with_reducible refine (CKY.out _).mono ?_); rintro e w' ⟨rfl, rfl⟩))
            go_roundw
            case rel => exact ⟨3, 3, rfl, by omega, rfl, by rw [show badK x y z u v t 3 = (badK x y z u v t 2 || (!notNaN z || !notNaN t)) from rfl, HBO.out, ← NX.out, ← NY.out]; simp_all, HX3.out, HY3.out, hbel⟩
            case measure => simp [intOf] <;> omega
        | true =>
          go_wp2_with (first | (go_at_call 30; (with_reducible refine (CKX.out _).mono ?_); rintro e w' ⟨rfl, rfl⟩) | (go_at_call 30; (with_reducible refine (CKY.out _).mono ?_); rintro e w' ⟨rfl, rfl⟩))
          go_roundw
          case rel => exact ⟨3, 3, rfl, by omega, rfl, by rw [show badK x y z u v t 3 = (badK x y z u v t 2 || (!notNaN z || !notNaN t)) from rfl, HBO.out, ← NX.out, ← NY.out]; simp_all, HX3.out, HY3.out, hbel⟩
          case measure => simp [intOf] <;> omega
      · go_wp2
        go_roundw
        case rel => exact ⟨3, 3, rfl, by omega, rfl, by rw [show badK x y z u v t 3 = (badK x y z u v t 2 || (!notNaN z || !notNaN t)) from rfl, HBO.out, ← NX.out, ← NY.out]; simp_all, HX3.out, HY3.out, hbel⟩
        case measure => simp [intOf] <;> omega
    · obtain rfl : I = 3 := hI
      have HX2 := Lib.hid hX2
      have HY2 := Lib.hid hY2
      have p0 := hX2.cell (j := 0) rfl
      have p1 := hX2.cell (j := 1) rfl
      have p2 := hX2.cell (j := 2) rfl
      have q0 := hY2.cell (j := 0) rfl
      have q1 := hY2.cell (j := 1) rfl
      have q2 := hY2.cell (j := 2) rfl
      clear hX2 hY2
      have HBL := Lib.hid hbel
      have HR := Lib.hid (wh_right x y z u v t)
      have HBD := Lib.hid (bad_all x y z u v t)
      obtain ⟨bo, hbo⟩ : ∃ b, badK x y z u v t 3 = b := ⟨_, rfl⟩
      simp only [hbo]
      rw [hbo] at HBD
      clear hbo
      have HROW := Lib.hid (show Row (wr.alloc (.cells #[.string ⟨#[112]⟩, .float .f64 u, .float .f64 v, .float .f64 t] 47)) (some ⟨wr.heap.size, 0, none⟩) 1 1 4 ([(⟨⟨#[112]⟩, u, v, t⟩ : UsgV)].flatMap UsgV.cells) from row_new wr [.string ⟨#[112]⟩, .float .f64 u, .float .f64 v, .float .f64 t] 47 1 4 rfl (by unfold maxLen; omega))
      have hok1 : (⟨1, x, y, z⟩ : RawV).ok := ⟨by unfold InI; dsimp only; omega, hx, hy, hz⟩
      have hok2 : ∀ g ∈ [(⟨⟨#[112]⟩, u, v, t⟩ : UsgV)], g.ok := fun g hg => by simp only [List.mem_cons, List.not_mem_nil, or_false] at hg; subst hg; exact ⟨show (1 : Nat) ≤ maxLen by unfold maxLen; omega, hu, hv, ht⟩
      rcases bo with _ | _
      · have hal : (all3 x y z && all3 u v t) = true := by have h := HBD.out; revert h; cases (all3 x y z && all3 u v t) <;> simp
        have CRD := Lib.hid (show Calls Try.prog 20 #[.agg #[.int .i64 1, .float .f64 x, .float .f64 y, .float .f64 z, .slice (some ⟨wr.heap.size, 0, none⟩) 1 1]] (wr.alloc (.cells #[.string ⟨#[112]⟩, .float .f64 u, .float .f64 v, .float .f64 t] 47)) fun e w' => (∃ b n, e = .returned (.tuple #[.agg #[.int .i64 1, .int .i64 (readF x), .int .i64 (readF y), .int .i64 (readF z), .slice b 1 n], .int .i64 0]) ∧ OwnR w' (wr.alloc (.cells #[.string ⟨#[112]⟩, .float .f64 u, .float .f64 v, .float .f64 t] 47)).heap.size 51 4 (.slice b 1 n) 1 [.string ⟨#[112]⟩, .int .i64 (readF u), .int .i64 (readF v), .int .i64 (readF t)]) ∧ Below (wr.alloc (.cells #[.string ⟨#[112]⟩, .float .f64 u, .float .f64 v, .float .f64 t] 47)).heap.size (wr.alloc (.cells #[.string ⟨#[112]⟩, .float .f64 u, .float .f64 v, .float .f64 t] 47)) w' from smp_ReadE (S := ⟨1, readF x, readF y, readF z, [⟨⟨#[112]⟩, readF u, readF v, readF t⟩]⟩) (er := 0) ⟨1, x, y, z⟩ _ 1 1 [⟨⟨#[112]⟩, u, v, t⟩] _ rfl hok1 hok2 HROW.out (by rw [readSF_yes (by rw [HR.out]; exact hal)]; unfold readOK; rw [wh_list]))
        have h3 : (notNaN x = true ∧ notNaN y = true ∧ notNaN z = true) ∧ (notNaN u = true ∧ notNaN v = true ∧ notNaN t = true) := by simpa [all3] using hal
        clear hal
        have Cx := Lib.hid (fun n => by have h := ref_ReadW x n hx; rw [wF_ok h3.1.1] at h; exact h)
        have nx := readF_nn x
        have Cy := Lib.hid (fun n => by have h := ref_ReadW y n hy; rw [wF_ok h3.1.2.1] at h; exact h)
        have ny := readF_nn y
        have Cz := Lib.hid (fun n => by have h := ref_ReadW z n hz; rw [wF_ok h3.1.2.2] at h; exact h)
        have nz := readF_nn z
        have Cu := Lib.hid (fun n => by have h := ref_ReadW u n hu; rw [wF_ok h3.2.1] at h; exact h)
        have nu := readF_nn u
        have Cv := Lib.hid (fun n => by have h := ref_ReadW v n hv; rw [wF_ok h3.2.2.1] at h; exact h)
        have nv := readF_nn v
        have Ct := Lib.hid (fun n => by have h := ref_ReadW t n ht; rw [wF_ok h3.2.2.2] at h; exact h)
        have nt := readF_nn t
        obtain ⟨rx, hxr⟩ : ∃ n, readF x = n := ⟨_, rfl⟩
        rw [hxr] at CRD Cx nx
        clear hxr
        obtain ⟨ry, hyr⟩ : ∃ n, readF y = n := ⟨_, rfl⟩
        rw [hyr] at CRD Cy ny
        clear hyr
        obtain ⟨rz, hzr⟩ : ∃ n, readF z = n := ⟨_, rfl⟩
        rw [hzr] at CRD Cz nz
        clear hzr
        obtain ⟨ru, hur⟩ : ∃ n, readF u = n := ⟨_, rfl⟩
        rw [hur] at CRD Cu nu
        clear hur
        obtain ⟨rv, hvr⟩ : ∃ n, readF v = n := ⟨_, rfl⟩
        rw [hvr] at CRD Cv nv
        clear hvr
        obtain ⟨rt, htr⟩ : ∃ n, readF t = n := ⟨_, rfl⟩
        rw [htr] at CRD Ct nt
        clear htr
        clear h3 hok1 hok2
        go_upto_region 13 with (first | (go_at_call 20; (with_reducible refine CRD.out.mono ?_); rintro e w5 ⟨⟨b5, n5, rfl, ho5⟩, hb5⟩))
        rcases own_shape ho5 with ⟨_, h0⟩ | ⟨g5, c5, e5, _, hg5, hc5, hc6⟩
        · cases h0
        simp only [Value.slice.injEq, true_and] at e5
        obtain ⟨rfl, rfl⟩ := e5
        have s0 := World.ownsRow.cellAt ho5 0 (by simp)
        have s1 := World.ownsRow.cellAt ho5 1 (by simp)
        have s2 := World.ownsRow.cellAt ho5 2 (by simp)
        have s3 := World.ownsRow.cellAt ho5 3 (by simp)
        replace s1 : w5.cell? ⟨g5, 1, none⟩ = some (.int .i64 ru) := s1
        replace s2 : w5.cell? ⟨g5, 2, none⟩ = some (.int .i64 rv) := s2
        replace s3 : w5.cell? ⟨g5, 3, none⟩ = some (.int .i64 rt) := s3
        clear ho5
        have hb6 : Below wr.heap.size wr w5 := belStep (belAlloc (Below.refl _ _) _) hb5
        replace p0 := cell_later hb6 p0
        replace p1 := cell_later hb6 p1
        replace p2 := cell_later hb6 p2
        replace q0 := cell_later hb6 q0
        replace q1 := cell_later hb6 q1
        replace q2 := cell_later hb6 q2
        have hbw := belStep hbel hb6
        clear hb5 hb6 hbel
        have hbel : Below w5.heap.size w5 w5 := Below.refl _ _
        replace p0 := keep p0
        replace p1 := keep p1
        replace p2 := keep p2
        replace q0 := keep q0
        replace q1 := keep q1
        replace q2 := keep q2
        replace s1 := keep s1
        replace s2 := keep s2
        replace s3 := keep s3
        clear s0
        replace hw := belStep hw hbw
        clear hbw
        have ss0 : (w5.alloc (.cells #[.int .i64 1, .int .i64 rx, .int .i64 ry, .int .i64 rz, .slice (some ⟨g5, 0, none⟩) 1 n5] 32)).cell? ⟨w5.heap.size, 0, none⟩ = some (.int .i64 1) := by first | (simp; done) | (rw [World.cell?_alloc_at _ _ _ _ (by simp)]; rfl) | (rw [World.cell?_alloc_past _ _ _ (by simp <;> omega), World.cell?_alloc_at _ _ _ _ (by simp)]; rfl) | (rw [World.cell?_alloc_past _ _ _ (by simp <;> omega), World.cell?_alloc_past _ _ _ (by simp <;> omega), World.cell?_alloc_at _ _ _ _ (by simp)]; rfl)
        have ss1 : (w5.alloc (.cells #[.int .i64 1, .int .i64 rx, .int .i64 ry, .int .i64 rz, .slice (some ⟨g5, 0, none⟩) 1 n5] 32)).cell? ⟨w5.heap.size, 1, none⟩ = some (.int .i64 rx) := by first | (simp; done) | (rw [World.cell?_alloc_at _ _ _ _ (by simp)]; rfl) | (rw [World.cell?_alloc_past _ _ _ (by simp <;> omega), World.cell?_alloc_at _ _ _ _ (by simp)]; rfl) | (rw [World.cell?_alloc_past _ _ _ (by simp <;> omega), World.cell?_alloc_past _ _ _ (by simp <;> omega), World.cell?_alloc_at _ _ _ _ (by simp)]; rfl)
        have ss2 : (w5.alloc (.cells #[.int .i64 1, .int .i64 rx, .int .i64 ry, .int .i64 rz, .slice (some ⟨g5, 0, none⟩) 1 n5] 32)).cell? ⟨w5.heap.size, 2, none⟩ = some (.int .i64 ry) := by first | (simp; done) | (rw [World.cell?_alloc_at _ _ _ _ (by simp)]; rfl) | (rw [World.cell?_alloc_past _ _ _ (by simp <;> omega), World.cell?_alloc_at _ _ _ _ (by simp)]; rfl) | (rw [World.cell?_alloc_past _ _ _ (by simp <;> omega), World.cell?_alloc_past _ _ _ (by simp <;> omega), World.cell?_alloc_at _ _ _ _ (by simp)]; rfl)
        have ss3 : (w5.alloc (.cells #[.int .i64 1, .int .i64 rx, .int .i64 ry, .int .i64 rz, .slice (some ⟨g5, 0, none⟩) 1 n5] 32)).cell? ⟨w5.heap.size, 3, none⟩ = some (.int .i64 rz) := by first | (simp; done) | (rw [World.cell?_alloc_at _ _ _ _ (by simp)]; rfl) | (rw [World.cell?_alloc_past _ _ _ (by simp <;> omega), World.cell?_alloc_at _ _ _ _ (by simp)]; rfl) | (rw [World.cell?_alloc_past _ _ _ (by simp <;> omega), World.cell?_alloc_past _ _ _ (by simp <;> omega), World.cell?_alloc_at _ _ _ _ (by simp)]; rfl)
        have ss4 : (w5.alloc (.cells #[.int .i64 1, .int .i64 rx, .int .i64 ry, .int .i64 rz, .slice (some ⟨g5, 0, none⟩) 1 n5] 32)).cell? ⟨w5.heap.size, 4, none⟩ = some (.slice (some ⟨g5, 0, none⟩) 1 n5) := by first | (simp; done) | (rw [World.cell?_alloc_at _ _ _ _ (by simp)]; rfl) | (rw [World.cell?_alloc_past _ _ _ (by simp <;> omega), World.cell?_alloc_at _ _ _ _ (by simp)]; rfl) | (rw [World.cell?_alloc_past _ _ _ (by simp <;> omega), World.cell?_alloc_past _ _ _ (by simp <;> omega), World.cell?_alloc_at _ _ _ _ (by simp)]; rfl)
        have hb2 := (by repeat (first | exact hbel | refine belAlloc ?_ _ | refine belDrew ?_ | refine belSet ?_ _ _ (by simp)) : Below w5.heap.size w5 (w5.alloc (.cells #[.int .i64 1, .int .i64 rx, .int .i64 ry, .int .i64 rz, .slice (some ⟨g5, 0, none⟩) 1 n5] 32)))
        replace p0 := keepOnP p0 hb2
        replace p1 := keepOnP p1 hb2
        replace p2 := keepOnP p2 hb2
        replace q0 := keepOnP q0 hb2
        replace q1 := keepOnP q1 hb2
        replace q2 := keepOnP q2 hb2
        replace s1 := keepOnP s1 hb2
        replace s2 := keepOnP s2 hb2
        replace s3 := keepOnP s3 hb2
        replace hw := belStep hw hb2
        clear hb2 hbel
        generalize w5.alloc (.cells #[.int .i64 1, .int .i64 rx, .int .i64 ry, .int .i64 rz, .slice (some ⟨g5, 0, none⟩) 1 n5] 32) = W6 at *
        replace ss0 := keep ss0
        replace ss1 := keep ss1
        replace ss2 := keep ss2
        replace ss3 := keep ss3
        replace ss4 := keep ss4
        have hbel : Below W6.heap.size W6 W6 := Below.refl _ _
        skip
        have hn5 : (0 : Int) < 1 := by omega
        go_wp2
        go_loopw [11] (fun i wr => ∃ (k : Nat) (I : Int), I = k ∧ k ≤ 3 ∧ i = .int .i64 I ∧ W6 = wr) (fun i _ => 3 - (intOf i).toNat)
        case atStart => exact ⟨0, 0, rfl, by omega, rfl, rfl⟩
        case round =>
          obtain ⟨k, I, hI, hk, rfl, rfl⟩ := hrel
          have key : k = 0 ∨ k = 1 ∨ k = 2 ∨ k = 3 := by omega
          clear hk
          rcases key with rfl | rfl | rfl | rfl
          · obtain rfl : I = 0 := hI
            have m1 : ¬ rx < 0 := by omega
            have m2 : ¬ ru < 0 := by omega
            go_wp2_with (first | (go_at_call 31; (with_reducible refine (Cx.out _).mono ?_); rintro e w' ⟨rfl, rfl⟩) | (go_at_call 31; (with_reducible refine (Cu.out _).mono ?_); rintro e w' ⟨rfl, rfl⟩))
            go_roundw
            case rel => exact ⟨1, 1, rfl, by omega, rfl, by first | rfl | trivial⟩
            case measure => simp [intOf] <;> omega
          · obtain rfl : I = 1 := hI
            have m1 : ¬ ry < 0 := by omega
            have m2 : ¬ rv < 0 := by omega
            go_wp2_with (first | (go_at_call 31; (with_reducible refine (Cy.out _).mono ?_); rintro e w' ⟨rfl, rfl⟩) | (go_at_call 31; (with_reducible refine (Cv.out _).mono ?_); rintro e w' ⟨rfl, rfl⟩))
            go_roundw
            case rel => exact ⟨2, 2, rfl, by omega, rfl, by first | rfl | trivial⟩
            case measure => simp [intOf] <;> omega
          · obtain rfl : I = 2 := hI
            have m1 : ¬ rz < 0 := by omega
            have m2 : ¬ rt < 0 := by omega
            go_wp2_with (first | (go_at_call 31; (with_reducible refine (Cz.out _).mono ?_); rintro e w' ⟨rfl, rfl⟩) | (go_at_call 31; (with_reducible refine (Ct.out _).mono ?_); rintro e w' ⟨rfl, rfl⟩))
            go_roundw
            case rel => exact ⟨3, 3, rfl, by omega, rfl, by first | rfl | trivial⟩
            case measure => simp [intOf] <;> omega
          · obtain rfl : I = 3 := hI
            go_wp2
            go_ret
            exact ⟨rfl, hw⟩
      · have hal : (all3 x y z && all3 u v t) = false := by have h := HBD.out; revert h; cases (all3 x y z && all3 u v t) <;> simp
        have CRD := Lib.hid (show Calls Try.prog 20 #[.agg #[.int .i64 1, .float .f64 x, .float .f64 y, .float .f64 z, .slice (some ⟨wr.heap.size, 0, none⟩) 1 1]] (wr.alloc (.cells #[.string ⟨#[112]⟩, .float .f64 u, .float .f64 v, .float .f64 t] 47)) fun e w' => (∃ b n, e = .returned (.tuple #[.agg #[.int .i64 0, .int .i64 0, .int .i64 0, .int .i64 0, .slice b 0 n], .int .i64 1]) ∧ OwnR w' (wr.alloc (.cells #[.string ⟨#[112]⟩, .float .f64 u, .float .f64 v, .float .f64 t] 47)).heap.size 51 4 (.slice b 0 n) 0 []) ∧ Below (wr.alloc (.cells #[.string ⟨#[112]⟩, .float .f64 u, .float .f64 v, .float .f64 t] 47)).heap.size (wr.alloc (.cells #[.string ⟨#[112]⟩, .float .f64 u, .float .f64 v, .float .f64 t] 47)) w' from smp_ReadE (S := zeroS) (er := 1) ⟨1, x, y, z⟩ _ 1 1 [⟨⟨#[112]⟩, u, v, t⟩] _ rfl hok1 hok2 HROW.out (readSF_no (by rw [HR.out]; exact hal)))
        clear hok1 hok2 hal
        go_wp2_with (first | (go_at_call 20; (with_reducible refine CRD.out.mono ?_); rintro e w5 ⟨⟨b5, n5, rfl, ho5⟩, hb5⟩))
        go_ret
        exact ⟨rfl, belAlloc (belStep hw (belStep hbel (belStep (belAlloc (Below.refl _ _) _) hb5))) _⟩

set_option maxRecDepth 100000 in
theorem lifted (os : Os) (started : os.Started) (H : Type) (enc : TypeId × Value → H) :
    ReturnsInHanded {} Try.checked os 5 .any (Rows.sampleWholeSpec.pre6 enc Try.prog Try.f5 Rows.sampleWholeRow.domain false) (Rows.sampleWholeSpec.post enc Try.prog Try.f5 false true false false) := by
  refine returnsInHanded_of_change (C := Try.checked) own started (by kernel_rfl) Try.func5
    (ChangeSpec.witness6 (enc := enc) (C := Try.checked) false ⟨#[], #[.agg #[.int .u64 0, .int .u64 0, .int .u64 0], .agg #[.int .u64 0, .int .u64 0, .int .u64 0]], []⟩ 8 (by kernel_rfl) (by kernel_rfl) (by kernel_rfl) (by kernel_rfl)) ?_
  intro W base args ds gs before hval0 hW hcnd _
  have hval : ∀ (j : Nat) t v, Try.f5.params[j]? = some t → args[j]? = some v → Value.okWide Try.prog W .any base t v := hval0
  have hW' := hW
  obtain ⟨p, q, hA0, hV, rfl, hfz, hnd⟩ := hW
  have hA : DataW.TrodAll enc Try.prog W 0 (fun _ => true) true Try.f5.params.toList args.toList ds p := hA0
  rw [Try.params5] at hA hval
  obtain ⟨v0, vs0, d0, ds0, p0, q0, hargs, rfl, rfl, h0, r0⟩ := trodAll_cons hA
  obtain ⟨v1, vs1, d1, ds1, p1, q1, rfl, rfl, rfl, h1, r1⟩ := trodAll_cons r0
  obtain ⟨rfl, rfl, rfl⟩ := trodAll_nil r1
  obtain rfl : args = #[v0, v1] := by cases args; simp_all
  obtain ⟨rfl, rfl⟩ := trodVars_none hV
  have k0 := h0
  have lt0 : ∀ x ∈ p0, x.block < W.heap.size := by obtain ⟨m, hm⟩ := k0; exact DataW.trod_lt m _ _ _ hm
  have o0 : Value.okWide Try.prog W .any base 43 v0 := hval 0 43 v0 rfl rfl
  obtain ⟨x0, y0, z0, rfl, fa0⟩ := open_u3 o0 h0
  have k1 := h1
  have lt1 : ∀ x ∈ p1, x.block < W.heap.size := by obtain ⟨m, hm⟩ := k1; exact DataW.trod_lt m _ _ _ hm
  have o1 : Value.okWide Try.prog W .any base 43 v1 := hval 1 43 v1 rfl rfl
  obtain ⟨x1, y1, z1, rfl, fa1⟩ := open_u3 o1 h1
  clear hA0 hval0
  refine (walk x0 y0 z0 x1 y1 z1 W fa0 fa1).mono fun e W' ⟨he, bel⟩ => ?_
  subst he
  exact ⟨_, rfl, _, _, _, [], _, [], hW', trodAll_mk1 (shut_bool Try.underlying4 _), (trodAll_cons_mk (Below.trod laidOut (by kernel_rfl) (of_decide_eq_true (by kernel_rfl)) k0 bel lt0) (trodAll_cons_mk (Below.trod laidOut (by kernel_rfl) (of_decide_eq_true (by kernel_rfl)) k1 bel lt1) trodAll_mk0)), rfl, bel.frame _, fun h => by cases h⟩

theorem over : Rows.sampleWholeRow.holds Try.pinned (OpenSpec.ofChange Rows.sampleWholeSpec) :=
  OpenClaim.holds_of_wide 5 Try.f5 rfl rfl rfl rfl rfl rfl rfl ⟨rfl, rfl, rfl, rfl, rfl⟩ rfl rfl rfl rfl rfl (by kernel_rfl) Try.func5 (by kernel_rfl)
    (of_decide_eq_true (by kernel_rfl)) (by unfold Func.isWrapper; first | (rw [if_pos (by decide +kernel)]; kernel_rfl) | (rw [if_neg (by decide +kernel)]; exact ⟨rfl, rfl⟩))
    (fun os started H enc _ => lifted os started H enc)

/-- The statement. -/
theorem proved : Rows.SampleWholeSaid := over
#print axioms proved

end Go.Proofs.Ytcgpmihjodolmaa.sampleWhole
