/- Contracts of package qos and of its reference. -/
import Derived.Test.YtnfblpiapendeaaWide
import Derived.Test.YtnfblpiapendeaaRead
namespace Go.Proofs.Ytnfblpiapendeaa
open Go.RowKit
set_option linter.unusedVariables false
set_option linter.unusedSimpArgs false

def thouI (part whole : Int) : Int := min 1000 (1000 * part / whole)
theorem thouI_bd (part whole : Int) (hp : 0 ≤ part) (hw : 1 ≤ whole) : 0 ≤ thouI part whole ∧ thouI part whole ≤ 1000 := by
  have : 0 ≤ 1000 * part / whole := Int.ediv_nonneg (by omega) (by omega)
  unfold thouI; omega
theorem thouI_le (part whole k : Int) (hw : 1 ≤ whole) (hk : k < 1000) : thouI part whole ≤ k ↔ 1000 * part < (k + 1) * whole := by
  have : 1000 * part / whole < k + 1 ↔ 1000 * part < (k + 1) * whole := Int.ediv_lt_iff_lt_mul (by omega)
  rw [← this]; unfold thouI; omega
theorem thouI_ge (part whole k : Int) (hw : 1 ≤ whole) (hk : k ≤ 1000) : thouI part whole < k ↔ 1000 * part < k * whole := by
  have := thouI_le part whole (k - 1) hw (by omega)
  rw [show k - 1 + 1 = k by omega] at this
  rw [← this]; omega

set_option maxHeartbeats 1000000 in
theorem thou_closure (k : Nat) (part whole : Int) (hk : k < 1000) (hp : 0 ≤ part) (ip : InI part) (h1 : 1 ≤ whole) (iw : InI whole) (M1 M2 : Nat) (v : World)
    (c1 : v.cell? ⟨M1, 0, none⟩ = some (.int .i64 whole)) (c2 : v.cell? ⟨M2, 0, none⟩ = some (.int .i64 part)) :
    Calls Try.prog 45 #[.int .i64 k, .pointer (some ⟨M1, 0, none⟩), .pointer (some ⟨M2, 0, none⟩)] v fun e v' => e = .returned (.bool (decide (thouI part whole ≤ k))) ∧ Below v.heap.size v v' := by
  have h := thouI_le part whole k h1 (by omega)
  have e1 : satNum (k + 1) = k + 1 := by unfold satNum; omega
  have e2 : satNum whole = whole := by unfold satNum; omega
  have e3 : satNum 1000 = 1000 := rfl
  have e4 : satNum part = part := by unfold satNum; omega
  have ik : InI (k + 1) := by unfold InI; omega
  have i1000 : InI 1000 := by unfold InI; omega
  have hc : decide (0 < cmpI (satNum (k + 1) * satNum whole) (satNum 1000 * satNum part)) = decide (thouI part whole ≤ k) := by
    rw [decide_eq_decide, h, e1, e2, e3, e4]
    generalize 1000 * part = X at *
    generalize ((k : Int) + 1) * whole = Y at *
    unfold cmpI
    constructor
    · intro q; split at q <;> (try split at q) <;> omega
    · intro q; rw [if_neg (by omega), if_pos (by omega)]; omega
  have cw := wide_Compare (k + 1) whole 1000 part v ik iw i1000 ip
  have CW := Lib.hid cw
  have HC := Lib.hid hc
  clear cw hc h e1 e2 e3 e4 ip iw ik i1000
  go_enter Try.func45, Try.ntmps45
  go_wp2_with (first | (go_at_call 46; (with_reducible refine CW.out.mono ?_); rintro e w1 ⟨rfl, hb1⟩))
  go_ret
  exact ⟨ret_bool HC.out, hb1⟩

set_option maxHeartbeats 2000000 in
theorem sort_Search (n q : Nat) (hq : q ≤ n) (hn : n ≤ 1000000) (cb : Array Value) (w : World)
    (hf : ∀ (k : Nat) v, k < n → Below w.heap.size w v → Calls Try.prog 45 (#[.int .i64 k] ++ cb) v fun e v' => e = .returned (.bool (decide (q ≤ k))) ∧ Below v.heap.size v v') :
    Calls Try.prog 44 #[.int .i64 n, .func (.func 45) #[] cb] w fun e w' => e = .returned (.int .i64 q) ∧ Below w.heap.size w w' := by
  have HF := Lib.hid hf
  clear hf
  go_enter Try.func44, Try.ntmps44
  go_wp2
  go_loopw [5, 6] (fun i j wr => ∃ (a b : Nat), i = .int .i64 a ∧ j = .int .i64 b ∧ a ≤ q ∧ q ≤ b ∧ b ≤ n ∧ Below w.heap.size w wr) (fun i j _ => (intOf j).toNat - (intOf i).toNat)
  case atStart => exact ⟨0, n, rfl, rfl, Nat.zero_le _, hq, Nat.le_refl _, Below.refl _ _⟩
  case round =>
    obtain ⟨a, b, rfl, rfl, ha, hb, hbn, hbr⟩ := hrel
    have hbel : Below wr.heap.size wr wr := Below.refl _ _
    by_cases hlt : a < b
    · obtain ⟨h, eh⟩ : ∃ h, (a + b) / 2 = h := ⟨_, rfl⟩
      have h1 : a ≤ h := by omega
      have h2 : h < b := by omega
      have CS := Lib.hid (fun v (hv : Below w.heap.size w v) => HF.out h v (by omega) hv)
      clear HF
      have eh' : ((a : Int) + b) / 2 = h := by omega
      clear eh
      have key : (q ≤ h ∧ decide (q ≤ h) = true) ∨ (h < q ∧ decide (q ≤ h) = false) := by rcases Nat.lt_or_ge h q with k | k <;> simp [k] <;> omega
      rcases key with ⟨k1, k2⟩ | ⟨k1, k2⟩
      all_goals
        go_wp2_with (first | (go_at_call 45; (refine (CS.out _ hbr).mono ?_); rintro e w1 ⟨rfl, hb1⟩; rw [k2]; replace hbel := belStep hbel hb1; clear hb1))
        go_roundw
      · exact ⟨a, h, rfl, rfl, ha, k1, by omega, belStep hbr hbel⟩
      · simp [intOf] <;> omega
      · exact ⟨h + 1, b, by push_cast; rfl, rfl, by omega, hb, hbn, belStep hbr hbel⟩
      · simp [intOf] <;> omega
    · obtain rfl : a = q := by omega
      go_wp2
      go_ret
      exact ⟨rfl, hbr⟩

set_option maxHeartbeats 2000000 in
theorem qos_Thousandths (part whole : Int) (w : World) (hp : 0 ≤ part) (ip : InI part) (h1 : 1 ≤ whole) (iw : InI whole) :
    Calls Try.prog 33 #[.int .i64 part, .int .i64 whole] w fun e w' => e = .returned (.int .i64 (thouI part whole)) ∧ Below w.heap.size w w' := by
  have hw : Below w.heap.size w w := Below.refl _ _
  have hbel := hw
  obtain ⟨q, eq⟩ : ∃ q : Nat, thouI part whole = q := ⟨(thouI part whole).toNat, by have := thouI_bd part whole hp h1; omega⟩
  have hq : q ≤ 1000 := by have := thouI_bd part whole hp h1; omega
  have cl := fun (M1 M2 : Nat) (k : Nat) v (hk : k < 1000) => thou_closure k part whole hk hp ip h1 iw M1 M2 v
  rw [eq] at cl ⊢
  have CL := Lib.hid cl
  clear cl eq
  go_enter Try.func33, Try.ntmps33
  go_upto_region 1 with fail
  have a0 : ((w.alloc (.cells #[.int .i64 part] 3)).alloc (.cells #[.int .i64 whole] 3)).cell? ⟨w.heap.size, 0, none⟩ = some (.int .i64 part) := by first | (simp; done) | (rw [World.cell?_alloc_at _ _ _ _ (by simp)]; rfl) | (rw [World.cell?_alloc_past _ _ _ (by simp <;> omega), World.cell?_alloc_at _ _ _ _ (by simp)]; rfl) | (rw [World.cell?_alloc_past _ _ _ (by simp <;> omega), World.cell?_alloc_past _ _ _ (by simp <;> omega), World.cell?_alloc_at _ _ _ _ (by simp)]; rfl)
  have b0 : ((w.alloc (.cells #[.int .i64 part] 3)).alloc (.cells #[.int .i64 whole] 3)).cell? ⟨w.heap.size + 1, 0, none⟩ = some (.int .i64 whole) := by first | (simp; done) | (rw [World.cell?_alloc_at _ _ _ _ (by simp)]; rfl) | (rw [World.cell?_alloc_past _ _ _ (by simp <;> omega), World.cell?_alloc_at _ _ _ _ (by simp)]; rfl) | (rw [World.cell?_alloc_past _ _ _ (by simp <;> omega), World.cell?_alloc_past _ _ _ (by simp <;> omega), World.cell?_alloc_at _ _ _ _ (by simp)]; rfl)
  have hb2 := (by repeat (first | exact hbel | refine belAlloc ?_ _ | refine belDrew ?_ | refine belSet ?_ _ _ (by simp)) : Below w.heap.size w ((w.alloc (.cells #[.int .i64 part] 3)).alloc (.cells #[.int .i64 whole] 3)))
  replace hw := belStep hw hb2
  clear hb2 hbel
  generalize (w.alloc (.cells #[.int .i64 part] 3)).alloc (.cells #[.int .i64 whole] 3) = W1 at *
  replace a0 := keep a0
  replace b0 := keep b0
  have hbel : Below W1.heap.size W1 W1 := Below.refl _ _
  skip
  have cs : Calls Try.prog 44 #[.int .i64 1000, .func (.func 45) #[] #[.pointer (some ⟨w.heap.size + 1, 0, none⟩), .pointer (some ⟨w.heap.size, 0, none⟩)]] W1 fun e w' => e = .returned (.int .i64 q) ∧ Below W1.heap.size W1 w' := sort_Search 1000 q hq (by omega) #[.pointer (some ⟨w.heap.size + 1, 0, none⟩), .pointer (some ⟨w.heap.size, 0, none⟩)] W1 (fun k v hk hv => by
    have h := CL.out (w.heap.size + 1) w.heap.size k v hk (b0 v hv) (a0 v hv)
    simpa using h)
  have CS := Lib.hid cs
  clear cs
  go_wp2_with (first | (go_at_call 44; (with_reducible refine CS.out.mono ?_); rintro e w1 ⟨rfl, hb1⟩; replace hbel := belStep hbel hb1; clear hb1))
  go_ret
  exact ⟨rfl, belStep hw hbel⟩

set_option maxHeartbeats 2000000 in
theorem qref_Thousandths (part whole : Int) (w : World) (hp : 0 ≤ part) (ip : InI part) (h1 : 1 ≤ whole) (iw : InI whole) :
    Calls Try.prog 34 #[.int .i64 part, .int .i64 whole] w fun e w' => e = .returned (.int .i64 (thouI part whole)) ∧ w = w' := by
  have bd := thouI_bd part whole hp h1
  obtain ⟨q, eq⟩ : ∃ q : Nat, thouI part whole = q := ⟨(thouI part whole).toNat, by omega⟩
  have hq : q ≤ 1000 := by omega
  have cmp : ∀ k : Nat, k ≤ 1000 → Calls Try.prog 47 #[.int .i64 k, .int .i64 whole, .int .i64 part, .int .i64 1000] w fun e w' => (∃ c : Int, e = .returned (.int .i64 c) ∧ (0 < c ↔ q < k)) ∧ w = w' := fun k hk => by
    have h := thouI_ge part whole k h1 (by omega)
    rw [eq] at h
    refine (wref_Compare k whole part 1000 w (by unfold InI; omega) iw ip (by unfold InI; omega)).mono ?_
    rintro e w' ⟨rfl, rfl⟩
    refine ⟨⟨_, rfl, ?_⟩, rfl⟩
    rw [show satNum (k : Int) = k by unfold satNum; omega, show satNum whole = whole by unfold satNum; omega, show satNum part = part by unfold satNum; omega, show satNum 1000 = 1000 from rfl, Int.mul_comm part 1000]
    rw [show ((q : Int) < (k : Int)) = (q < k) by simp] at h
    rw [h]
    generalize 1000 * part = X at *
    generalize (k : Int) * whole = Y at *
    unfold cmpI
    constructor
    · intro q; split at q <;> (try split at q) <;> omega
    · intro q; rw [if_neg (by omega), if_pos (by omega)]; omega
  rw [eq]
  have CM := Lib.hid cmp
  clear cmp eq bd hp ip h1 iw
  go_enter Try.func34, Try.ntmps34
  go_wp2
  go_loopw [5] (fun i wr => ∃ k : Nat, i = .int .i64 k ∧ q ≤ k ∧ k ≤ 1000 ∧ w = wr) (fun i _ => (intOf i).toNat)
  case atStart => exact ⟨1000, rfl, hq, Nat.le_refl _, rfl⟩
  case round =>
    obtain ⟨k, rfl, hk, hk2, rfl⟩ := hrel
    have key : k = 0 ∨ (0 < k ∧ k = q) ∨ (0 < k ∧ q < k) := by omega
    have HC := Lib.hid (CM.out k hk2)
    clear CM
    rcases key with rfl | ⟨k1, rfl⟩ | ⟨k1, k2⟩
    · obtain rfl : q = 0 := by omega
      go_wp2
      go_ret
      first | exact ⟨rfl, rfl⟩ | exact ⟨rfl, trivial⟩
    · go_wp2_with (first | (go_at_call 47; (with_reducible refine HC.out.mono ?_); rintro e w' ⟨⟨c, rfl, hc⟩, rfl⟩; have hc' : ¬ (0 < c) := by omega))
      go_ret
      first | exact ⟨rfl, rfl⟩ | exact ⟨rfl, trivial⟩
    · go_wp2_with (first | (go_at_call 47; (with_reducible refine HC.out.mono ?_); rintro e w' ⟨⟨c, rfl, hc⟩, rfl⟩; have hc' : 0 < c := by omega))
      go_roundw
      case rel => exact ⟨k - 1, by rw [Int.ofNat_sub (by omega)]; rfl, by omega, by omega, by first | rfl | trivial⟩
      case measure => simp [intOf] <;> omega
end Go.Proofs.Ytnfblpiapendeaa
