
/- bilgeref17.Whole: contract. -/
import Derived.Test.YtcgpmihjodolmaaSmp6
namespace Go.Proofs.Ytcgpmihjodolmaa
open Go.RowKit
set_option linter.unusedVariables false
set_option linter.unusedSimpArgs false
/-- The reference's reading of a number. -/
def wF (n : Nat) : Int := if kindF n = 1 then 0 else readF n
theorem wF_ok {n : Nat} (h : notNaN n = true) : wF n = readF n := by
  unfold notNaN at h
  have : ¬ kindF n = 1 := by simpa using h
  unfold wF; rw [if_neg this]
theorem ref_ReadW (n : Nat) (w : World) (hn : n < 18446744073709551616) : Calls Try.prog 31 #[.float .f64 n] w fun e w' => e = .returned (.tuple #[.int .i64 (wF n), .bool (notNaN n)]) ∧ w = w' := by
  have h := ref_Read n w hn
  unfold wF notNaN
  by_cases hk : kindF n = 1
  · simp only [if_pos hk] at h ⊢
    rw [hk]; exact h
  · simp only [if_neg hk] at h ⊢
    rw [show (kindF n == 1) = false from beq_eq_false_iff_ne.2 hk]; exact h
def whoS (X Y Z : Int) : Nat → List Value
  | 0 => [.int .i64 0, .int .i64 0, .int .i64 0]
  | 1 => [.int .i64 X, .int .i64 0, .int .i64 0]
  | 2 => [.int .i64 X, .int .i64 Y, .int .i64 0]
  | _ => [.int .i64 X, .int .i64 Y, .int .i64 Z]
def fl3 (x y z : Nat) : Nat → Nat
  | 0 => x
  | 1 => y
  | _ => z
theorem fl3_in {x y z : Nat} (hx : In64 x) (hy : In64 y) (hz : In64 z) (k : Nat) : fl3 x y z k < 18446744073709551616 := by
  unfold fl3; split <;> assumption
theorem all3_fl {x y z : Nat} : all3 x y z = (notNaN (fl3 x y z 0) && (notNaN (fl3 x y z 1) && notNaN (fl3 x y z 2))) := rfl
theorem all3_no {x y z k : Nat} (hk : k < 3) (h : notNaN (fl3 x y z k) = false) : all3 x y z = false := by
  rw [all3_fl]
  match k, hk with
  | 0, _ => rw [h]; rfl
  | 1, _ => rw [h]; simp
  | 2, _ => rw [h]; simp
theorem all3_yes {x y z : Nat} (h : ∀ j, j < 3 → notNaN (fl3 x y z j) = true) : all3 x y z = true := by
  rw [all3_fl, h 0 (by omega), h 1 (by omega), h 2 (by omega)]; rfl
theorem rightR_len {r : RawV} {L : List UsgV} (h : ¬ L.length ≤ 128) : rightR r L = false := by unfold rightR; rw [decide_eq_false h]; rfl
theorem rightR_av {r : RawV} {L : List UsgV} (h : all3 r.x r.y r.z = false) : rightR r L = false := by unfold rightR; rw [h]; simp
theorem rightR_row {r : RawV} {L : List UsgV} {i : Nat} (hi : i < L.length) (h : rowOk L i = false) : rightR r L = false := by
  unfold rightR
  rw [show (List.range L.length).all (rowOk L) = false by
    rw [List.all_eq_false]; exact ⟨i, by simpa using hi, by rw [h]; simp⟩]
  simp
theorem rightR_ok {r : RawV} {L : List UsgV} (h1 : L.length ≤ 128) (h2 : all3 r.x r.y r.z = true) (h3 : (List.range L.length).all (rowOk L) = true) : rightR r L = true := by
  unfold rightR; rw [decide_eq_true h1, h2, h3]; rfl
theorem rowOk_eq {L : List UsgV} {i : Nat} {x : UsgV} (h : L[i]? = some x) : rowOk L i = (all3 x.a x.b x.c && (!hasId (L.take i) x.id && nameB x.id)) := by
  unfold rowOk twinAt; rw [idAt_of h, getD_of h]
theorem range_all {L : List UsgV} {i : Nat} (h : (List.range i).all (rowOk L) = true) (hx : rowOk L i = true) : (List.range (i + 1)).all (rowOk L) = true := by
  rw [List.range_succ, List.all_append, h]; simp [hx]
theorem whole_ret (W : World) (R : Nat) (tm : Array Value) (a b c : Int) (Q : Ending → World → Prop) (h2 : tm.getD 2 undef = .pointer (some ⟨R, 0, none⟩)) (hb : Blk W R [.int .i64 a, .int .i64 b, .int .i64 c] 29) (hR : Q (.returned (.agg #[.int .i64 a, .int .i64 b, .int .i64 c])) W) :
    bodyPost Try.prog Try.f34 Q Exit.ret { tmps := tm, defers := [] } W := by
  have z0 := hb.cell (j := 0) rfl
  have z1 := hb.cell (j := 1) rfl
  have z2 := hb.cell (j := 2) rfl
  refine bodyPost_ret (v := .agg #[.int .i64 a, .int .i64 b, .int .i64 c]) ?_ rfl hR
  simp only [Array.getD_eq_getD_getElem?] at h2
  simp [results, Try.results34, go_sem, h2, z0, z1, z2]
set_option maxRecDepth 100000 in
set_option maxHeartbeats 16000000 in
theorem sref_Whole (x y z : Nat) (w : World) (hx : In64 x) (hy : In64 y) (hz : In64 z) :
    Calls Try.prog 34 #[.agg #[.float .f64 x, .float .f64 y, .float .f64 z]] w fun e w' => e = .returned (.agg #[.int .i64 (wF x), .int .i64 (wF y), .int .i64 (wF z)]) ∧ Below w.heap.size w w' := by
  have hw : Below w.heap.size w w := Below.refl _ _
  have hbel := hw
  have CR := Lib.hid (fun k u => ref_ReadW (fl3 x y z k) u (fl3_in hx hy hz k))
  clear hx hy hz
  go_enter Try.func34, Try.ntmps34
  go_upto_region 1 with fail
  have aa0 : ((w.alloc (.cells #[.float .f64 x, .float .f64 y, .float .f64 z] 23)).alloc (.cells #[.int .i64 0, .int .i64 0, .int .i64 0] 29)).cell? ⟨w.heap.size, 0, none⟩ = some (.float .f64 x) := by first | (simp; done) | (rw [World.cell?_alloc_at _ _ _ _ (by simp)]; rfl) | (rw [World.cell?_alloc_past _ _ _ (by simp <;> omega), World.cell?_alloc_at _ _ _ _ (by simp)]; rfl) | (rw [World.cell?_alloc_past _ _ _ (by simp <;> omega), World.cell?_alloc_past _ _ _ (by simp <;> omega), World.cell?_alloc_at _ _ _ _ (by simp)]; rfl)
  have aa1 : ((w.alloc (.cells #[.float .f64 x, .float .f64 y, .float .f64 z] 23)).alloc (.cells #[.int .i64 0, .int .i64 0, .int .i64 0] 29)).cell? ⟨w.heap.size, 1, none⟩ = some (.float .f64 y) := by first | (simp; done) | (rw [World.cell?_alloc_at _ _ _ _ (by simp)]; rfl) | (rw [World.cell?_alloc_past _ _ _ (by simp <;> omega), World.cell?_alloc_at _ _ _ _ (by simp)]; rfl) | (rw [World.cell?_alloc_past _ _ _ (by simp <;> omega), World.cell?_alloc_past _ _ _ (by simp <;> omega), World.cell?_alloc_at _ _ _ _ (by simp)]; rfl)
  have aa2 : ((w.alloc (.cells #[.float .f64 x, .float .f64 y, .float .f64 z] 23)).alloc (.cells #[.int .i64 0, .int .i64 0, .int .i64 0] 29)).cell? ⟨w.heap.size, 2, none⟩ = some (.float .f64 z) := by first | (simp; done) | (rw [World.cell?_alloc_at _ _ _ _ (by simp)]; rfl) | (rw [World.cell?_alloc_past _ _ _ (by simp <;> omega), World.cell?_alloc_at _ _ _ _ (by simp)]; rfl) | (rw [World.cell?_alloc_past _ _ _ (by simp <;> omega), World.cell?_alloc_past _ _ _ (by simp <;> omega), World.cell?_alloc_at _ _ _ _ (by simp)]; rfl)
  have rr0 : ((w.alloc (.cells #[.float .f64 x, .float .f64 y, .float .f64 z] 23)).alloc (.cells #[.int .i64 0, .int .i64 0, .int .i64 0] 29)).cell? ⟨w.heap.size + 1, 0, none⟩ = some (.int .i64 0) := by first | (simp; done) | (rw [World.cell?_alloc_at _ _ _ _ (by simp)]; rfl) | (rw [World.cell?_alloc_past _ _ _ (by simp <;> omega), World.cell?_alloc_at _ _ _ _ (by simp)]; rfl) | (rw [World.cell?_alloc_past _ _ _ (by simp <;> omega), World.cell?_alloc_past _ _ _ (by simp <;> omega), World.cell?_alloc_at _ _ _ _ (by simp)]; rfl)
  have rr1 : ((w.alloc (.cells #[.float .f64 x, .float .f64 y, .float .f64 z] 23)).alloc (.cells #[.int .i64 0, .int .i64 0, .int .i64 0] 29)).cell? ⟨w.heap.size + 1, 1, none⟩ = some (.int .i64 0) := by first | (simp; done) | (rw [World.cell?_alloc_at _ _ _ _ (by simp)]; rfl) | (rw [World.cell?_alloc_past _ _ _ (by simp <;> omega), World.cell?_alloc_at _ _ _ _ (by simp)]; rfl) | (rw [World.cell?_alloc_past _ _ _ (by simp <;> omega), World.cell?_alloc_past _ _ _ (by simp <;> omega), World.cell?_alloc_at _ _ _ _ (by simp)]; rfl)
  have rr2 : ((w.alloc (.cells #[.float .f64 x, .float .f64 y, .float .f64 z] 23)).alloc (.cells #[.int .i64 0, .int .i64 0, .int .i64 0] 29)).cell? ⟨w.heap.size + 1, 2, none⟩ = some (.int .i64 0) := by first | (simp; done) | (rw [World.cell?_alloc_at _ _ _ _ (by simp)]; rfl) | (rw [World.cell?_alloc_past _ _ _ (by simp <;> omega), World.cell?_alloc_at _ _ _ _ (by simp)]; rfl) | (rw [World.cell?_alloc_past _ _ _ (by simp <;> omega), World.cell?_alloc_past _ _ _ (by simp <;> omega), World.cell?_alloc_at _ _ _ _ (by simp)]; rfl)
  have hb2 := (by repeat (first | exact hbel | refine belAlloc ?_ _ | refine belDrew ?_ | refine belSet ?_ _ _ (by simp)) : Below w.heap.size w ((w.alloc (.cells #[.float .f64 x, .float .f64 y, .float .f64 z] 23)).alloc (.cells #[.int .i64 0, .int .i64 0, .int .i64 0] 29)))
  replace hw := belStep hw hb2
  have rrB : Blk ((w.alloc (.cells #[.float .f64 x, .float .f64 y, .float .f64 z] 23)).alloc (.cells #[.int .i64 0, .int .i64 0, .int .i64 0] 29)) (w.heap.size + 1) [.int .i64 0, .int .i64 0, .int .i64 0] 29 := (Blk.at (by simp) : Blk ((w.alloc (.cells #[.float .f64 x, .float .f64 y, .float .f64 z] 23)).alloc (.cells #[.int .i64 0, .int .i64 0, .int .i64 0] 29)) (w.heap.size + 1) [.int .i64 0, .int .i64 0, .int .i64 0] 29).later (by repeat (first | exact Below.refl _ _ | refine belAlloc ?_ _))
  have rrF := Blk.keepF rrB
  replace rrB := Blk.keepB rrB
  clear hb2 hbel
  generalize (w.alloc (.cells #[.float .f64 x, .float .f64 y, .float .f64 z] 23)).alloc (.cells #[.int .i64 0, .int .i64 0, .int .i64 0] 29) = W1 at *
  replace aa0 := keep aa0
  replace aa1 := keep aa1
  replace aa2 := keep aa2
  replace rr0 := keep rr0
  replace rr1 := keep rr1
  replace rr2 := keep rr2
  have hbel : Below W1.heap.size W1 W1 := Below.refl _ _
  skip
  have hz1 : w.heap.size + 1 < W1.heap.size := (rrB _ hbel).lt
  go_upto_region 2 with fail
  have hO : Blk (W1.alloc (.cells #[.int .i64 0, .int .i64 0, .int .i64 0] 29)) W1.heap.size (whoS (wF x) (wF y) (wF z) 0) 29 := Blk.new _ _ _
  replace hbel := belAlloc hbel (.cells #[.int .i64 0, .int .i64 0, .int .i64 0] 29)
  generalize W1.alloc (.cells #[.int .i64 0, .int .i64 0, .int .i64 0] 29) = W2 at *
  go_wp2
  go_loopw [4] (fun i wr => ∃ (k : Nat) (I : Int), I = k ∧ k ≤ 3 ∧ i = .int .i64 I ∧ Below W1.heap.size W1 wr ∧ Blk wr W1.heap.size (whoS (wF x) (wF y) (wF z) k) 29) (fun i _ => 3 - (intOf i).toNat)
  case atStart => exact ⟨0, 0, rfl, by omega, rfl, hbel, hO⟩
  case round =>
    obtain ⟨k, I, hI, hk, rfl, hbr, hB⟩ := hrel
    have key : k = 0 ∨ k = 1 ∨ k = 2 ∨ k = 3 := by omega
    clear hk hbel hO
    have hbel := hbr
    clear hbr
    rcases key with rfl | rfl | rfl | rfl
    · obtain rfl : I = 0 := hI
      have CR2 := Lib.hid (show ∀ u, Calls Try.prog 31 #[.float .f64 x] u fun e w' => e = .returned (.tuple #[.int .i64 (wF x), .bool (notNaN x)]) ∧ u = w' from CR.out 0)
      obtain ⟨v, hv⟩ : ∃ v, wF x = v := ⟨_, rfl⟩
      rw [hv] at CR2
      have HV := Lib.hid hv
      clear hv
      have yk := hB.cell (j := 0) rfl
      have yf := hB.frozen
      have HB := Lib.hid hB
      clear hB
      go_wp2_with (first | (go_at_call 31; (with_reducible refine (CR2.out _).mono ?_); rintro e w' ⟨rfl, rfl⟩))
      go_roundw
      case rel => exact ⟨1, 1, rfl, by omega, rfl, belSet hbel ⟨W1.heap.size, 0, none⟩ (.int .i64 v) (Nat.le_refl _), by have := HB.out.set 0 (.int .i64 v); rw [← HV.out] at this ⊢; exact this⟩
      case measure => simp [intOf]
    · obtain rfl : I = 1 := hI
      have CR2 := Lib.hid (show ∀ u, Calls Try.prog 31 #[.float .f64 y] u fun e w' => e = .returned (.tuple #[.int .i64 (wF y), .bool (notNaN y)]) ∧ u = w' from CR.out 1)
      obtain ⟨v, hv⟩ : ∃ v, wF y = v := ⟨_, rfl⟩
      rw [hv] at CR2
      have HV := Lib.hid hv
      clear hv
      have yk := hB.cell (j := 1) rfl
      have yf := hB.frozen
      have HB := Lib.hid hB
      clear hB
      go_wp2_with (first | (go_at_call 31; (with_reducible refine (CR2.out _).mono ?_); rintro e w' ⟨rfl, rfl⟩))
      go_roundw
      case rel => exact ⟨2, 2, rfl, by omega, rfl, belSet hbel ⟨W1.heap.size, 1, none⟩ (.int .i64 v) (Nat.le_refl _), by have := HB.out.set 1 (.int .i64 v); rw [← HV.out] at this ⊢; exact this⟩
      case measure => simp [intOf]
    · obtain rfl : I = 2 := hI
      have CR2 := Lib.hid (show ∀ u, Calls Try.prog 31 #[.float .f64 z] u fun e w' => e = .returned (.tuple #[.int .i64 (wF z), .bool (notNaN z)]) ∧ u = w' from CR.out 2)
      obtain ⟨v, hv⟩ : ∃ v, wF z = v := ⟨_, rfl⟩
      rw [hv] at CR2
      have HV := Lib.hid hv
      clear hv
      have yk := hB.cell (j := 2) rfl
      have yf := hB.frozen
      have HB := Lib.hid hB
      clear hB
      go_wp2_with (first | (go_at_call 31; (with_reducible refine (CR2.out _).mono ?_); rintro e w' ⟨rfl, rfl⟩))
      go_roundw
      case rel => exact ⟨3, 3, rfl, by omega, rfl, belSet hbel ⟨W1.heap.size, 2, none⟩ (.int .i64 v) (Nat.le_refl _), by have := HB.out.set 2 (.int .i64 v); rw [← HV.out] at this ⊢; exact this⟩
      case measure => simp [intOf]
    · obtain rfl : I = 3 := hI
      have y0 := hB.cell (j := 0) rfl
      have y1 := hB.cell (j := 1) rfl
      have y2 := hB.cell (j := 2) rfl
      clear hB
      go_wp2
      exact whole_ret _ _ _ (wF x) (wF y) (wF z) _ rfl ((((rrB _ hbel).set 0 _).set 1 _).set 2 _) ⟨rfl, by repeat (first | exact belStep hw hbel | refine belSet ?_ _ _ (by dsimp only; omega) | refine belAlloc ?_ _)⟩
end Go.Proofs.Ytcgpmihjodolmaa
