
/- bilgeref12.Cut: contract. -/
import Derived.Test.YtpmkhimmlpnbpaaPodCutMath
import Derived.Test.YtpmkhimmlpnbpaaPodCutTop
import Derived.Test.YtpmkhimmlpnbpaaPodPutRef
import Derived.Test.YtpmkhimmlpnbpaaKrip
namespace Go.Proofs.Ytpmkhimmlpnbpaa
open Go.RowKit
set_option linter.unusedVariables false
set_option linter.unusedSimpArgs false

def rres (l : List Int) : PodV × Nat := match rcut l with | some x => x | none => (zeroP, 0)
theorem rres_c {l : List Int} (h1 : ¬(l.length < 1 ∨ l.length < (el l 0).toNat + 2)) (h2 : ¬ l.length < 2 + (el l 0).toNat + (el l (1 + (el l 0).toNat)).toNat + 65) :
    rres l = match rfin l (el l 0).toNat (el l (1 + (el l 0).toNat)).toNat with | some x => x | none => (zeroP, 0) := by
  unfold rres rcut; rw [if_neg h1, if_neg h2]
theorem nAt_J (l : List Int) {q r J : Nat} (i : Nat) (h : 1 + q + 1 + r = J) {m : Nat} (hm : m = J + 8 * i) : nAt (l.drop (2 + q + r)) i = (l.drop m).take 8 := by
  unfold nAt; rw [List.drop_drop, show 2 + q + r + 8 * i = m by omega]
structure RpF (l : List Int) (q r J : Nat) (p : PodV) : Prop where
  id : strOfNums (l.tail.take q) = p.id
  img : strOfNums ((l.drop (1 + q + 1)).take r) = p.img
  size : rnum ((l.drop (1 + q + 1 + r + 8)).take 8) = p.size
  prio : rnum ((l.drop J).take 8) = p.prio + 1073741824
  crit : (el l (J + 64) == 1) = p.crit
  r0 : p.r0 = rnum ((l.drop (J + 16)).take 8)
  r1 : p.r1 = rnum ((l.drop (J + 16 + 8)).take 8)
  r2 : p.r2 = rnum ((l.drop (J + 16 + 16)).take 8)
  l0 : p.l0 = rnum ((l.drop (J + 40)).take 8)
  l1 : p.l1 = rnum ((l.drop (J + 40 + 8)).take 8)
  l2 : p.l2 = rnum ((l.drop (J + 40 + 16)).take 8)
theorem rpF {l : List Int} {q r J : Nat} {p : PodV} (hp : rpod l q r = p) (h : 1 + q + 1 + r = J) : RpF l q r J p := by
  subst hp
  refine ⟨?_, ?_, ?_, ?_, ?_, ?_, ?_, ?_, ?_, ?_, ?_⟩ <;> unfold rpod <;> dsimp only
  · rw [List.drop_one]
  · rw [show 1 + q + 1 = 2 + q by omega]
  · rw [nAt_J l 1 h (m := 1 + q + 1 + r + 8) (by omega)]
  · rw [nAt_J l 0 h (m := J) (by omega)]; omega
  · rw [show 2 + q + r + 64 = J + 64 by omega]
  · rw [nAt_J l 2 h (m := J + 16) (by omega)]
  · rw [nAt_J l 3 h (m := J + 16 + 8) (by omega)]
  · rw [nAt_J l 4 h (m := J + 16 + 16) (by omega)]
  · rw [nAt_J l 5 h (m := J + 40) (by omega)]
  · rw [nAt_J l 6 h (m := J + 40 + 8) (by omega)]
  · rw [nAt_J l 7 h (m := J + 40 + 16) (by omega)]
theorem rfin_no {l : List Int} {q r J : Nat} {p : PodV} (hp : rpod l q r = p) (h : 1 + q + 1 + r = J) (h1 : rnum ((l.drop J).take 8) < 0 ∨ 2147483648 < rnum ((l.drop J).take 8) ∨ 1 < el l (J + 64)) : rfin l q r = none := by
  unfold rfin
  rw [nAt_J l 0 h (m := J) (by omega), show 2 + q + r + 64 = J + 64 by omega, if_pos h1]
theorem rfin_yes {l : List Int} {q r J : Nat} {p : PodV} (hp : rpod l q r = p) (h : 1 + q + 1 + r = J) (h1 : ¬(rnum ((l.drop J).take 8) < 0 ∨ 2147483648 < rnum ((l.drop J).take 8) ∨ 1 < el l (J + 64))) : rfin l q r = if rightB p = true then some (p, J + 65) else none := by
  unfold rfin
  rw [nAt_J l 0 h (m := J) (by omega), show 2 + q + r + 64 = J + 64 by omega, if_neg h1, hp, show 2 + q + r + 65 = J + 65 by omega]
theorem rnum_bd {l : List Int} (hb : Bytes l) {m : Nat} (h : m + 8 ≤ l.length) : -1 ≤ rnum ((l.drop m).take 8) ∧ rnum ((l.drop m).take 8) ≤ 9223372036854775807 := by
  rw [rnum_eq ((hb.drop _).take _) (by rw [List.length_take, List.length_drop]; omega)]
  split <;> omega
theorem str_le (l : List Int) (n : Nat) (h : n ≤ 255) : (strOfNums (l.take n)).size ≤ maxLen := by
  rw [size_strOf, List.length_take]; unfold maxLen; omega
theorem rpF_ok {l : List Int} {q r J : Nat} {p : PodV} (hf : RpF l q r J p) (hb : Bytes l) (h : 1 + q + 1 + r = J) (hl : J + 65 ≤ l.length) (hq : q ≤ 255) (hr : r ≤ 255) : p.ok := by
  have a0 := rnum_bd hb (m := J) (by omega)
  have a1 := rnum_bd hb (m := 1 + q + 1 + r + 8) (by omega)
  have a2 := rnum_bd hb (m := J + 16) (by omega)
  have a3 := rnum_bd hb (m := J + 16 + 8) (by omega)
  have a4 := rnum_bd hb (m := J + 16 + 16) (by omega)
  have a5 := rnum_bd hb (m := J + 40) (by omega)
  have a6 := rnum_bd hb (m := J + 40 + 8) (by omega)
  have a7 := rnum_bd hb (m := J + 40 + 16) (by omega)
  rw [hf.prio] at a0
  rw [hf.size] at a1
  rw [← hf.r0] at a2
  rw [← hf.r1] at a3
  rw [← hf.r2] at a4
  rw [← hf.l0] at a5
  rw [← hf.l1] at a6
  rw [← hf.l2] at a7
  unfold PodV.ok InI
  refine ⟨hf.id ▸ str_le _ _ hq, hf.img ▸ str_le _ _ hr, ?_, ?_, ?_, ?_, ?_, ?_, ?_, ?_⟩ <;> constructor <;> omega
def rcC (p : PodV) (k : Nat) : List Value := [.string p.id, .int .i64 0, .bool false, .int .i64 (if 0 < k then p.r0 else 0), .int .i64 (if 1 < k then p.r1 else 0), .int .i64 (if 2 < k then p.r2 else 0), .int .i64 (if 0 < k then p.l0 else 0), .int .i64 (if 1 < k then p.l1 else 0), .int .i64 (if 2 < k then p.l2 else 0), .string p.img, .int .i64 p.size]
theorem rres_a {l : List Int} (h : l.length < 1 ∨ l.length < (el l 0).toNat + 2) : rres l = (zeroP, 0) := by unfold rres rcut; rw [if_pos h]
theorem rres_b {l : List Int} (h : l.length < 2 + (el l 0).toNat + (el l (1 + (el l 0).toNat)).toNat + 65) : rres l = (zeroP, 0) := by
  unfold rres rcut
  by_cases h1 : l.length < 1 ∨ l.length < (el l 0).toNat + 2
  · rw [if_pos h1]
  · rw [if_neg h1, if_pos h]
set_option maxHeartbeats 1000000 in
theorem rCut_ret (w W : World) (tm : Array Value) (n : Int) (p : PodV) (R : Ending → World → Prop) (h2 : tm.getD 2 undef = .pointer (some ⟨w.heap.size, 0, none⟩)) (h3 : tm.getD 3 undef = .int .i64 n) (hb : Blk W w.heap.size p.cells 44) (hR : R (.returned (.tuple #[p.v, .int .i64 n])) W) :
    bodyPost Try.prog Try.f41 R Exit.ret { tmps := tm, defers := [] } W := by
  have z0 := hb.cell (j := 0) rfl
  have z1 := hb.cell (j := 1) rfl
  have z2 := hb.cell (j := 2) rfl
  have z3 := hb.cell (j := 3) rfl
  have z4 := hb.cell (j := 4) rfl
  have z5 := hb.cell (j := 5) rfl
  have z6 := hb.cell (j := 6) rfl
  have z7 := hb.cell (j := 7) rfl
  have z8 := hb.cell (j := 8) rfl
  have z9 := hb.cell (j := 9) rfl
  have z10 := hb.cell (j := 10) rfl
  refine bodyPost_ret (v := .tuple #[p.v, .int .i64 n]) ?_ rfl hR
  simp only [Array.getD_eq_getD_getElem?] at h2 h3
  simp [results, Try.results41, go_sem, PodV.v, h2, h3, z0, z1, z2, z3, z4, z5, z6, z7, z8, z9, z10]

set_option maxRecDepth 100000 in
set_option maxHeartbeats 8000000 in
theorem pref_Cut (a : Option Addr) (len cap : Nat) (l : List Int) (w : World) (hl : Ints .u8 w a len cap l) (hlen : len ≤ 1000000) :
    Calls Try.prog 41 #[.slice a len cap] w fun e w' => e = .returned (.tuple #[(rres l).1.v, .int .i64 (rres l).2]) ∧ Below w.heap.size w w' := by
  have hw : Below w.heap.size w w := Below.refl _ _
  have hbel := hw
  have hby := bytes_of hl
  obtain ⟨hll, hb1, hb2⟩ := hl.bounds
  have hR1 := Blk.new w (podC ⟨#[]⟩ ⟨#[]⟩ []) 44
  have hR1' : Blk (w.alloc (.cells #[.string ⟨#[]⟩, .int .i64 0, .bool false, .int .i64 0, .int .i64 0, .int .i64 0, .int .i64 0, .int .i64 0, .int .i64 0, .string ⟨#[]⟩, .int .i64 0] 44)) w.heap.size (podC ⟨#[]⟩ ⟨#[]⟩ []) 44 := hR1
  clear hR1
  have HI := Lib.hid hl
  have HBY := Lib.hid hby
  have HLL := Lib.hid hll
  clear hl hby hll
  go_enter Try.func41, Try.ntmps41
  go_upto_region 1 with fail
  have z0 : (w.alloc (.cells #[.string ⟨#[]⟩, .int .i64 0, .bool false, .int .i64 0, .int .i64 0, .int .i64 0, .int .i64 0, .int .i64 0, .int .i64 0, .string ⟨#[]⟩, .int .i64 0] 44)).cell? ⟨w.heap.size, 0, none⟩ = some (.string ⟨#[]⟩) := by first | (simp; done) | (rw [World.cell?_alloc_at _ _ _ _ (by simp)]; rfl) | (rw [World.cell?_alloc_past _ _ _ (by simp <;> omega), World.cell?_alloc_at _ _ _ _ (by simp)]; rfl) | (rw [World.cell?_alloc_past _ _ _ (by simp <;> omega), World.cell?_alloc_past _ _ _ (by simp <;> omega), World.cell?_alloc_at _ _ _ _ (by simp)]; rfl)
  have z1 : (w.alloc (.cells #[.string ⟨#[]⟩, .int .i64 0, .bool false, .int .i64 0, .int .i64 0, .int .i64 0, .int .i64 0, .int .i64 0, .int .i64 0, .string ⟨#[]⟩, .int .i64 0] 44)).cell? ⟨w.heap.size, 1, none⟩ = some (.int .i64 0) := by first | (simp; done) | (rw [World.cell?_alloc_at _ _ _ _ (by simp)]; rfl) | (rw [World.cell?_alloc_past _ _ _ (by simp <;> omega), World.cell?_alloc_at _ _ _ _ (by simp)]; rfl) | (rw [World.cell?_alloc_past _ _ _ (by simp <;> omega), World.cell?_alloc_past _ _ _ (by simp <;> omega), World.cell?_alloc_at _ _ _ _ (by simp)]; rfl)
  have z2 : (w.alloc (.cells #[.string ⟨#[]⟩, .int .i64 0, .bool false, .int .i64 0, .int .i64 0, .int .i64 0, .int .i64 0, .int .i64 0, .int .i64 0, .string ⟨#[]⟩, .int .i64 0] 44)).cell? ⟨w.heap.size, 2, none⟩ = some (.bool false) := by first | (simp; done) | (rw [World.cell?_alloc_at _ _ _ _ (by simp)]; rfl) | (rw [World.cell?_alloc_past _ _ _ (by simp <;> omega), World.cell?_alloc_at _ _ _ _ (by simp)]; rfl) | (rw [World.cell?_alloc_past _ _ _ (by simp <;> omega), World.cell?_alloc_past _ _ _ (by simp <;> omega), World.cell?_alloc_at _ _ _ _ (by simp)]; rfl)
  have z3 : (w.alloc (.cells #[.string ⟨#[]⟩, .int .i64 0, .bool false, .int .i64 0, .int .i64 0, .int .i64 0, .int .i64 0, .int .i64 0, .int .i64 0, .string ⟨#[]⟩, .int .i64 0] 44)).cell? ⟨w.heap.size, 3, none⟩ = some (.int .i64 0) := by first | (simp; done) | (rw [World.cell?_alloc_at _ _ _ _ (by simp)]; rfl) | (rw [World.cell?_alloc_past _ _ _ (by simp <;> omega), World.cell?_alloc_at _ _ _ _ (by simp)]; rfl) | (rw [World.cell?_alloc_past _ _ _ (by simp <;> omega), World.cell?_alloc_past _ _ _ (by simp <;> omega), World.cell?_alloc_at _ _ _ _ (by simp)]; rfl)
  have z4 : (w.alloc (.cells #[.string ⟨#[]⟩, .int .i64 0, .bool false, .int .i64 0, .int .i64 0, .int .i64 0, .int .i64 0, .int .i64 0, .int .i64 0, .string ⟨#[]⟩, .int .i64 0] 44)).cell? ⟨w.heap.size, 4, none⟩ = some (.int .i64 0) := by first | (simp; done) | (rw [World.cell?_alloc_at _ _ _ _ (by simp)]; rfl) | (rw [World.cell?_alloc_past _ _ _ (by simp <;> omega), World.cell?_alloc_at _ _ _ _ (by simp)]; rfl) | (rw [World.cell?_alloc_past _ _ _ (by simp <;> omega), World.cell?_alloc_past _ _ _ (by simp <;> omega), World.cell?_alloc_at _ _ _ _ (by simp)]; rfl)
  have z5 : (w.alloc (.cells #[.string ⟨#[]⟩, .int .i64 0, .bool false, .int .i64 0, .int .i64 0, .int .i64 0, .int .i64 0, .int .i64 0, .int .i64 0, .string ⟨#[]⟩, .int .i64 0] 44)).cell? ⟨w.heap.size, 5, none⟩ = some (.int .i64 0) := by first | (simp; done) | (rw [World.cell?_alloc_at _ _ _ _ (by simp)]; rfl) | (rw [World.cell?_alloc_past _ _ _ (by simp <;> omega), World.cell?_alloc_at _ _ _ _ (by simp)]; rfl) | (rw [World.cell?_alloc_past _ _ _ (by simp <;> omega), World.cell?_alloc_past _ _ _ (by simp <;> omega), World.cell?_alloc_at _ _ _ _ (by simp)]; rfl)
  have z6 : (w.alloc (.cells #[.string ⟨#[]⟩, .int .i64 0, .bool false, .int .i64 0, .int .i64 0, .int .i64 0, .int .i64 0, .int .i64 0, .int .i64 0, .string ⟨#[]⟩, .int .i64 0] 44)).cell? ⟨w.heap.size, 6, none⟩ = some (.int .i64 0) := by first | (simp; done) | (rw [World.cell?_alloc_at _ _ _ _ (by simp)]; rfl) | (rw [World.cell?_alloc_past _ _ _ (by simp <;> omega), World.cell?_alloc_at _ _ _ _ (by simp)]; rfl) | (rw [World.cell?_alloc_past _ _ _ (by simp <;> omega), World.cell?_alloc_past _ _ _ (by simp <;> omega), World.cell?_alloc_at _ _ _ _ (by simp)]; rfl)
  have z7 : (w.alloc (.cells #[.string ⟨#[]⟩, .int .i64 0, .bool false, .int .i64 0, .int .i64 0, .int .i64 0, .int .i64 0, .int .i64 0, .int .i64 0, .string ⟨#[]⟩, .int .i64 0] 44)).cell? ⟨w.heap.size, 7, none⟩ = some (.int .i64 0) := by first | (simp; done) | (rw [World.cell?_alloc_at _ _ _ _ (by simp)]; rfl) | (rw [World.cell?_alloc_past _ _ _ (by simp <;> omega), World.cell?_alloc_at _ _ _ _ (by simp)]; rfl) | (rw [World.cell?_alloc_past _ _ _ (by simp <;> omega), World.cell?_alloc_past _ _ _ (by simp <;> omega), World.cell?_alloc_at _ _ _ _ (by simp)]; rfl)
  have z8 : (w.alloc (.cells #[.string ⟨#[]⟩, .int .i64 0, .bool false, .int .i64 0, .int .i64 0, .int .i64 0, .int .i64 0, .int .i64 0, .int .i64 0, .string ⟨#[]⟩, .int .i64 0] 44)).cell? ⟨w.heap.size, 8, none⟩ = some (.int .i64 0) := by first | (simp; done) | (rw [World.cell?_alloc_at _ _ _ _ (by simp)]; rfl) | (rw [World.cell?_alloc_past _ _ _ (by simp <;> omega), World.cell?_alloc_at _ _ _ _ (by simp)]; rfl) | (rw [World.cell?_alloc_past _ _ _ (by simp <;> omega), World.cell?_alloc_past _ _ _ (by simp <;> omega), World.cell?_alloc_at _ _ _ _ (by simp)]; rfl)
  have z9 : (w.alloc (.cells #[.string ⟨#[]⟩, .int .i64 0, .bool false, .int .i64 0, .int .i64 0, .int .i64 0, .int .i64 0, .int .i64 0, .int .i64 0, .string ⟨#[]⟩, .int .i64 0] 44)).cell? ⟨w.heap.size, 9, none⟩ = some (.string ⟨#[]⟩) := by first | (simp; done) | (rw [World.cell?_alloc_at _ _ _ _ (by simp)]; rfl) | (rw [World.cell?_alloc_past _ _ _ (by simp <;> omega), World.cell?_alloc_at _ _ _ _ (by simp)]; rfl) | (rw [World.cell?_alloc_past _ _ _ (by simp <;> omega), World.cell?_alloc_past _ _ _ (by simp <;> omega), World.cell?_alloc_at _ _ _ _ (by simp)]; rfl)
  have z10 : (w.alloc (.cells #[.string ⟨#[]⟩, .int .i64 0, .bool false, .int .i64 0, .int .i64 0, .int .i64 0, .int .i64 0, .int .i64 0, .int .i64 0, .string ⟨#[]⟩, .int .i64 0] 44)).cell? ⟨w.heap.size, 10, none⟩ = some (.int .i64 0) := by first | (simp; done) | (rw [World.cell?_alloc_at _ _ _ _ (by simp)]; rfl) | (rw [World.cell?_alloc_past _ _ _ (by simp <;> omega), World.cell?_alloc_at _ _ _ _ (by simp)]; rfl) | (rw [World.cell?_alloc_past _ _ _ (by simp <;> omega), World.cell?_alloc_past _ _ _ (by simp <;> omega), World.cell?_alloc_at _ _ _ _ (by simp)]; rfl)
  have hb2 := (by repeat (first | exact hbel | refine belAlloc ?_ _ | refine belDrew ?_ | refine belSet ?_ _ _ (by simp)) : Below w.heap.size w (w.alloc (.cells #[.string ⟨#[]⟩, .int .i64 0, .bool false, .int .i64 0, .int .i64 0, .int .i64 0, .int .i64 0, .int .i64 0, .int .i64 0, .string ⟨#[]⟩, .int .i64 0] 44)))
  replace hw := belStep hw hb2
  clear hb2 hbel
  generalize w.alloc (.cells #[.string ⟨#[]⟩, .int .i64 0, .bool false, .int .i64 0, .int .i64 0, .int .i64 0, .int .i64 0, .int .i64 0, .int .i64 0, .string ⟨#[]⟩, .int .i64 0] 44) = W1 at *
  replace z0 := keep z0
  replace z1 := keep z1
  replace z2 := keep z2
  replace z3 := keep z3
  replace z4 := keep z4
  replace z5 := keep z5
  replace z6 := keep z6
  replace z7 := keep z7
  replace z8 := keep z8
  replace z9 := keep z9
  replace z10 := keep z10
  have hbel : Below W1.heap.size W1 W1 := Below.refl _ _
  skip
  have zf := Blk.keepF hR1'
  have HR1 := Lib.hid hR1'
  have HW := Lib.hid hw
  clear hR1' hw
  by_cases h0 : len < 1
  · have HRES := Lib.hid (rres_a (l := l) (.inl (by rw [HLL.out]; exact h0)))
    obtain rfl : len = 0 := by omega
    go_wp2
    have hb10 := (belSet (belSet (belSet (belSet (belSet (belSet (belSet (belSet (belSet (belSet (belSet (HW.out) ⟨w.heap.size, 0, none⟩ (.string ⟨#[]⟩) (Nat.le_refl _)) ⟨w.heap.size, 1, none⟩ (.int .i64 0) (Nat.le_refl _)) ⟨w.heap.size, 2, none⟩ (.bool false) (Nat.le_refl _)) ⟨w.heap.size, 3, none⟩ (.int .i64 0) (Nat.le_refl _)) ⟨w.heap.size, 4, none⟩ (.int .i64 0) (Nat.le_refl _)) ⟨w.heap.size, 5, none⟩ (.int .i64 0) (Nat.le_refl _)) ⟨w.heap.size, 6, none⟩ (.int .i64 0) (Nat.le_refl _)) ⟨w.heap.size, 7, none⟩ (.int .i64 0) (Nat.le_refl _)) ⟨w.heap.size, 8, none⟩ (.int .i64 0) (Nat.le_refl _)) ⟨w.heap.size, 9, none⟩ (.string ⟨#[]⟩) (Nat.le_refl _)) ⟨w.heap.size, 10, none⟩ (.int .i64 0) (Nat.le_refl _))
    have hR10 := ((((((((((((HR1.out).set 0 (.string ⟨#[]⟩)).set 1 (.int .i64 0)).set 2 (.bool false)).set 3 (.int .i64 0)).set 4 (.int .i64 0)).set 5 (.int .i64 0)).set 6 (.int .i64 0)).set 7 (.int .i64 0)).set 8 (.int .i64 0)).set 9 (.string ⟨#[]⟩)).set 10 (.int .i64 0))
    clear z0 z1 z2 z3 z4 z5 z6 z7 z8 z9 z10 zf
    generalize ((((((((((((W1).setCell ⟨w.heap.size, 0, none⟩ (.string ⟨#[]⟩)).setCell ⟨w.heap.size, 1, none⟩ (.int .i64 0)).setCell ⟨w.heap.size, 2, none⟩ (.bool false)).setCell ⟨w.heap.size, 3, none⟩ (.int .i64 0)).setCell ⟨w.heap.size, 4, none⟩ (.int .i64 0)).setCell ⟨w.heap.size, 5, none⟩ (.int .i64 0)).setCell ⟨w.heap.size, 6, none⟩ (.int .i64 0)).setCell ⟨w.heap.size, 7, none⟩ (.int .i64 0)).setCell ⟨w.heap.size, 8, none⟩ (.int .i64 0)).setCell ⟨w.heap.size, 9, none⟩ (.string ⟨#[]⟩)).setCell ⟨w.heap.size, 10, none⟩ (.int .i64 0)) = W10 at hb10 hR10 ⊢
    exact rCut_ret w W10 _ 0 zeroP _ rfl rfl hR10 ⟨by rw [HRES.out]; rfl, hb10⟩
  obtain ⟨g, off, rfl, _, hcell⟩ := HI.out.opened (by omega)
  obtain ⟨q, hq⟩ : ∃ q : Nat, el l 0 = q := ⟨(el l 0).toNat, by have := HBY.out _ (el_mem (l := l) (i := 0) (by rw [HLL.out]; omega)); omega⟩
  have x0 := keep (cell_later (HW.out) (hcell 0 (by omega)))
  rw [hq, Nat.add_zero] at x0
  have hq2 : q ≤ 255 := by have := HBY.out _ (el_mem (l := l) (i := 0) (by rw [HLL.out]; omega)); omega
  have HQ := Lib.hid hq
  have HCE := Lib.hid (fun k (hk : k < len) => keep (cell_later HW.out (hcell k hk)))
  clear hcell hq
  by_cases h1 : len < q + 2
  · have HRES := Lib.hid (rres_a (l := l) (.inr (by rw [HLL.out, HQ.out]; omega)))
    go_wp2
    have hb10 := (belSet (belSet (belSet (belSet (belSet (belSet (belSet (belSet (belSet (belSet (belSet (HW.out) ⟨w.heap.size, 0, none⟩ (.string ⟨#[]⟩) (Nat.le_refl _)) ⟨w.heap.size, 1, none⟩ (.int .i64 0) (Nat.le_refl _)) ⟨w.heap.size, 2, none⟩ (.bool false) (Nat.le_refl _)) ⟨w.heap.size, 3, none⟩ (.int .i64 0) (Nat.le_refl _)) ⟨w.heap.size, 4, none⟩ (.int .i64 0) (Nat.le_refl _)) ⟨w.heap.size, 5, none⟩ (.int .i64 0) (Nat.le_refl _)) ⟨w.heap.size, 6, none⟩ (.int .i64 0) (Nat.le_refl _)) ⟨w.heap.size, 7, none⟩ (.int .i64 0) (Nat.le_refl _)) ⟨w.heap.size, 8, none⟩ (.int .i64 0) (Nat.le_refl _)) ⟨w.heap.size, 9, none⟩ (.string ⟨#[]⟩) (Nat.le_refl _)) ⟨w.heap.size, 10, none⟩ (.int .i64 0) (Nat.le_refl _))
    have hR10 := ((((((((((((HR1.out).set 0 (.string ⟨#[]⟩)).set 1 (.int .i64 0)).set 2 (.bool false)).set 3 (.int .i64 0)).set 4 (.int .i64 0)).set 5 (.int .i64 0)).set 6 (.int .i64 0)).set 7 (.int .i64 0)).set 8 (.int .i64 0)).set 9 (.string ⟨#[]⟩)).set 10 (.int .i64 0))
    clear z0 z1 z2 z3 z4 z5 z6 z7 z8 z9 z10 zf
    generalize ((((((((((((W1).setCell ⟨w.heap.size, 0, none⟩ (.string ⟨#[]⟩)).setCell ⟨w.heap.size, 1, none⟩ (.int .i64 0)).setCell ⟨w.heap.size, 2, none⟩ (.bool false)).setCell ⟨w.heap.size, 3, none⟩ (.int .i64 0)).setCell ⟨w.heap.size, 4, none⟩ (.int .i64 0)).setCell ⟨w.heap.size, 5, none⟩ (.int .i64 0)).setCell ⟨w.heap.size, 6, none⟩ (.int .i64 0)).setCell ⟨w.heap.size, 7, none⟩ (.int .i64 0)).setCell ⟨w.heap.size, 8, none⟩ (.int .i64 0)).setCell ⟨w.heap.size, 9, none⟩ (.string ⟨#[]⟩)).setCell ⟨w.heap.size, 10, none⟩ (.int .i64 0)) = W10 at hb10 hR10 ⊢
    exact rCut_ret w W10 _ 0 zeroP _ rfl rfl hR10 ⟨by rw [HRES.out]; rfl, hb10⟩
  obtain ⟨r, hr⟩ : ∃ r : Nat, el l (1 + q) = r := ⟨(el l (1 + q)).toNat, by have := HBY.out _ (el_mem (l := l) (i := 1 + q) (by rw [HLL.out]; omega)); omega⟩
  have x1 := HCE.out (1 + q) (by omega)
  rw [hr] at x1
  have hr2 : r ≤ 255 := by have := HBY.out _ (el_mem (l := l) (i := 1 + q) (by rw [HLL.out]; omega)); omega
  have HRR := Lib.hid hr
  clear hr
  by_cases h2 : len < 2 + q + r + 65
  · have HRES := Lib.hid (rres_b (l := l) (by rw [HLL.out, HQ.out, Int.toNat_natCast, HRR.out, Int.toNat_natCast]; omega))
    go_wp2
    have hb10 := (belSet (belSet (belSet (belSet (belSet (belSet (belSet (belSet (belSet (belSet (belSet (HW.out) ⟨w.heap.size, 0, none⟩ (.string ⟨#[]⟩) (Nat.le_refl _)) ⟨w.heap.size, 1, none⟩ (.int .i64 0) (Nat.le_refl _)) ⟨w.heap.size, 2, none⟩ (.bool false) (Nat.le_refl _)) ⟨w.heap.size, 3, none⟩ (.int .i64 0) (Nat.le_refl _)) ⟨w.heap.size, 4, none⟩ (.int .i64 0) (Nat.le_refl _)) ⟨w.heap.size, 5, none⟩ (.int .i64 0) (Nat.le_refl _)) ⟨w.heap.size, 6, none⟩ (.int .i64 0) (Nat.le_refl _)) ⟨w.heap.size, 7, none⟩ (.int .i64 0) (Nat.le_refl _)) ⟨w.heap.size, 8, none⟩ (.int .i64 0) (Nat.le_refl _)) ⟨w.heap.size, 9, none⟩ (.string ⟨#[]⟩) (Nat.le_refl _)) ⟨w.heap.size, 10, none⟩ (.int .i64 0) (Nat.le_refl _))
    have hR10 := ((((((((((((HR1.out).set 0 (.string ⟨#[]⟩)).set 1 (.int .i64 0)).set 2 (.bool false)).set 3 (.int .i64 0)).set 4 (.int .i64 0)).set 5 (.int .i64 0)).set 6 (.int .i64 0)).set 7 (.int .i64 0)).set 8 (.int .i64 0)).set 9 (.string ⟨#[]⟩)).set 10 (.int .i64 0))
    clear z0 z1 z2 z3 z4 z5 z6 z7 z8 z9 z10 zf
    generalize ((((((((((((W1).setCell ⟨w.heap.size, 0, none⟩ (.string ⟨#[]⟩)).setCell ⟨w.heap.size, 1, none⟩ (.int .i64 0)).setCell ⟨w.heap.size, 2, none⟩ (.bool false)).setCell ⟨w.heap.size, 3, none⟩ (.int .i64 0)).setCell ⟨w.heap.size, 4, none⟩ (.int .i64 0)).setCell ⟨w.heap.size, 5, none⟩ (.int .i64 0)).setCell ⟨w.heap.size, 6, none⟩ (.int .i64 0)).setCell ⟨w.heap.size, 7, none⟩ (.int .i64 0)).setCell ⟨w.heap.size, 8, none⟩ (.int .i64 0)).setCell ⟨w.heap.size, 9, none⟩ (.string ⟨#[]⟩)).setCell ⟨w.heap.size, 10, none⟩ (.int .i64 0)) = W10 at hb10 hR10 ⊢
    exact rCut_ret w W10 _ 0 zeroP _ rfl rfl hR10 ⟨by rw [HRES.out]; rfl, hb10⟩
  go_upto_region 7 with fail
  have HIK := Lib.hid (fun u (hu : Below W1.heap.size W1 u) => HI.out.later (HW.out.trans (hu.mono HW.out.size)))
  have m1 : (1 + (q : Int)) ≤ cap := by omega
  have m2 : 1 + (q : Int) + 1 + r ≤ cap := by omega
  have m3 : 1 + (q : Int) + 1 + r + 16 ≤ cap := by omega
  have n1 : ¬ cap = 1 := by omega
  have n2 : ¬ cap = 1 + q + 1 := by omega
  have n3 : ¬ cap = 1 + q + 1 + r + 8 := by omega
  have t1 : (0 : Int) ≤ 1 + (q : Int) := by omega
  have t1m : (1 : Int) ≤ max (1 + (q : Int)) 0 := by omega
  have t2 : (0 : Int) ≤ 1 + (q : Int) + 1 + r := by omega
  have t2m : 1 + (q : Int) + 1 ≤ max (1 + (q : Int) + 1 + r) 0 := by omega
  have t2o : (0 : Int) ≤ 1 + (q : Int) + 1 := by omega
  have t3 : (0 : Int) ≤ 1 + (q : Int) + 1 + r + 16 := by omega
  have t3m : 1 + (q : Int) + 1 + r + 8 ≤ max (1 + (q : Int) + 1 + r + 16) 0 := by omega
  have t3o : (0 : Int) ≤ 1 + (q : Int) + 1 + r + 8 := by omega
  have t1l : (1 : Int) ≤ 1 + (q : Int) := by omega
  have t2l : 1 + (q : Int) + 1 ≤ 1 + (q : Int) + 1 + r := by omega
  have t3l : 1 + (q : Int) + 1 + r + 8 ≤ 1 + (q : Int) + 1 + r + 16 := by omega
  have e1 : (1 + (q : Int)).toNat = 1 + q := by omega
  have e2 : (1 + (q : Int) + 1 + r).toNat = 1 + q + 1 + r := by omega
  have e2o : (1 + (q : Int) + 1).toNat = 1 + q + 1 := by omega
  have e3 : (1 + (q : Int) + 1 + r + 16).toNat = 1 + q + 1 + r + 16 := by omega
  have e3o : (1 + (q : Int) + 1 + r + 8).toNat = 1 + q + 1 + r + 8 := by omega
  have u1 : IntKind.i64.wrap (1 + (q : Int) + 1) = 1 + (q : Int) + 1 := IntWalk.i64_in _ (by omega)
  have u2 : IntKind.i64.wrap (1 + (q : Int) + 1 + r + 8) = 1 + (q : Int) + 1 + r + 8 := IntWalk.i64_in _ (by omega)
  have u3 : IntKind.i64.wrap (1 + (q : Int) + 1 + r + 16) = 1 + (q : Int) + 1 + r + 16 := IntWalk.i64_in _ (by omega)
  refine wp_region_held_drew (S := fun u => Below W1.heap.size W1 u ∧ Ints .u8 u (some ⟨g, off, none⟩) len cap l) (by kernel_rfl) (by exact ⟨(by repeat (first | assumption | exact (show Below W1.heap.size W1 _ from And.left hHeld) | exact Below.refl _ _ | refine belDrew ?_ | refine belAlloc ?_ _ | refine belStep ?_ (by assumption))), HIK.out _ (by repeat (first | assumption | exact (show Below W1.heap.size W1 _ from And.left hHeld) | exact Below.refl _ _ | refine belDrew ?_ | refine belAlloc ?_ _ | refine belStep ?_ (by assumption)))⟩) (fun hHeld => ?_)
  refine wpAnyH_take (i := 0) (oi := ?oi_k1) (v := ?v_k1) ?hi_k1 (by kernel_rfl) ?hf_k1 ?hr_k1 ?hQ_k1 (Or.inl ⟨?hw_k1, ?hy_k1⟩) (by assumption) ?rest_k1
  case hi_k1 => ((simp only [List.getElem?_toArray, List.getElem?_cons_succ, List.getElem?_cons_zero]); rfl)
  case hf_k1 => kernel_rfl
  case hr_k1 => kernel_rfl
  case hQ_k1 => exact fun _ _ _ h => h
  case hw_k1 => rfl
  case hy_k1 => ((intro w hSw; (try dsimp only at hSw); go_simp); all_goals (with_reducible rfl))
  try simp only [Act.put, List.setIfInBounds_toArray, List.set_cons_zero, List.set_cons_succ]
  refine wpAnyH_take (i := 1) (oi := ?oi_k2) (v := ?v_k2) ?hi_k2 (by kernel_rfl) ?hf_k2 ?hr_k2 ?hQ_k2 (Or.inl ⟨?hw_k2, ?hy_k2⟩) (by assumption) ?rest_k2
  case hi_k2 => ((simp only [List.getElem?_toArray, List.getElem?_cons_succ, List.getElem?_cons_zero]); rfl)
  case hf_k2 => kernel_rfl
  case hr_k2 => kernel_rfl
  case hQ_k2 => exact fun _ _ _ h => h
  case hw_k2 => rfl
  case hy_k2 => ((intro w hSw; (try dsimp only at hSw); go_simp); all_goals (with_reducible rfl))
  try simp only [Act.put, List.setIfInBounds_toArray, List.set_cons_zero, List.set_cons_succ]
  refine wpAnyH_take (i := 2) (oi := ?oi_k3) (v := ?v_k3) ?hi_k3 (by kernel_rfl) ?hf_k3 ?hr_k3 ?hQ_k3 (Or.inl ⟨?hw_k3, ?hy_k3⟩) (by assumption) ?rest_k3
  case hi_k3 => ((simp only [List.getElem?_toArray, List.getElem?_cons_succ, List.getElem?_cons_zero]); rfl)
  case hf_k3 => kernel_rfl
  case hr_k3 => kernel_rfl
  case hQ_k3 => exact fun _ _ _ h => h
  case hw_k3 => rfl
  case hy_k3 => ((intro w hSw; (try dsimp only at hSw); go_simp); all_goals (with_reducible rfl))
  try simp only [Act.put, List.setIfInBounds_toArray, List.set_cons_zero, List.set_cons_succ]
  refine wpAnyH_take (i := 3) (oi := ?oi_k4) (v := ?v_k4) ?hi_k4 (by kernel_rfl) ?hf_k4 ?hr_k4 ?hQ_k4 (Or.inl ⟨?hw_k4, ?hy_k4⟩) (by assumption) ?rest_k4
  case hi_k4 => ((simp only [List.getElem?_toArray, List.getElem?_cons_succ, List.getElem?_cons_zero]); rfl)
  case hf_k4 => kernel_rfl
  case hr_k4 => kernel_rfl
  case hQ_k4 => exact fun _ _ _ h => h
  case hw_k4 => rfl
  case hy_k4 => ((intro w hSw; (try dsimp only at hSw); have hcv := conv_str ((Ints.drop (And.right hSw) (n := 1) (by omega)).take (n := q) (by omega) (by simp)); go_simp); all_goals (with_reducible rfl))
  try simp only [Act.put, List.setIfInBounds_toArray, List.set_cons_zero, List.set_cons_succ]
  refine wpAnyH_take (i := 4) (oi := ?oi_k5) (v := ?v_k5) ?hi_k5 (by kernel_rfl) ?hf_k5 ?hr_k5 ?hQ_k5 (Or.inl ⟨?hw_k5, ?hy_k5⟩) (by assumption) ?rest_k5
  case hi_k5 => ((simp only [List.getElem?_toArray, List.getElem?_cons_succ, List.getElem?_cons_zero]); rfl)
  case hf_k5 => kernel_rfl
  case hr_k5 => kernel_rfl
  case hQ_k5 => exact fun _ _ _ h => h
  case hw_k5 => rfl
  case hy_k5 => ((intro w hSw; (try dsimp only at hSw); go_simp); all_goals (with_reducible rfl))
  try simp only [Act.put, List.setIfInBounds_toArray, List.set_cons_zero, List.set_cons_succ]
  refine wpAnyH_take (i := 5) (oi := ?oi_k6) (v := ?v_k6) ?hi_k6 (by kernel_rfl) ?hf_k6 ?hr_k6 ?hQ_k6 (Or.inl ⟨?hw_k6, ?hy_k6⟩) (by assumption) ?rest_k6
  case hi_k6 => ((simp only [List.getElem?_toArray, List.getElem?_cons_succ, List.getElem?_cons_zero]); rfl)
  case hf_k6 => kernel_rfl
  case hr_k6 => kernel_rfl
  case hQ_k6 => exact fun _ _ _ h => h
  case hw_k6 => rfl
  case hy_k6 => ((intro w hSw; (try dsimp only at hSw); go_simp); all_goals (with_reducible rfl))
  try simp only [Act.put, List.setIfInBounds_toArray, List.set_cons_zero, List.set_cons_succ]
  refine wpAnyH_take (i := 6) (oi := ?oi_k7) (v := ?v_k7) ?hi_k7 (by kernel_rfl) ?hf_k7 ?hr_k7 ?hQ_k7 (Or.inl ⟨?hw_k7, ?hy_k7⟩) (by assumption) ?rest_k7
  case hi_k7 => ((simp only [List.getElem?_toArray, List.getElem?_cons_succ, List.getElem?_cons_zero]); rfl)
  case hf_k7 => kernel_rfl
  case hr_k7 => kernel_rfl
  case hQ_k7 => exact fun _ _ _ h => h
  case hw_k7 => rfl
  case hy_k7 => ((intro w hSw; (try dsimp only at hSw); go_simp); all_goals (with_reducible rfl))
  try simp only [Act.put, List.setIfInBounds_toArray, List.set_cons_zero, List.set_cons_succ]
  refine wpAnyH_take (i := 7) (oi := ?oi_k8) (v := ?v_k8) ?hi_k8 (by kernel_rfl) ?hf_k8 ?hr_k8 ?hQ_k8 (Or.inl ⟨?hw_k8, ?hy_k8⟩) (by assumption) ?rest_k8
  case hi_k8 => ((simp only [List.getElem?_toArray, List.getElem?_cons_succ, List.getElem?_cons_zero]); rfl)
  case hf_k8 => kernel_rfl
  case hr_k8 => kernel_rfl
  case hQ_k8 => exact fun _ _ _ h => h
  case hw_k8 => rfl
  case hy_k8 => ((intro w hSw; (try dsimp only at hSw); go_simp); all_goals (with_reducible rfl))
  try simp only [Act.put, List.setIfInBounds_toArray, List.set_cons_zero, List.set_cons_succ]
  refine wpAnyH_take (i := 8) (oi := ?oi_k9) (v := ?v_k9) ?hi_k9 (by kernel_rfl) ?hf_k9 ?hr_k9 ?hQ_k9 (Or.inl ⟨?hw_k9, ?hy_k9⟩) (by assumption) ?rest_k9
  case hi_k9 => ((simp only [List.getElem?_toArray, List.getElem?_cons_succ, List.getElem?_cons_zero]); rfl)
  case hf_k9 => kernel_rfl
  case hr_k9 => kernel_rfl
  case hQ_k9 => exact fun _ _ _ h => h
  case hw_k9 => rfl
  case hy_k9 => ((intro w hSw; (try dsimp only at hSw); go_simp); all_goals (with_reducible rfl))
  try simp only [Act.put, List.setIfInBounds_toArray, List.set_cons_zero, List.set_cons_succ]
  refine wpAnyH_take (i := 9) (oi := ?oi_k10) (v := ?v_k10) ?hi_k10 (by kernel_rfl) ?hf_k10 ?hr_k10 ?hQ_k10 (Or.inl ⟨?hw_k10, ?hy_k10⟩) (by assumption) ?rest_k10
  case hi_k10 => ((simp only [List.getElem?_toArray, List.getElem?_cons_succ, List.getElem?_cons_zero]); rfl)
  case hf_k10 => kernel_rfl
  case hr_k10 => kernel_rfl
  case hQ_k10 => exact fun _ _ _ h => h
  case hw_k10 => rfl
  case hy_k10 => ((intro w hSw; (try dsimp only at hSw); have hcv := conv_str ((Ints.drop (And.right hSw) (n := 1 + q + 1) (by omega)).take (n := r) (by omega) (by simp)); go_simp); all_goals (with_reducible rfl))
  try simp only [Act.put, List.setIfInBounds_toArray, List.set_cons_zero, List.set_cons_succ]
  refine wpAnyH_take (i := 10) (oi := ?oi_k11) (v := ?v_k11) ?hi_k11 (by kernel_rfl) ?hf_k11 ?hr_k11 ?hQ_k11 (Or.inl ⟨?hw_k11, ?hy_k11⟩) (by assumption) ?rest_k11
  case hi_k11 => ((simp only [List.getElem?_toArray, List.getElem?_cons_succ, List.getElem?_cons_zero]); rfl)
  case hf_k11 => kernel_rfl
  case hr_k11 => kernel_rfl
  case hQ_k11 => exact fun _ _ _ h => h
  case hw_k11 => rfl
  case hy_k11 => ((intro w hSw; (try dsimp only at hSw); go_simp); all_goals (with_reducible rfl))
  try simp only [Act.put, List.setIfInBounds_toArray, List.set_cons_zero, List.set_cons_succ]
  refine wpAnyH_take (i := 11) (oi := ?oi_k12) (v := ?v_k12) ?hi_k12 (by kernel_rfl) ?hf_k12 ?hr_k12 ?hQ_k12 (Or.inl ⟨?hw_k12, ?hy_k12⟩) (by assumption) ?rest_k12
  case hi_k12 => ((simp only [List.getElem?_toArray, List.getElem?_cons_succ, List.getElem?_cons_zero]); rfl)
  case hf_k12 => kernel_rfl
  case hr_k12 => kernel_rfl
  case hQ_k12 => exact fun _ _ _ h => h
  case hw_k12 => rfl
  case hy_k12 => ((intro w hSw; (try dsimp only at hSw); go_simp); all_goals (with_reducible rfl))
  try simp only [Act.put, List.setIfInBounds_toArray, List.set_cons_zero, List.set_cons_succ]
  refine wpAnyH_take (i := 12) (oi := ?oi_k13) (v := ?v_k13) ?hi_k13 (by kernel_rfl) ?hf_k13 ?hr_k13 ?hQ_k13 (Or.inl ⟨?hw_k13, ?hy_k13⟩) (by assumption) ?rest_k13
  case hi_k13 => ((simp only [List.getElem?_toArray, List.getElem?_cons_succ, List.getElem?_cons_zero]); rfl)
  case hf_k13 => kernel_rfl
  case hr_k13 => kernel_rfl
  case hQ_k13 => exact fun _ _ _ h => h
  case hw_k13 => rfl
  case hy_k13 => ((intro w hSw; (try dsimp only at hSw); go_simp); all_goals (with_reducible rfl))
  try simp only [Act.put, List.setIfInBounds_toArray, List.set_cons_zero, List.set_cons_succ]
  refine wpAnyH_take (i := 13) (oi := ?oi_k14) (v := ?v_k14) ?hi_k14 (by kernel_rfl) ?hf_k14 ?hr_k14 ?hQ_k14 (Or.inl ⟨?hw_k14, ?hy_k14⟩) (by assumption) ?rest_k14
  case hi_k14 => ((simp only [List.getElem?_toArray, List.getElem?_cons_succ, List.getElem?_cons_zero]); rfl)
  case hf_k14 => kernel_rfl
  case hr_k14 => kernel_rfl
  case hQ_k14 => exact fun _ _ _ h => h
  case hw_k14 => rfl
  case hy_k14 => ((intro w hSw; (try dsimp only at hSw); go_simp); all_goals (with_reducible rfl))
  try simp only [Act.put, List.setIfInBounds_toArray, List.set_cons_zero, List.set_cons_succ]
  refine wpAnyH_take (i := 14) (oi := ?oi_k15) (v := ?v_k15) ?hi_k15 (by kernel_rfl) ?hf_k15 ?hr_k15 ?hQ_k15 (Or.inl ⟨?hw_k15, ?hy_k15⟩) (by assumption) ?rest_k15
  case hi_k15 => ((simp only [List.getElem?_toArray, List.getElem?_cons_succ, List.getElem?_cons_zero]); rfl)
  case hf_k15 => kernel_rfl
  case hr_k15 => kernel_rfl
  case hQ_k15 => exact fun _ _ _ h => h
  case hw_k15 => rfl
  case hy_k15 => ((intro w hSw; (try dsimp only at hSw); go_simp); all_goals (with_reducible rfl))
  try simp only [Act.put, List.setIfInBounds_toArray, List.set_cons_zero, List.set_cons_succ]
  refine wpAnyH_take (i := 15) (oi := ?oi_k16) (v := ?v_k16) ?hi_k16 (by kernel_rfl) ?hf_k16 ?hr_k16 ?hQ_k16 (Or.inl ⟨?hw_k16, ?hy_k16⟩) (by assumption) ?rest_k16
  case hi_k16 => ((simp only [List.getElem?_toArray, List.getElem?_cons_succ, List.getElem?_cons_zero]); rfl)
  case hf_k16 => kernel_rfl
  case hr_k16 => kernel_rfl
  case hQ_k16 => exact fun _ _ _ h => h
  case hw_k16 => rfl
  case hy_k16 => ((intro w hSw; (try dsimp only at hSw); go_simp); all_goals (with_reducible rfl))
  try simp only [Act.put, List.setIfInBounds_toArray, List.set_cons_zero, List.set_cons_succ]
  refine krip (fun u u' => Below u.heap.size u u') [58, 59, 6] [[], [], [], [], [], [], [], [], [], [], [], [], [], [], [], [], [], [16], [], [16, 17, 18]] [[], [], [], [], [], [], [], [], [], [], [], [], [], [], [], [], [58], [59], [6], []] [16, 17, 18] (krF [(16, fun t u => t 58 = .int .i64 (rnum ((l.drop (1 + q + 1 + r + 8)).take 8))), (17, fun t u => t 59 = .agg #[.string (strOfNums (l.tail.take q)), .int .i64 0, .bool false, .int .i64 0, .int .i64 0, .int .i64 0, .int .i64 0, .int .i64 0, .int .i64 0, .string (strOfNums ((l.drop (1 + q + 1)).take r)), .int .i64 (rnum ((l.drop (1 + q + 1 + r + 8)).take 8))]), (18, fun t u => ∃ P : Nat, t 6 = .pointer (some ⟨P, 0, none⟩) ∧ Blk u P (podC ⟨#[]⟩ ⟨#[]⟩ []) 44 ∧ W1.heap.size ≤ P)]) 1 #[true, true, true, true, true, true, true, true, true, true, true, true, true, true, true, true, true, true, true, false] (by kernel_rfl) (by kernel_rfl) (by kernel_rfl) (by assumption) (AllL.cons ?s_16_q17 (AllL.cons ?s_17_q17 (AllL.cons ?s_18_q17 AllL.nil))) (AllL.cons ?o_16_q17 (AllL.cons ?o_17_q17 (AllL.cons ?o_18_q17 AllL.nil))) ?e_q17
  case s_16_q17 => exact fun t u u' hle h => h
  case s_17_q17 => exact fun t u u' hle h => h
  case s_18_q17 => exact fun t u u' hle ⟨P, e, hb, hp⟩ => ⟨P, e, hb.later hle, hp⟩
  case o_16_q17 =>
    refine KrOp.of (o := ?oo_16_q17) ?hi_16_q17 (fun t u hHeld hF K hK => ?rr_16_q17)
    case hi_16_q17 => ((simp only [List.getElem?_toArray, List.getElem?_cons_succ, List.getElem?_cons_zero]); rfl)
    case rr_16_q17 =>
      clear hF
      simp only [setl, List.foldl_cons, List.foldl_nil, Act.put, List.setIfInBounds_toArray, List.set_cons_zero, List.set_cons_succ] at hK ⊢
      go_simp
      (go_at_call 54; (with_reducible refine (pref_number g (off + (1 + q + 1 + r + 8)) _ _ _ (((show Ints .u8 _ (some ⟨g, off, none⟩) len cap l from And.right hHeld).drop (n := 1 + q + 1 + r + 8) (by omega)).take (n := 8) (by omega) (by simp))).mono ?_); rintro e wq ⟨rfl, rfl⟩)
      try go_simp
      refine hK.out _ _ (by exact (by repeat (first | assumption | exact Below.refl _ _ | refine belDrew ?_ | refine belAlloc ?_ _ | refine belStep ?_ (by assumption)))) (by exact ⟨(by repeat (first | assumption | exact (show Below W1.heap.size W1 _ from And.left hHeld) | exact Below.refl _ _ | refine belDrew ?_ | refine belAlloc ?_ _ | refine belStep ?_ (by assumption))), HIK.out _ (by repeat (first | assumption | exact (show Below W1.heap.size W1 _ from And.left hHeld) | exact Below.refl _ _ | refine belDrew ?_ | refine belAlloc ?_ _ | refine belStep ?_ (by assumption)))⟩) ?_
      exact rfl
  case o_17_q17 =>
    refine KrOp.of (o := ?oo_17_q17) ?hi_17_q17 (fun t u hHeld hF K hK => ?rr_17_q17)
    case hi_17_q17 => ((simp only [List.getElem?_toArray, List.getElem?_cons_succ, List.getElem?_cons_zero]); rfl)
    case rr_17_q17 =>
      have h16 : t 58 = .int .i64 (rnum ((l.drop (1 + q + 1 + r + 8)).take 8)) := hF 16 rfl rfl
      clear hF
      simp only [setl, List.foldl_cons, List.foldl_nil, Act.put, List.setIfInBounds_toArray, List.set_cons_zero, List.set_cons_succ] at hK ⊢
      generalize t 58 = x58 at *
      subst h16
      go_simp
      refine hK.out _ _ (by exact (by repeat (first | assumption | exact Below.refl _ _ | refine belDrew ?_ | refine belAlloc ?_ _ | refine belStep ?_ (by assumption)))) (by exact ⟨(by repeat (first | assumption | exact (show Below W1.heap.size W1 _ from And.left hHeld) | exact Below.refl _ _ | refine belDrew ?_ | refine belAlloc ?_ _ | refine belStep ?_ (by assumption))), HIK.out _ (by repeat (first | assumption | exact (show Below W1.heap.size W1 _ from And.left hHeld) | exact Below.refl _ _ | refine belDrew ?_ | refine belAlloc ?_ _ | refine belStep ?_ (by assumption)))⟩) ?_
      exact rfl
  case o_18_q17 =>
    refine KrOp.of (o := ?oo_18_q17) ?hi_18_q17 (fun t u hHeld hF K hK => ?rr_18_q17)
    case hi_18_q17 => ((simp only [List.getElem?_toArray, List.getElem?_cons_succ, List.getElem?_cons_zero]); rfl)
    case rr_18_q17 =>
      clear hF
      simp only [setl, List.foldl_cons, List.foldl_nil, Act.put, List.setIfInBounds_toArray, List.set_cons_zero, List.set_cons_succ] at hK ⊢
      go_simp
      refine hK.out _ _ (by exact (by repeat (first | assumption | exact Below.refl _ _ | refine belDrew ?_ | refine belAlloc ?_ _ | refine belStep ?_ (by assumption)))) (by exact ⟨(by repeat (first | assumption | exact (show Below W1.heap.size W1 _ from And.left hHeld) | exact Below.refl _ _ | refine belDrew ?_ | refine belAlloc ?_ _ | refine belStep ?_ (by assumption))), HIK.out _ (by repeat (first | assumption | exact (show Below W1.heap.size W1 _ from And.left hHeld) | exact Below.refl _ _ | refine belDrew ?_ | refine belAlloc ?_ _ | refine belStep ?_ (by assumption)))⟩) ?_
      exact ⟨_, rfl, Blk.new _ (podC ⟨#[]⟩ ⟨#[]⟩ []) 44, (Below.size (And.left hHeld))⟩
  case e_q17 =>
    intro t u hHeld hF
    have h16 : t 58 = .int .i64 (rnum ((l.drop (1 + q + 1 + r + 8)).take 8)) := hF 16 rfl
    have h17 : t 59 = .agg #[.string (strOfNums (l.tail.take q)), .int .i64 0, .bool false, .int .i64 0, .int .i64 0, .int .i64 0, .int .i64 0, .int .i64 0, .int .i64 0, .string (strOfNums ((l.drop (1 + q + 1)).take r)), .int .i64 (rnum ((l.drop (1 + q + 1 + r + 8)).take 8))] := hF 17 rfl
    have h18 : ∃ P : Nat, t 6 = .pointer (some ⟨P, 0, none⟩) ∧ Blk u P (podC ⟨#[]⟩ ⟨#[]⟩ []) 44 ∧ W1.heap.size ≤ P := hF 18 rfl
    clear hF
    simp only [setl, List.foldl_cons, List.foldl_nil, Act.put, List.setIfInBounds_toArray, List.set_cons_zero, List.set_cons_succ]
    generalize t 58 = x58 at *
    generalize t 59 = x59 at *
    generalize t 6 = x6 at *
    obtain ⟨P, rfl, hP, hPW⟩ := h18
    subst h17
    subst h16
    have y0 := hP.cell (j := 0) rfl
    have y1 := hP.cell (j := 1) rfl
    have y2 := hP.cell (j := 2) rfl
    have y3 := hP.cell (j := 3) rfl
    have y4 := hP.cell (j := 4) rfl
    have y5 := hP.cell (j := 5) rfl
    have y6 := hP.cell (j := 6) rfl
    have y7 := hP.cell (j := 7) rfl
    have y8 := hP.cell (j := 8) rfl
    have y9 := hP.cell (j := 9) rfl
    have y10 := hP.cell (j := 10) rfl
    have yf := hP.frozen
    refine wpAnyH_ready (rs := [19]) (by kernel_rfl) (by simp) ?_
    refine AllReadyH.cons (o := ?o1_k18) ?hi_k18 (fun K hK => ?rest_k18) AllReadyH.nil
    case hi_k18 => ((simp only [List.getElem?_toArray, List.getElem?_cons_succ, List.getElem?_cons_zero]); rfl)
    go_simp
    have hb10 := (belSet (belSet (belSet (belSet (belSet (belSet (belSet (belSet (belSet (belSet (belSet (And.left hHeld) ⟨P, 0, none⟩ (.string (strOfNums (l.tail.take q))) hPW) ⟨P, 1, none⟩ (.int .i64 0) hPW) ⟨P, 2, none⟩ (.bool false) hPW) ⟨P, 3, none⟩ (.int .i64 0) hPW) ⟨P, 4, none⟩ (.int .i64 0) hPW) ⟨P, 5, none⟩ (.int .i64 0) hPW) ⟨P, 6, none⟩ (.int .i64 0) hPW) ⟨P, 7, none⟩ (.int .i64 0) hPW) ⟨P, 8, none⟩ (.int .i64 0) hPW) ⟨P, 9, none⟩ (.string (strOfNums ((l.drop (1 + q + 1)).take r))) hPW) ⟨P, 10, none⟩ (.int .i64 (rnum ((l.drop (1 + q + 1 + r + 8)).take 8))) hPW)
    have hR10 := (((((((((((hP.set 0 (.string (strOfNums (l.tail.take q)))).set 1 (.int .i64 0)).set 2 (.bool false)).set 3 (.int .i64 0)).set 4 (.int .i64 0)).set 5 (.int .i64 0)).set 6 (.int .i64 0)).set 7 (.int .i64 0)).set 8 (.int .i64 0)).set 9 (.string (strOfNums ((l.drop (1 + q + 1)).take r)))).set 10 (.int .i64 (rnum ((l.drop (1 + q + 1 + r + 8)).take 8))))
    generalize (((((((((((u.setCell ⟨P, 0, none⟩ (.string (strOfNums (l.tail.take q)))).setCell ⟨P, 1, none⟩ (.int .i64 0)).setCell ⟨P, 2, none⟩ (.bool false)).setCell ⟨P, 3, none⟩ (.int .i64 0)).setCell ⟨P, 4, none⟩ (.int .i64 0)).setCell ⟨P, 5, none⟩ (.int .i64 0)).setCell ⟨P, 6, none⟩ (.int .i64 0)).setCell ⟨P, 7, none⟩ (.int .i64 0)).setCell ⟨P, 8, none⟩ (.int .i64 0)).setCell ⟨P, 9, none⟩ (.string (strOfNums ((l.drop (1 + q + 1)).take r)))).setCell ⟨P, 10, none⟩ (.int .i64 (rnum ((l.drop (1 + q + 1 + r + 8)).take 8)))) = W2 at hb10 hR10 ⊢
    refine hK.out _ _ (by exact ⟨(by repeat (first | assumption | exact (show Below W1.heap.size W1 _ from And.left hHeld) | exact Below.refl _ _ | refine belDrew ?_ | refine belAlloc ?_ _ | refine belStep ?_ (by assumption))), HIK.out _ (by repeat (first | assumption | exact (show Below W1.heap.size W1 _ from And.left hHeld) | exact Below.refl _ _ | refine belDrew ?_ | refine belAlloc ?_ _ | refine belStep ?_ (by assumption)))⟩) (fun hHeld => ?_)
    clear hK K
    try simp only [Act.put, List.setIfInBounds_toArray, List.set_cons_zero, List.set_cons_succ]
    refine wpAnyH_done (by kernel_rfl) ?_ _
    clear hHeld hP y0 y1 y2 y3 y4 y5 y6 y7 y8 y9 y10 yf
    clear m1 m2 m3 n1 n2 n3 t1 t1m t2 t2m t2o t3 t3m t3o t1l t2l t3l e1 e2 e2o e3 e3o u1 u2 u3
    obtain ⟨J, hJ⟩ : ∃ J : Nat, 1 + q + 1 + r = J := ⟨_, rfl⟩
    have hJi : 1 + (q : Int) + 1 + r = (J : Int) := by omega
    simp only [hJi]
    have HJ := Lib.hid hJ
    have HJI := Lib.hid hJi
    have hlJ : J + 65 ≤ len := by omega
    clear hJ hJi
    have m4 : (J : Int) + 8 ≤ cap := by omega
    have n4 : ¬ cap = J := by omega
    have t4o : (0 : Int) ≤ (J : Int) + 8 := by omega
    have e5 : ((J : Int) + 8).toNat = J + 8 := by omega
    go_upto_region 9 with (go_at_call 54; (with_reducible refine (pref_number g (off + (J)) _ _ _ (((HIK.out _ (show Below W1.heap.size W1 _ from by first | assumption | exact HB10.out)).drop (n := J) (by omega)).take (n := 8) (by omega) (by simp))).mono ?_); rintro e wq ⟨rfl, rfl⟩)
    obtain ⟨N0, hN0⟩ : ∃ n : Int, rnum ((l.drop J).take 8) = n := ⟨_, rfl⟩
    simp only [hN0]
    have HN0 := Lib.hid hN0
    clear hN0 m4 n4 t4o e5
    obtain ⟨p, hp⟩ : ∃ p, rpod l q r = p := ⟨_, rfl⟩
    have HF := Lib.hid (rpF hp HJ.out)
    have HP := Lib.hid hp
    clear hp
    have HR10 : Hid (Blk W2 P (rcC p 0) 44) := by have hx := hR10; rw [HF.out.id, HF.out.img, HF.out.size] at hx; exact Lib.hid hx
    have HB10 := Lib.hid hb10
    clear hR10 hb10
    have Cr0 := Lib.hid (show ∀ W, Below W1.heap.size W1 W → Calls Try.prog 54 #[.slice (some ⟨g, off + (J + 16), none⟩) 8 (cap - (J + 16))] W fun e w' => e = .returned (.int .i64 p.r0) ∧ W = w' from fun W hW => by rw [HF.out.r0]; exact pref_number g (off + (J + 16)) _ _ _ (((HIK.out _ hW).drop (n := J + 16) (by omega)).take (n := 8) (by omega) (by simp)))
    have Cr1 := Lib.hid (show ∀ W, Below W1.heap.size W1 W → Calls Try.prog 54 #[.slice (some ⟨g, off + (J + 16 + 8), none⟩) 8 (cap - (J + 16 + 8))] W fun e w' => e = .returned (.int .i64 p.r1) ∧ W = w' from fun W hW => by rw [HF.out.r1]; exact pref_number g (off + (J + 16 + 8)) _ _ _ (((HIK.out _ hW).drop (n := J + 16 + 8) (by omega)).take (n := 8) (by omega) (by simp)))
    have Cr2 := Lib.hid (show ∀ W, Below W1.heap.size W1 W → Calls Try.prog 54 #[.slice (some ⟨g, off + (J + 16 + 16), none⟩) 8 (cap - (J + 16 + 16))] W fun e w' => e = .returned (.int .i64 p.r2) ∧ W = w' from fun W hW => by rw [HF.out.r2]; exact pref_number g (off + (J + 16 + 16)) _ _ _ (((HIK.out _ hW).drop (n := J + 16 + 16) (by omega)).take (n := 8) (by omega) (by simp)))
    have Cl0 := Lib.hid (show ∀ W, Below W1.heap.size W1 W → Calls Try.prog 54 #[.slice (some ⟨g, off + (J + 40), none⟩) 8 (cap - (J + 40))] W fun e w' => e = .returned (.int .i64 p.l0) ∧ W = w' from fun W hW => by rw [HF.out.l0]; exact pref_number g (off + (J + 40)) _ _ _ (((HIK.out _ hW).drop (n := J + 40) (by omega)).take (n := 8) (by omega) (by simp)))
    have Cl1 := Lib.hid (show ∀ W, Below W1.heap.size W1 W → Calls Try.prog 54 #[.slice (some ⟨g, off + (J + 40 + 8), none⟩) 8 (cap - (J + 40 + 8))] W fun e w' => e = .returned (.int .i64 p.l1) ∧ W = w' from fun W hW => by rw [HF.out.l1]; exact pref_number g (off + (J + 40 + 8)) _ _ _ (((HIK.out _ hW).drop (n := J + 40 + 8) (by omega)).take (n := 8) (by omega) (by simp)))
    have Cl2 := Lib.hid (show ∀ W, Below W1.heap.size W1 W → Calls Try.prog 54 #[.slice (some ⟨g, off + (J + 40 + 16), none⟩) 8 (cap - (J + 40 + 16))] W fun e w' => e = .returned (.int .i64 p.l2) ∧ W = w' from fun W hW => by rw [HF.out.l2]; exact pref_number g (off + (J + 40 + 16)) _ _ _ (((HIK.out _ hW).drop (n := J + 40 + 16) (by omega)).take (n := 8) (by omega) (by simp)))
    go_wp2
    go_loopw [8] (fun i wr => ∃ (k : Nat) (I : Int), I = k ∧ k ≤ 3 ∧ i = .int .i64 I ∧ Below W1.heap.size W1 wr ∧ Blk wr P (rcC p k) 44) (fun i _ => 3 - (intOf i).toNat)
    case atStart => exact ⟨0, 0, rfl, by omega, rfl, HB10.out, HR10.out⟩
    case round =>
      obtain ⟨k, I, hI, hk, rfl, hbr, hB⟩ := hrel
      have key : k = 0 ∨ k = 1 ∨ k = 2 ∨ k = 3 := by omega
      clear hk HB10 HR10
      rcases key with rfl | rfl | rfl | rfl
      · obtain rfl : I = 0 := hI
        have y0 := hB.cell (j := 0) rfl
        have y1 := hB.cell (j := 1) rfl
        have y2 := hB.cell (j := 2) rfl
        have y3 := hB.cell (j := 3) rfl
        have y4 := hB.cell (j := 4) rfl
        have y5 := hB.cell (j := 5) rfl
        have y6 := hB.cell (j := 6) rfl
        have y7 := hB.cell (j := 7) rfl
        have y8 := hB.cell (j := 8) rfl
        have y9 := hB.cell (j := 9) rfl
        have y10 := hB.cell (j := 10) rfl
        have yf := hB.frozen
        have HBR := Lib.hid hbr
        have HBB := Lib.hid hB
        clear hbr hB
        have m4 : (J : Int) + 24 + 0 ≤ cap := by omega
        go_upto_region 13 with (go_at_call 54; (with_reducible refine (Cr0.out _ HBR.out).mono ?_); rintro e wq ⟨rfl, rfl⟩)
        have hb3 := belSet HBR.out ⟨P, 3, none⟩ (.int .i64 p.r0) hPW
        have hB3 := HBB.out.set 3 (.int .i64 p.r0)
        clear HBR HBB yf y0 y1 y2 y3 y4 y5 y6 y7 y8 y9 y10
        generalize wr.setCell ⟨P, 3, none⟩ (.int .i64 p.r0) = W3 at *
        have y0 := hB3.cell (j := 0) rfl
        have y1 := hB3.cell (j := 1) rfl
        have y2 := hB3.cell (j := 2) rfl
        have y3 := hB3.cell (j := 3) rfl
        have y4 := hB3.cell (j := 4) rfl
        have y5 := hB3.cell (j := 5) rfl
        have y6 := hB3.cell (j := 6) rfl
        have y7 := hB3.cell (j := 7) rfl
        have y8 := hB3.cell (j := 8) rfl
        have y9 := hB3.cell (j := 9) rfl
        have y10 := hB3.cell (j := 10) rfl
        have yf := hB3.frozen
        have HBR := Lib.hid hb3
        have HBB := Lib.hid hB3
        clear hb3 hB3
        have m5 : (J : Int) + 48 + 0 ≤ cap := by omega
        go_wp2_with (go_at_call 54; (with_reducible refine (Cl0.out _ HBR.out).mono ?_); rintro e wq ⟨rfl, rfl⟩)
        go_roundw
        case rel => exact ⟨1, 1, rfl, by omega, rfl, belSet HBR.out ⟨P, 6, none⟩ (.int .i64 p.l0) hPW, HBB.out.set 6 (.int .i64 p.l0)⟩
        case measure => simp [intOf]
      · obtain rfl : I = 1 := hI
        have y0 := hB.cell (j := 0) rfl
        have y1 := hB.cell (j := 1) rfl
        have y2 := hB.cell (j := 2) rfl
        have y3 := hB.cell (j := 3) rfl
        have y4 := hB.cell (j := 4) rfl
        have y5 := hB.cell (j := 5) rfl
        have y6 := hB.cell (j := 6) rfl
        have y7 := hB.cell (j := 7) rfl
        have y8 := hB.cell (j := 8) rfl
        have y9 := hB.cell (j := 9) rfl
        have y10 := hB.cell (j := 10) rfl
        have yf := hB.frozen
        have HBR := Lib.hid hbr
        have HBB := Lib.hid hB
        clear hbr hB
        have m4 : (J : Int) + 24 + 8 ≤ cap := by omega
        go_upto_region 13 with (go_at_call 54; (with_reducible refine (Cr1.out _ HBR.out).mono ?_); rintro e wq ⟨rfl, rfl⟩)
        have hb3 := belSet HBR.out ⟨P, 4, none⟩ (.int .i64 p.r1) hPW
        have hB3 := HBB.out.set 4 (.int .i64 p.r1)
        clear HBR HBB yf y0 y1 y2 y3 y4 y5 y6 y7 y8 y9 y10
        generalize wr.setCell ⟨P, 4, none⟩ (.int .i64 p.r1) = W3 at *
        have y0 := hB3.cell (j := 0) rfl
        have y1 := hB3.cell (j := 1) rfl
        have y2 := hB3.cell (j := 2) rfl
        have y3 := hB3.cell (j := 3) rfl
        have y4 := hB3.cell (j := 4) rfl
        have y5 := hB3.cell (j := 5) rfl
        have y6 := hB3.cell (j := 6) rfl
        have y7 := hB3.cell (j := 7) rfl
        have y8 := hB3.cell (j := 8) rfl
        have y9 := hB3.cell (j := 9) rfl
        have y10 := hB3.cell (j := 10) rfl
        have yf := hB3.frozen
        have HBR := Lib.hid hb3
        have HBB := Lib.hid hB3
        clear hb3 hB3
        have m5 : (J : Int) + 48 + 8 ≤ cap := by omega
        go_wp2_with (go_at_call 54; (with_reducible refine (Cl1.out _ HBR.out).mono ?_); rintro e wq ⟨rfl, rfl⟩)
        go_roundw
        case rel => exact ⟨2, 2, rfl, by omega, rfl, belSet HBR.out ⟨P, 7, none⟩ (.int .i64 p.l1) hPW, HBB.out.set 7 (.int .i64 p.l1)⟩
        case measure => simp [intOf]
      · obtain rfl : I = 2 := hI
        have y0 := hB.cell (j := 0) rfl
        have y1 := hB.cell (j := 1) rfl
        have y2 := hB.cell (j := 2) rfl
        have y3 := hB.cell (j := 3) rfl
        have y4 := hB.cell (j := 4) rfl
        have y5 := hB.cell (j := 5) rfl
        have y6 := hB.cell (j := 6) rfl
        have y7 := hB.cell (j := 7) rfl
        have y8 := hB.cell (j := 8) rfl
        have y9 := hB.cell (j := 9) rfl
        have y10 := hB.cell (j := 10) rfl
        have yf := hB.frozen
        have HBR := Lib.hid hbr
        have HBB := Lib.hid hB
        clear hbr hB
        have m4 : (J : Int) + 24 + 16 ≤ cap := by omega
        go_upto_region 13 with (go_at_call 54; (with_reducible refine (Cr2.out _ HBR.out).mono ?_); rintro e wq ⟨rfl, rfl⟩)
        have hb3 := belSet HBR.out ⟨P, 5, none⟩ (.int .i64 p.r2) hPW
        have hB3 := HBB.out.set 5 (.int .i64 p.r2)
        clear HBR HBB yf y0 y1 y2 y3 y4 y5 y6 y7 y8 y9 y10
        generalize wr.setCell ⟨P, 5, none⟩ (.int .i64 p.r2) = W3 at *
        have y0 := hB3.cell (j := 0) rfl
        have y1 := hB3.cell (j := 1) rfl
        have y2 := hB3.cell (j := 2) rfl
        have y3 := hB3.cell (j := 3) rfl
        have y4 := hB3.cell (j := 4) rfl
        have y5 := hB3.cell (j := 5) rfl
        have y6 := hB3.cell (j := 6) rfl
        have y7 := hB3.cell (j := 7) rfl
        have y8 := hB3.cell (j := 8) rfl
        have y9 := hB3.cell (j := 9) rfl
        have y10 := hB3.cell (j := 10) rfl
        have yf := hB3.frozen
        have HBR := Lib.hid hb3
        have HBB := Lib.hid hB3
        clear hb3 hB3
        have m5 : (J : Int) + 48 + 16 ≤ cap := by omega
        go_wp2_with (go_at_call 54; (with_reducible refine (Cl2.out _ HBR.out).mono ?_); rintro e wq ⟨rfl, rfl⟩)
        go_roundw
        case rel => exact ⟨3, 3, rfl, by omega, rfl, belSet HBR.out ⟨P, 8, none⟩ (.int .i64 p.l2) hPW, HBB.out.set 8 (.int .i64 p.l2)⟩
        case measure => simp [intOf]
      · obtain rfl : I = 3 := hI
        obtain ⟨c, hc⟩ : ∃ c : Int, el l (J + 64) = c := ⟨_, rfl⟩
        have hc0 := HBY.out _ (el_mem (l := l) (i := J + 64) (by rw [HLL.out]; omega))
        rw [hc] at hc0
        have x2 := HCE.out (J + 64) (by omega)
        rw [hc] at x2
        have m6 : (J : Int) + 64 < len := by omega
        have HFI := Lib.hid (show ∀ x : PodV × Nat, rfin l q r = some x → rres l = x from fun x hx => by rw [rres_c (by rw [HLL.out, HQ.out]; omega) (by rw [HLL.out, HQ.out, Int.toNat_natCast, HRR.out]; omega), HQ.out, Int.toNat_natCast, HRR.out, Int.toNat_natCast, hx])
        have HFN := Lib.hid (show rfin l q r = none → rres l = (zeroP, 0) from fun hx => by rw [rres_c (by rw [HLL.out, HQ.out]; omega) (by rw [HLL.out, HQ.out, Int.toNat_natCast, HRR.out]; omega), HQ.out, Int.toNat_natCast, HRR.out, Int.toNat_natCast, hx])
        have hp3 : p.prio + 1073741824 = N0 := by rw [← HN0.out, HF.out.prio]
        have HOK := Lib.hid (rpF_ok HF.out HBY.out HJ.out (by rw [HLL.out]; omega) hq2 hr2)
        have HN1 := Lib.hid (show -1 ≤ N0 ∧ N0 ≤ 9223372036854775807 by rw [← HN0.out]; exact rnum_bd HBY.out (by rw [HLL.out]; omega))
        have HPR := Lib.hid hp3
        clear hp3 hbel
        have hbel := hbr
        have hbase := HN1.out
        have HC := Lib.hid hc
        clear hc
        have HZB := Lib.hid (HR1.out.later (hbr.mono (Nat.le_refl _)))
        have HWB := Lib.hid (HW.out.trans (hbr.mono HW.out.size))
        by_cases hno : N0 < 0 ∨ 2147483648 < N0 ∨ 1 < c
        · have HRES := Lib.hid (HFN.out (rfin_no HP.out HJ.out (by rw [HN0.out, HC.out]; exact hno)))
          have key : N0 < 0 ∨ (¬ N0 < 0 ∧ 2147483648 < N0) ∨ (¬ N0 < 0 ∧ ¬ 2147483648 < N0 ∧ 1 < c) := by omega
          clear hno
          rcases key with g1 | ⟨g1, g2⟩ | ⟨g1, g2, g3⟩
          all_goals
            go_wp2
            have hb10 := (belSet (belSet (belSet (belSet (belSet (belSet (belSet (belSet (belSet (belSet (belSet (HWB.out) ⟨w.heap.size, 0, none⟩ (.string ⟨#[]⟩) (Nat.le_refl _)) ⟨w.heap.size, 1, none⟩ (.int .i64 0) (Nat.le_refl _)) ⟨w.heap.size, 2, none⟩ (.bool false) (Nat.le_refl _)) ⟨w.heap.size, 3, none⟩ (.int .i64 0) (Nat.le_refl _)) ⟨w.heap.size, 4, none⟩ (.int .i64 0) (Nat.le_refl _)) ⟨w.heap.size, 5, none⟩ (.int .i64 0) (Nat.le_refl _)) ⟨w.heap.size, 6, none⟩ (.int .i64 0) (Nat.le_refl _)) ⟨w.heap.size, 7, none⟩ (.int .i64 0) (Nat.le_refl _)) ⟨w.heap.size, 8, none⟩ (.int .i64 0) (Nat.le_refl _)) ⟨w.heap.size, 9, none⟩ (.string ⟨#[]⟩) (Nat.le_refl _)) ⟨w.heap.size, 10, none⟩ (.int .i64 0) (Nat.le_refl _))
            have hR10 := ((((((((((((HZB.out).set 0 (.string ⟨#[]⟩)).set 1 (.int .i64 0)).set 2 (.bool false)).set 3 (.int .i64 0)).set 4 (.int .i64 0)).set 5 (.int .i64 0)).set 6 (.int .i64 0)).set 7 (.int .i64 0)).set 8 (.int .i64 0)).set 9 (.string ⟨#[]⟩)).set 10 (.int .i64 0))
            clear z0 z1 z2 z3 z4 z5 z6 z7 z8 z9 z10 zf
            generalize ((((((((((((wr).setCell ⟨w.heap.size, 0, none⟩ (.string ⟨#[]⟩)).setCell ⟨w.heap.size, 1, none⟩ (.int .i64 0)).setCell ⟨w.heap.size, 2, none⟩ (.bool false)).setCell ⟨w.heap.size, 3, none⟩ (.int .i64 0)).setCell ⟨w.heap.size, 4, none⟩ (.int .i64 0)).setCell ⟨w.heap.size, 5, none⟩ (.int .i64 0)).setCell ⟨w.heap.size, 6, none⟩ (.int .i64 0)).setCell ⟨w.heap.size, 7, none⟩ (.int .i64 0)).setCell ⟨w.heap.size, 8, none⟩ (.int .i64 0)).setCell ⟨w.heap.size, 9, none⟩ (.string ⟨#[]⟩)).setCell ⟨w.heap.size, 10, none⟩ (.int .i64 0)) = W10 at hb10 hR10 ⊢
            exact rCut_ret w W10 _ 0 zeroP _ rfl rfl hR10 ⟨by rw [HRES.out]; rfl, hb10⟩
        · have HFY := Lib.hid (rfin_yes HP.out HJ.out (by rw [HN0.out, HC.out]; exact hno))
          have g1 : ¬ N0 < 0 := fun h => hno (.inl h)
          have g2 : ¬ 2147483648 < N0 := fun h => hno (.inr (.inl h))
          have g3 : ¬ 1 < c := fun h => hno (.inr (.inr h))
          clear hno
          have hcc : (c == 1) = p.crit := by rw [← HC.out]; exact HF.out.crit
          have y0 := hB.cell (j := 0) rfl
          have y1 := hB.cell (j := 1) rfl
          have y2 := hB.cell (j := 2) rfl
          have y3 := hB.cell (j := 3) rfl
          have y4 := hB.cell (j := 4) rfl
          have y5 := hB.cell (j := 5) rfl
          have y6 := hB.cell (j := 6) rfl
          have y7 := hB.cell (j := 7) rfl
          have y8 := hB.cell (j := 8) rfl
          have y9 := hB.cell (j := 9) rfl
          have y10 := hB.cell (j := 10) rfl
          have yf := hB.frozen
          go_upto_region 18 with fail
          have hb5 := belSet (belSet hbr ⟨P, 1, none⟩ (.int .i64 (N0 - 1073741824)) hPW) ⟨P, 2, none⟩ (.bool p.crit) hPW
          have hB5 := (hB.set 1 (.int .i64 (N0 - 1073741824))).set 2 (.bool p.crit)
          clear yf hbel hbr hB HZB HWB hcc y0 y1 y2 y3 y4 y5 y6 y7 y8 y9 y10
          generalize (wr.setCell ⟨P, 1, none⟩ (.int .i64 (N0 - 1073741824))).setCell ⟨P, 2, none⟩ (.bool p.crit) = W5 at *
          rw [show N0 - 1073741824 = p.prio by have := HPR.out; omega] at hB5
          have hB6 : Blk W5 P p.cells 44 := hB5
          clear hB5
          have y0 := hB6.cell (j := 0) rfl
          have y1 := hB6.cell (j := 1) rfl
          have y2 := hB6.cell (j := 2) rfl
          have y3 := hB6.cell (j := 3) rfl
          have y4 := hB6.cell (j := 4) rfl
          have y5 := hB6.cell (j := 5) rfl
          have y6 := hB6.cell (j := 6) rfl
          have y7 := hB6.cell (j := 7) rfl
          have y8 := hB6.cell (j := 8) rfl
          have y9 := hB6.cell (j := 9) rfl
          have y10 := hB6.cell (j := 10) rfl
          have HB6 := Lib.hid hB6
          have HB5 := Lib.hid hb5
          clear hB6 hb5
          have hbel : Below W1.heap.size W1 W5 := HB5.out
          rcases Bool.eq_false_or_eq_true (rightB p) with hR | hR
          · have CR := Lib.hid (show Calls Try.prog 22 #[.agg #[.string p.id, .int .i64 p.prio, .bool p.crit, .int .i64 p.r0, .int .i64 p.r1, .int .i64 p.r2, .int .i64 p.l0, .int .i64 p.l1, .int .i64 p.l2, .string p.img, .int .i64 p.size]] W5 fun e w' => e = .returned (.bool true) ∧ Below W5.heap.size W5 w' from by have hx := pref_Right p W5 HOK.out; rw [hR] at hx; exact hx)
            have HRES := Lib.hid (HFI.out _ (by rw [HFY.out, if_pos hR]))
            clear hR
            go_upto_region 20 with (go_at_call 22; (with_reducible refine CR.out.mono ?_); rintro e w1 ⟨rfl, hb1⟩)
            have hbw := HB5.out.trans (hb1.mono (Below.size HB5.out))
            have hB7 := HB6.out.later hb1
            clear hbel y0 y1 y2 y3 y4 y5 y6 y7 y8 y9 y10
            have hbel := hbw
            have y0 := hB7.cell (j := 0) rfl
            have y1 := hB7.cell (j := 1) rfl
            have y2 := hB7.cell (j := 2) rfl
            have y3 := hB7.cell (j := 3) rfl
            have y4 := hB7.cell (j := 4) rfl
            have y5 := hB7.cell (j := 5) rfl
            have y6 := hB7.cell (j := 6) rfl
            have y7 := hB7.cell (j := 7) rfl
            have y8 := hB7.cell (j := 8) rfl
            have y9 := hB7.cell (j := 9) rfl
            have y10 := hB7.cell (j := 10) rfl
            have HZB := Lib.hid (HR1.out.later (hbw.mono (Nat.le_refl _)))
            have HWB := Lib.hid (HW.out.trans (hbw.mono HW.out.size))
            clear hb1 hbw hB7
            go_wp2
            have hb10 := (belSet (belSet (belSet (belSet (belSet (belSet (belSet (belSet (belSet (belSet (belSet (HWB.out) ⟨w.heap.size, 0, none⟩ (.string p.id) (Nat.le_refl _)) ⟨w.heap.size, 1, none⟩ (.int .i64 p.prio) (Nat.le_refl _)) ⟨w.heap.size, 2, none⟩ (.bool p.crit) (Nat.le_refl _)) ⟨w.heap.size, 3, none⟩ (.int .i64 p.r0) (Nat.le_refl _)) ⟨w.heap.size, 4, none⟩ (.int .i64 p.r1) (Nat.le_refl _)) ⟨w.heap.size, 5, none⟩ (.int .i64 p.r2) (Nat.le_refl _)) ⟨w.heap.size, 6, none⟩ (.int .i64 p.l0) (Nat.le_refl _)) ⟨w.heap.size, 7, none⟩ (.int .i64 p.l1) (Nat.le_refl _)) ⟨w.heap.size, 8, none⟩ (.int .i64 p.l2) (Nat.le_refl _)) ⟨w.heap.size, 9, none⟩ (.string p.img) (Nat.le_refl _)) ⟨w.heap.size, 10, none⟩ (.int .i64 p.size) (Nat.le_refl _))
            have hR10 := ((((((((((((HZB.out).set 0 (.string p.id)).set 1 (.int .i64 p.prio)).set 2 (.bool p.crit)).set 3 (.int .i64 p.r0)).set 4 (.int .i64 p.r1)).set 5 (.int .i64 p.r2)).set 6 (.int .i64 p.l0)).set 7 (.int .i64 p.l1)).set 8 (.int .i64 p.l2)).set 9 (.string p.img)).set 10 (.int .i64 p.size))
            clear z0 z1 z2 z3 z4 z5 z6 z7 z8 z9 z10 zf
            generalize ((((((((((((w1).setCell ⟨w.heap.size, 0, none⟩ (.string p.id)).setCell ⟨w.heap.size, 1, none⟩ (.int .i64 p.prio)).setCell ⟨w.heap.size, 2, none⟩ (.bool p.crit)).setCell ⟨w.heap.size, 3, none⟩ (.int .i64 p.r0)).setCell ⟨w.heap.size, 4, none⟩ (.int .i64 p.r1)).setCell ⟨w.heap.size, 5, none⟩ (.int .i64 p.r2)).setCell ⟨w.heap.size, 6, none⟩ (.int .i64 p.l0)).setCell ⟨w.heap.size, 7, none⟩ (.int .i64 p.l1)).setCell ⟨w.heap.size, 8, none⟩ (.int .i64 p.l2)).setCell ⟨w.heap.size, 9, none⟩ (.string p.img)).setCell ⟨w.heap.size, 10, none⟩ (.int .i64 p.size)) = W10 at hb10 hR10 ⊢
            exact rCut_ret w W10 _ ((J : Int) + 65) p _ rfl rfl hR10 ⟨by rw [HRES.out]; rfl, hb10⟩
          · have CR := Lib.hid (show Calls Try.prog 22 #[.agg #[.string p.id, .int .i64 p.prio, .bool p.crit, .int .i64 p.r0, .int .i64 p.r1, .int .i64 p.r2, .int .i64 p.l0, .int .i64 p.l1, .int .i64 p.l2, .string p.img, .int .i64 p.size]] W5 fun e w' => e = .returned (.bool false) ∧ Below W5.heap.size W5 w' from by have hx := pref_Right p W5 HOK.out; rw [hR] at hx; exact hx)
            have HRES := Lib.hid (HFN.out (by rw [HFY.out, if_neg (by rw [hR]; simp)]))
            clear hR
            go_upto_region 19 with (go_at_call 22; (with_reducible refine CR.out.mono ?_); rintro e w1 ⟨rfl, hb1⟩)
            have hbw := HB5.out.trans (hb1.mono (Below.size HB5.out))
            have hB7 := HB6.out.later hb1
            clear hbel y0 y1 y2 y3 y4 y5 y6 y7 y8 y9 y10
            have hbel := hbw
            have HZB := Lib.hid (HR1.out.later (hbw.mono (Nat.le_refl _)))
            have HWB := Lib.hid (HW.out.trans (hbw.mono HW.out.size))
            clear hb1 hbw hB7
            go_wp2
            have hb10 := (belSet (belSet (belSet (belSet (belSet (belSet (belSet (belSet (belSet (belSet (belSet (HWB.out) ⟨w.heap.size, 0, none⟩ (.string ⟨#[]⟩) (Nat.le_refl _)) ⟨w.heap.size, 1, none⟩ (.int .i64 0) (Nat.le_refl _)) ⟨w.heap.size, 2, none⟩ (.bool false) (Nat.le_refl _)) ⟨w.heap.size, 3, none⟩ (.int .i64 0) (Nat.le_refl _)) ⟨w.heap.size, 4, none⟩ (.int .i64 0) (Nat.le_refl _)) ⟨w.heap.size, 5, none⟩ (.int .i64 0) (Nat.le_refl _)) ⟨w.heap.size, 6, none⟩ (.int .i64 0) (Nat.le_refl _)) ⟨w.heap.size, 7, none⟩ (.int .i64 0) (Nat.le_refl _)) ⟨w.heap.size, 8, none⟩ (.int .i64 0) (Nat.le_refl _)) ⟨w.heap.size, 9, none⟩ (.string ⟨#[]⟩) (Nat.le_refl _)) ⟨w.heap.size, 10, none⟩ (.int .i64 0) (Nat.le_refl _))
            have hR10 := ((((((((((((HZB.out).set 0 (.string ⟨#[]⟩)).set 1 (.int .i64 0)).set 2 (.bool false)).set 3 (.int .i64 0)).set 4 (.int .i64 0)).set 5 (.int .i64 0)).set 6 (.int .i64 0)).set 7 (.int .i64 0)).set 8 (.int .i64 0)).set 9 (.string ⟨#[]⟩)).set 10 (.int .i64 0))
            clear z0 z1 z2 z3 z4 z5 z6 z7 z8 z9 z10 zf
            generalize ((((((((((((w1).setCell ⟨w.heap.size, 0, none⟩ (.string ⟨#[]⟩)).setCell ⟨w.heap.size, 1, none⟩ (.int .i64 0)).setCell ⟨w.heap.size, 2, none⟩ (.bool false)).setCell ⟨w.heap.size, 3, none⟩ (.int .i64 0)).setCell ⟨w.heap.size, 4, none⟩ (.int .i64 0)).setCell ⟨w.heap.size, 5, none⟩ (.int .i64 0)).setCell ⟨w.heap.size, 6, none⟩ (.int .i64 0)).setCell ⟨w.heap.size, 7, none⟩ (.int .i64 0)).setCell ⟨w.heap.size, 8, none⟩ (.int .i64 0)).setCell ⟨w.heap.size, 9, none⟩ (.string ⟨#[]⟩)).setCell ⟨w.heap.size, 10, none⟩ (.int .i64 0)) = W10 at hb10 hR10 ⊢
            exact rCut_ret w W10 _ 0 zeroP _ rfl rfl hR10 ⟨by rw [HRES.out]; rfl, hb10⟩
end Go.Proofs.Ytpmkhimmlpnbpaa
