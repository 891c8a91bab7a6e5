/- VictimWay holds for every room, list of pods and pod. No conditions. -/
import Derived.Test.YtnnmganjlhojfaaVicWM
namespace Go.Proofs.Ytnnmganjlhojfaa.victimWay
open Go.ChangeShapes Go.WideShapes Go.ChangeAt Go.RowKit
open Go.ChangeMaps (open_string shut_string)
set_option linter.unusedVariables false
set_option linter.unusedSimpArgs false

set_option maxRecDepth 100000 in
set_option maxHeartbeats 16000000 in
theorem walk (R : Room) (a : Option Addr) (len cap : Nat) (L : List PodV) (p : PodV) (w : World) (hra : InI R.a) (hrb : InI R.b) (hrc : InI R.c) (hl : L.length = len) (hok : ∀ x ∈ L, x.ok) (hR : Row w a len cap 11 (L.flatMap PodV.cells)) (hp : p.ok) :
    Calls Try.prog 6 #[.agg #[.int .i64 R.a, .int .i64 R.b, .int .i64 R.c], .slice a len cap, p.v] w fun e w' => e = .returned (.bool true) ∧ Below w.heap.size w w' := by
  unfold PodV.v
  have hw : Below w.heap.size w w := Below.refl _ _
  have hbel := hw
  have HR := Lib.hid hR
  have hbd : len ≤ cap ∧ cap ≤ 9223372036854775807 := by obtain ⟨_, h1, h2, _⟩ := hR; unfold maxLen at h2; exact ⟨h1, h2⟩
  obtain ⟨hbd1, hbd2⟩ := hbd
  have CF := Lib.hid (fun v (hv : Below w.heap.size w v) => vref_Fit R p a len cap L v hl hok (HR.out.later hv) hp)
  have CW := Lib.hid (fun v (hf : FitOK R L p) (hv : Below w.heap.size w v) => way_call R p a len cap L v hl hok (HR.out.later hv) hf hp)
  have CS := Lib.hid (show ∀ (v : World) (B : Nat) (s : Value), OwnR v B 25 11 s ([p] ++ stF L p).length (([p] ++ stF L p).flatMap PodV.cells) → Calls Try.prog 18 #[.agg #[.int .i64 R.a, .int .i64 R.b, .int .i64 R.c], s] v fun e w' => e = .returned (.bool (fitsB R (stF L p ++ [p]))) ∧ Below v.heap.size v w' from fun v B s h => by
    rw [fitsB_perm R (List.perm_append_comm : (stF L p ++ [p]).Perm ([p] ++ stF L p))]
    exact fits_own R ([p] ++ stF L p) v h (fun x hx => by
      rcases List.mem_append.1 hx with k | k
      · simp at k; subst k; exact hp
      · exact hok x ((List.mem_filter.1 k).1)))
  have CA := Lib.hid (show ∀ (v : World) (B : Nat) (s : Value), OwnR v B 25 11 s (L ++ [p]).length ((L ++ [p]).flatMap PodV.cells) → Calls Try.prog 18 #[.agg #[.int .i64 R.a, .int .i64 R.b, .int .i64 R.c], s] v fun e w' => e = .returned (.bool (fitsB R (L ++ [p]))) ∧ Below v.heap.size v w' from fun v B s h => fits_own R (L ++ [p]) v h (ok_snoc hok hp))
  subst hl
  clear hra hrb hrc hok hR hp
  generalize fitsB R (L ++ [p]) = fA at *
  go_enter Try.func6, Try.ntmps6
  go_upto_region 1 with fail
  have rm0 : ((w.alloc (.cells #[.int .i64 R.a, .int .i64 R.b, .int .i64 R.c] 22)).alloc (.cells #[.string p.id, .int .i64 p.prio, .bool p.crit, .int .i64 p.r0, .int .i64 p.r1, .int .i64 p.r2, .int .i64 p.l0, .int .i64 p.l1, .int .i64 p.l2, .string p.img, .int .i64 p.size] 25)).cell? ⟨w.heap.size, 0, none⟩ = some (.int .i64 R.a) := by first | (simp; done) | (rw [World.cell?_alloc_at _ _ _ _ (by simp)]; rfl) | (rw [World.cell?_alloc_past _ _ _ (by simp <;> omega), World.cell?_alloc_at _ _ _ _ (by simp)]; rfl) | (rw [World.cell?_alloc_past _ _ _ (by simp <;> omega), World.cell?_alloc_past _ _ _ (by simp <;> omega), World.cell?_alloc_at _ _ _ _ (by simp)]; rfl)
  have rm1 : ((w.alloc (.cells #[.int .i64 R.a, .int .i64 R.b, .int .i64 R.c] 22)).alloc (.cells #[.string p.id, .int .i64 p.prio, .bool p.crit, .int .i64 p.r0, .int .i64 p.r1, .int .i64 p.r2, .int .i64 p.l0, .int .i64 p.l1, .int .i64 p.l2, .string p.img, .int .i64 p.size] 25)).cell? ⟨w.heap.size, 1, none⟩ = some (.int .i64 R.b) := by first | (simp; done) | (rw [World.cell?_alloc_at _ _ _ _ (by simp)]; rfl) | (rw [World.cell?_alloc_past _ _ _ (by simp <;> omega), World.cell?_alloc_at _ _ _ _ (by simp)]; rfl) | (rw [World.cell?_alloc_past _ _ _ (by simp <;> omega), World.cell?_alloc_past _ _ _ (by simp <;> omega), World.cell?_alloc_at _ _ _ _ (by simp)]; rfl)
  have rm2 : ((w.alloc (.cells #[.int .i64 R.a, .int .i64 R.b, .int .i64 R.c] 22)).alloc (.cells #[.string p.id, .int .i64 p.prio, .bool p.crit, .int .i64 p.r0, .int .i64 p.r1, .int .i64 p.r2, .int .i64 p.l0, .int .i64 p.l1, .int .i64 p.l2, .string p.img, .int .i64 p.size] 25)).cell? ⟨w.heap.size, 2, none⟩ = some (.int .i64 R.c) := by first | (simp; done) | (rw [World.cell?_alloc_at _ _ _ _ (by simp)]; rfl) | (rw [World.cell?_alloc_past _ _ _ (by simp <;> omega), World.cell?_alloc_at _ _ _ _ (by simp)]; rfl) | (rw [World.cell?_alloc_past _ _ _ (by simp <;> omega), World.cell?_alloc_past _ _ _ (by simp <;> omega), World.cell?_alloc_at _ _ _ _ (by simp)]; rfl)
  have pp0 : ((w.alloc (.cells #[.int .i64 R.a, .int .i64 R.b, .int .i64 R.c] 22)).alloc (.cells #[.string p.id, .int .i64 p.prio, .bool p.crit, .int .i64 p.r0, .int .i64 p.r1, .int .i64 p.r2, .int .i64 p.l0, .int .i64 p.l1, .int .i64 p.l2, .string p.img, .int .i64 p.size] 25)).cell? ⟨w.heap.size + 1, 0, none⟩ = some (.string p.id) := by first | (simp; done) | (rw [World.cell?_alloc_at _ _ _ _ (by simp)]; rfl) | (rw [World.cell?_alloc_past _ _ _ (by simp <;> omega), World.cell?_alloc_at _ _ _ _ (by simp)]; rfl) | (rw [World.cell?_alloc_past _ _ _ (by simp <;> omega), World.cell?_alloc_past _ _ _ (by simp <;> omega), World.cell?_alloc_at _ _ _ _ (by simp)]; rfl)
  have pp1 : ((w.alloc (.cells #[.int .i64 R.a, .int .i64 R.b, .int .i64 R.c] 22)).alloc (.cells #[.string p.id, .int .i64 p.prio, .bool p.crit, .int .i64 p.r0, .int .i64 p.r1, .int .i64 p.r2, .int .i64 p.l0, .int .i64 p.l1, .int .i64 p.l2, .string p.img, .int .i64 p.size] 25)).cell? ⟨w.heap.size + 1, 1, none⟩ = some (.int .i64 p.prio) := by first | (simp; done) | (rw [World.cell?_alloc_at _ _ _ _ (by simp)]; rfl) | (rw [World.cell?_alloc_past _ _ _ (by simp <;> omega), World.cell?_alloc_at _ _ _ _ (by simp)]; rfl) | (rw [World.cell?_alloc_past _ _ _ (by simp <;> omega), World.cell?_alloc_past _ _ _ (by simp <;> omega), World.cell?_alloc_at _ _ _ _ (by simp)]; rfl)
  have pp2 : ((w.alloc (.cells #[.int .i64 R.a, .int .i64 R.b, .int .i64 R.c] 22)).alloc (.cells #[.string p.id, .int .i64 p.prio, .bool p.crit, .int .i64 p.r0, .int .i64 p.r1, .int .i64 p.r2, .int .i64 p.l0, .int .i64 p.l1, .int .i64 p.l2, .string p.img, .int .i64 p.size] 25)).cell? ⟨w.heap.size + 1, 2, none⟩ = some (.bool p.crit) := by first | (simp; done) | (rw [World.cell?_alloc_at _ _ _ _ (by simp)]; rfl) | (rw [World.cell?_alloc_past _ _ _ (by simp <;> omega), World.cell?_alloc_at _ _ _ _ (by simp)]; rfl) | (rw [World.cell?_alloc_past _ _ _ (by simp <;> omega), World.cell?_alloc_past _ _ _ (by simp <;> omega), World.cell?_alloc_at _ _ _ _ (by simp)]; rfl)
  have pp3 : ((w.alloc (.cells #[.int .i64 R.a, .int .i64 R.b, .int .i64 R.c] 22)).alloc (.cells #[.string p.id, .int .i64 p.prio, .bool p.crit, .int .i64 p.r0, .int .i64 p.r1, .int .i64 p.r2, .int .i64 p.l0, .int .i64 p.l1, .int .i64 p.l2, .string p.img, .int .i64 p.size] 25)).cell? ⟨w.heap.size + 1, 3, none⟩ = some (.int .i64 p.r0) := by first | (simp; done) | (rw [World.cell?_alloc_at _ _ _ _ (by simp)]; rfl) | (rw [World.cell?_alloc_past _ _ _ (by simp <;> omega), World.cell?_alloc_at _ _ _ _ (by simp)]; rfl) | (rw [World.cell?_alloc_past _ _ _ (by simp <;> omega), World.cell?_alloc_past _ _ _ (by simp <;> omega), World.cell?_alloc_at _ _ _ _ (by simp)]; rfl)
  have pp4 : ((w.alloc (.cells #[.int .i64 R.a, .int .i64 R.b, .int .i64 R.c] 22)).alloc (.cells #[.string p.id, .int .i64 p.prio, .bool p.crit, .int .i64 p.r0, .int .i64 p.r1, .int .i64 p.r2, .int .i64 p.l0, .int .i64 p.l1, .int .i64 p.l2, .string p.img, .int .i64 p.size] 25)).cell? ⟨w.heap.size + 1, 4, none⟩ = some (.int .i64 p.r1) := by first | (simp; done) | (rw [World.cell?_alloc_at _ _ _ _ (by simp)]; rfl) | (rw [World.cell?_alloc_past _ _ _ (by simp <;> omega), World.cell?_alloc_at _ _ _ _ (by simp)]; rfl) | (rw [World.cell?_alloc_past _ _ _ (by simp <;> omega), World.cell?_alloc_past _ _ _ (by simp <;> omega), World.cell?_alloc_at _ _ _ _ (by simp)]; rfl)
  have pp5 : ((w.alloc (.cells #[.int .i64 R.a, .int .i64 R.b, .int .i64 R.c] 22)).alloc (.cells #[.string p.id, .int .i64 p.prio, .bool p.crit, .int .i64 p.r0, .int .i64 p.r1, .int .i64 p.r2, .int .i64 p.l0, .int .i64 p.l1, .int .i64 p.l2, .string p.img, .int .i64 p.size] 25)).cell? ⟨w.heap.size + 1, 5, none⟩ = some (.int .i64 p.r2) := by first | (simp; done) | (rw [World.cell?_alloc_at _ _ _ _ (by simp)]; rfl) | (rw [World.cell?_alloc_past _ _ _ (by simp <;> omega), World.cell?_alloc_at _ _ _ _ (by simp)]; rfl) | (rw [World.cell?_alloc_past _ _ _ (by simp <;> omega), World.cell?_alloc_past _ _ _ (by simp <;> omega), World.cell?_alloc_at _ _ _ _ (by simp)]; rfl)
  have pp6 : ((w.alloc (.cells #[.int .i64 R.a, .int .i64 R.b, .int .i64 R.c] 22)).alloc (.cells #[.string p.id, .int .i64 p.prio, .bool p.crit, .int .i64 p.r0, .int .i64 p.r1, .int .i64 p.r2, .int .i64 p.l0, .int .i64 p.l1, .int .i64 p.l2, .string p.img, .int .i64 p.size] 25)).cell? ⟨w.heap.size + 1, 6, none⟩ = some (.int .i64 p.l0) := by first | (simp; done) | (rw [World.cell?_alloc_at _ _ _ _ (by simp)]; rfl) | (rw [World.cell?_alloc_past _ _ _ (by simp <;> omega), World.cell?_alloc_at _ _ _ _ (by simp)]; rfl) | (rw [World.cell?_alloc_past _ _ _ (by simp <;> omega), World.cell?_alloc_past _ _ _ (by simp <;> omega), World.cell?_alloc_at _ _ _ _ (by simp)]; rfl)
  have pp7 : ((w.alloc (.cells #[.int .i64 R.a, .int .i64 R.b, .int .i64 R.c] 22)).alloc (.cells #[.string p.id, .int .i64 p.prio, .bool p.crit, .int .i64 p.r0, .int .i64 p.r1, .int .i64 p.r2, .int .i64 p.l0, .int .i64 p.l1, .int .i64 p.l2, .string p.img, .int .i64 p.size] 25)).cell? ⟨w.heap.size + 1, 7, none⟩ = some (.int .i64 p.l1) := by first | (simp; done) | (rw [World.cell?_alloc_at _ _ _ _ (by simp)]; rfl) | (rw [World.cell?_alloc_past _ _ _ (by simp <;> omega), World.cell?_alloc_at _ _ _ _ (by simp)]; rfl) | (rw [World.cell?_alloc_past _ _ _ (by simp <;> omega), World.cell?_alloc_past _ _ _ (by simp <;> omega), World.cell?_alloc_at _ _ _ _ (by simp)]; rfl)
  have pp8 : ((w.alloc (.cells #[.int .i64 R.a, .int .i64 R.b, .int .i64 R.c] 22)).alloc (.cells #[.string p.id, .int .i64 p.prio, .bool p.crit, .int .i64 p.r0, .int .i64 p.r1, .int .i64 p.r2, .int .i64 p.l0, .int .i64 p.l1, .int .i64 p.l2, .string p.img, .int .i64 p.size] 25)).cell? ⟨w.heap.size + 1, 8, none⟩ = some (.int .i64 p.l2) := by first | (simp; done) | (rw [World.cell?_alloc_at _ _ _ _ (by simp)]; rfl) | (rw [World.cell?_alloc_past _ _ _ (by simp <;> omega), World.cell?_alloc_at _ _ _ _ (by simp)]; rfl) | (rw [World.cell?_alloc_past _ _ _ (by simp <;> omega), World.cell?_alloc_past _ _ _ (by simp <;> omega), World.cell?_alloc_at _ _ _ _ (by simp)]; rfl)
  have pp9 : ((w.alloc (.cells #[.int .i64 R.a, .int .i64 R.b, .int .i64 R.c] 22)).alloc (.cells #[.string p.id, .int .i64 p.prio, .bool p.crit, .int .i64 p.r0, .int .i64 p.r1, .int .i64 p.r2, .int .i64 p.l0, .int .i64 p.l1, .int .i64 p.l2, .string p.img, .int .i64 p.size] 25)).cell? ⟨w.heap.size + 1, 9, none⟩ = some (.string p.img) := by first | (simp; done) | (rw [World.cell?_alloc_at _ _ _ _ (by simp)]; rfl) | (rw [World.cell?_alloc_past _ _ _ (by simp <;> omega), World.cell?_alloc_at _ _ _ _ (by simp)]; rfl) | (rw [World.cell?_alloc_past _ _ _ (by simp <;> omega), World.cell?_alloc_past _ _ _ (by simp <;> omega), World.cell?_alloc_at _ _ _ _ (by simp)]; rfl)
  have pp10 : ((w.alloc (.cells #[.int .i64 R.a, .int .i64 R.b, .int .i64 R.c] 22)).alloc (.cells #[.string p.id, .int .i64 p.prio, .bool p.crit, .int .i64 p.r0, .int .i64 p.r1, .int .i64 p.r2, .int .i64 p.l0, .int .i64 p.l1, .int .i64 p.l2, .string p.img, .int .i64 p.size] 25)).cell? ⟨w.heap.size + 1, 10, none⟩ = some (.int .i64 p.size) := by first | (simp; done) | (rw [World.cell?_alloc_at _ _ _ _ (by simp)]; rfl) | (rw [World.cell?_alloc_past _ _ _ (by simp <;> omega), World.cell?_alloc_at _ _ _ _ (by simp)]; rfl) | (rw [World.cell?_alloc_past _ _ _ (by simp <;> omega), World.cell?_alloc_past _ _ _ (by simp <;> omega), World.cell?_alloc_at _ _ _ _ (by simp)]; rfl)
  have hb2 := (by repeat (first | exact hbel | refine belAlloc ?_ _ | refine belDrew ?_ | refine belSet ?_ _ _ (by simp)) : Below w.heap.size w ((w.alloc (.cells #[.int .i64 R.a, .int .i64 R.b, .int .i64 R.c] 22)).alloc (.cells #[.string p.id, .int .i64 p.prio, .bool p.crit, .int .i64 p.r0, .int .i64 p.r1, .int .i64 p.r2, .int .i64 p.l0, .int .i64 p.l1, .int .i64 p.l2, .string p.img, .int .i64 p.size] 25)))
  replace hw := belStep hw hb2
  clear hb2 hbel
  generalize (w.alloc (.cells #[.int .i64 R.a, .int .i64 R.b, .int .i64 R.c] 22)).alloc (.cells #[.string p.id, .int .i64 p.prio, .bool p.crit, .int .i64 p.r0, .int .i64 p.r1, .int .i64 p.r2, .int .i64 p.l0, .int .i64 p.l1, .int .i64 p.l2, .string p.img, .int .i64 p.size] 25) = W1 at *
  replace rm0 := keep rm0
  replace rm1 := keep rm1
  replace rm2 := keep rm2
  replace pp0 := keep pp0
  replace pp1 := keep pp1
  replace pp2 := keep pp2
  replace pp3 := keep pp3
  replace pp4 := keep pp4
  replace pp5 := keep pp5
  replace pp6 := keep pp6
  replace pp7 := keep pp7
  replace pp8 := keep pp8
  replace pp9 := keep pp9
  replace pp10 := keep pp10
  have hbel : Below W1.heap.size W1 W1 := Below.refl _ _
  skip
  go_upto_region 3 with (first | (go_at_call 12; (with_reducible refine (awake21 _).mono ?_); rintro e w1 ⟨rfl, hb1⟩; replace hbel := belStep hbel hb1; clear hb1) | (go_at_call 13; (with_reducible refine (CF.out _ (belStep hw hbel)).mono ?_); rintro e w3 ⟨⟨b, rfl, hfit⟩, hb3⟩; replace hbel := belStep hbel hb3; clear hb3; have HF := Lib.hid hfit; clear hfit; rcases b with _ | _))
  · go_ret
    exact ⟨rfl, belStep hw hbel⟩
  replace HF := Lib.hid (HF.out (by trivial))
  go_upto_region 4 with (go_at_call 16; (with_reducible refine (CW.out _ HF.out (belStep hw hbel)).mono ?_); rintro e w4 ⟨⟨b4, n4, c4, rfl, hn4⟩, hb4⟩; replace hbel := belStep hbel hb4; clear hb4)
  have HN4 := Lib.hid hn4
  clear hn4
  have HO0 := Lib.hid (OwnR.mono (own_one w4 p) (Below.size hbel))
  have HB0 := Lib.hid (belAlloc hbel (.cells #[.string p.id, .int .i64 p.prio, .bool p.crit, .int .i64 p.r0, .int .i64 p.r1, .int .i64 p.r2, .int .i64 p.l0, .int .i64 p.l1, .int .i64 p.l2, .string p.img, .int .i64 p.size] 25))
  have HW1 := Lib.hid hw
  have hlen : L.length ≤ 1000 := by have := HF.out.len; omega
  have hz1 := hw.size
  go_wp2
  clear hw hbel
  go_loopw [9, 10] (fun s i wr => ∃ k : Nat, k ≤ L.length ∧ i = .int .i64 k ∧ OwnR wr W1.heap.size 25 11 s ([p] ++ (L.take k).filter (fun v => !mayB p v)).length (([p] ++ (L.take k).filter (fun v => !mayB p v)).flatMap PodV.cells) ∧ Below W1.heap.size W1 wr) (fun _ i _ => L.length - (intOf i).toNat)
  case atStart => exact ⟨0, Nat.zero_le _, rfl, HO0.out, HB0.out⟩
  case round =>
    obtain ⟨k, hk, rfl, hS, hbr⟩ := hrel
    have hbel := hbr
    have hw : Below W1.heap.size W1 W1 := Below.refl _ _
    clear hbr HB0 HO0
    replace rm0 := keepOnP rm0 hbel
    replace rm1 := keepOnP rm1 hbel
    replace rm2 := keepOnP rm2 hbel
    replace pp0 := keepOnP pp0 hbel
    replace pp1 := keepOnP pp1 hbel
    replace pp2 := keepOnP pp2 hbel
    replace pp3 := keepOnP pp3 hbel
    replace pp4 := keepOnP pp4 hbel
    replace pp5 := keepOnP pp5 hbel
    replace pp6 := keepOnP pp6 hbel
    replace pp7 := keepOnP pp7 hbel
    replace pp8 := keepOnP pp8 hbel
    replace pp9 := keepOnP pp9 hbel
    replace pp10 := keepOnP pp10 hbel
    replace hw := belStep hw hbel
    clear hbel
    generalize wr = W2 at *
    have hbel : Below W2.heap.size W2 W2 := Below.refl _ _
    have HWW := Lib.hid (HW1.out.trans (hw.mono HW1.out.size))
    have hz2 := hw.size
    by_cases hlt : k < L.length
    · obtain ⟨x, hx⟩ : ∃ x, L[k]? = some x := ⟨L[k], List.getElem?_eq_getElem hlt⟩
      obtain ⟨b, off, rfl, _, hc⟩ := (HR.out.later HWW.out).elem PodV.cells_len (by omega) hx
      have c0 := keep (hc 0 _ rfl)
      have c1 := keep (hc 1 _ rfl)
      have c2 := keep (hc 2 _ rfl)
      have c3 := keep (hc 3 _ rfl)
      have c4 := keep (hc 4 _ rfl)
      have c5 := keep (hc 5 _ rfl)
      have c6 := keep (hc 6 _ rfl)
      have c7 := keep (hc 7 _ rfl)
      have c8 := keep (hc 8 _ rfl)
      have c9 := keep (hc 9 _ rfl)
      have c10 := keep (hc 10 _ rfl)
      rw [Nat.add_zero] at c0
      have hf2 := filt_len (fun v => !mayB p v) L k
      have hd : decide ((k : Int) < (L.length : Int)) = true := decide_eq_true (by omega)
      clear hc
      rcases Bool.eq_false_or_eq_true (mayB p x) with hm | hm
      · have HN2 := Lib.hid (filt_same (f := fun v => !mayB p v) hx (by rw [hm]; rfl))
        have CM := Lib.hid (fun v => hm ▸ vic_May p x v)
        have HS := Lib.hid hS
        clear hx hm hS CW CS CA
        go_upto_region 8 with fail
        have kk := fun d os => belStep hbel (below_regrown _ d os)
        refine wp_region_quiet_below (by kernel_rfl) (by kernel_rfl) ?_
        repeat ((with_reducible refine wpQuiet_step (fun K hK => ?_)); go_simp; (try (rw [if_neg]; rotate_left; · decide)); first | ((with_reducible refine hK _ ?_); clear hK K) | (apply Exists.intro; refine ⟨fun _ => ?_, hK _ ?_⟩; (first | (go_at_call 14; with_reducible exact Calls.regrown_of (CM.out _))); clear hK K))
        refine wpQuiet_nil (fun w1 hw1 => ?_)
        replace hbel := belStep hbel (bel_of_class hw1)
        clear hw1 kk
        go_wp2
        go_roundw
        case rel => exact ⟨k + 1, by omega, by push_cast; rfl, by rw [HN2.out]; exact HS.out.later hbel, belStep hw hbel⟩
        case measure => simp [intOf] <;> omega
      · have HN2 := Lib.hid (filt_next (f := fun v => !mayB p v) hx (by rw [hm]; rfl))
        have CM := Lib.hid (fun v => hm ▸ vic_May p x v)
        have HS := Lib.hid hS
        clear hx hm hS CW CS CA
        go_upto_region 8 with fail
        have kk := fun d os => belStep hbel (below_regrown _ d os)
        refine wp_region_quiet_below (by kernel_rfl) (by kernel_rfl) ?_
        repeat ((with_reducible refine wpQuiet_step (fun K hK => ?_)); go_simp; (try (rw [if_neg]; rotate_left; · decide)); first | ((with_reducible refine hK _ ?_); clear hK K) | (apply Exists.intro; refine ⟨fun _ => ?_, hK _ ?_⟩; (first | (go_at_call 14; with_reducible exact Calls.regrown_of (CM.out _))); clear hK K))
        refine wpQuiet_nil (fun w1 hw1 => ?_)
        replace hbel := belStep hbel (bel_of_class hw1)
        clear hw1 kk
        have HS2 := Lib.hid (OwnR.alloc (HS.out.later hbel) (.cells #[.string x.id, .int .i64 x.prio, .bool x.crit, .int .i64 x.r0, .int .i64 x.r1, .int .i64 x.r2, .int .i64 x.l0, .int .i64 x.l1, .int .i64 x.l2, .string x.img, .int .i64 x.size] 25))
        have HRX := Lib.hid (row_new w1 x.cells 25 1 11 rfl (by unfold maxLen; omega))
        go_wp2_with (at_builtin; refine wpList_app_keep rfl _ _ 23 rfl W1.heap.size 25 _ 11 104 Try.underlying23 info_pod rfl (by decide) _ _ _ rfl HS2.out _ 1 1 x.cells rfl HRX.out (pod_one x) ?c1 ?c2 ?c3 ?_)
        case c1 => simp only [maxLen, List.length_append, List.length_cons, List.length_nil]; omega
        case c2 => simp only [List.length_append, List.length_cons, List.length_nil]; omega
        case c3 => have h1 := hw.size; have h2 := hbel.size; simp; omega
        intro v' w2 ho' _ hb' _ _
        have HO2 := Lib.hid ho'
        have HB2 := Lib.hid ((belAlloc (belStep hw hbel) (.cells #[.string x.id, .int .i64 x.prio, .bool x.crit, .int .i64 x.r0, .int .i64 x.r1, .int .i64 x.r2, .int .i64 x.l0, .int .i64 x.l1, .int .i64 x.l2, .string x.img, .int .i64 x.size] 25)).trans hb')
        clear ho' hb' hw hbel
        go_wp2
        go_roundw
        case rel => exact ⟨k + 1, by omega, by push_cast; rfl, by rw [HN2.out, ← List.append_assoc]; exact own_snoc HO2.out, HB2.out⟩
        case measure => simp [intOf] <;> omega
    · obtain rfl : k = L.length := by omega
      rw [List.take_length] at hS
      have hd : decide ((L.length : Int) < (L.length : Int)) = false := decide_eq_false (by omega)
      have HS := Lib.hid hS
      clear hS CW
      go_upto_region 10 with fail
      replace hw : Below W2.heap.size W2 W2 := hbel
      refine wp_region_held_drew (S := fun u => Below W2.heap.size W2 u) (by kernel_rfl) (by exact (show Below W2.heap.size W2 _ by repeat (first | assumption | exact Below.refl _ _ | refine belDrew ?_ | refine belAlloc ?_ _ | refine belStep ?_ (by assumption)))) (fun hHeld => ?_)
      refine wpAnyH_take (i := 1) (oi := ?oi_k1) (v := ?v_k1) ?hi_k1 (by kernel_rfl) ?hf_k1 ?hr_k1 ?hQ_k1 (Or.inl ⟨?hw_k1, ?hy_k1⟩) (by assumption) ?rest_k1
      case hi_k1 => ((simp only [List.getElem?_toArray, List.getElem?_cons_succ, List.getElem?_cons_zero]); rfl)
      case hf_k1 => kernel_rfl
      case hr_k1 => kernel_rfl
      case hQ_k1 => exact fun _ _ _ h => h
      case hw_k1 => rfl
      case hy_k1 => ((intro w hSw; (try dsimp only at hSw); go_simp); all_goals (with_reducible rfl))
      try simp only [Act.put, List.setIfInBounds_toArray, List.set_cons_zero, List.set_cons_succ]
      refine wpAnyH_take (i := 3) (oi := ?oi_k2) (v := ?v_k2) ?hi_k2 (by kernel_rfl) ?hf_k2 ?hr_k2 ?hQ_k2 (Or.inl ⟨?hw_k2, ?hy_k2⟩) (by assumption) ?rest_k2
      case hi_k2 => ((simp only [List.getElem?_toArray, List.getElem?_cons_succ, List.getElem?_cons_zero]); rfl)
      case hf_k2 => kernel_rfl
      case hr_k2 => kernel_rfl
      case hQ_k2 => exact fun _ _ _ h => h
      case hw_k2 => rfl
      case hy_k2 => ((intro w hSw; (try dsimp only at hSw); go_simp); all_goals (with_reducible rfl))
      try simp only [Act.put, List.setIfInBounds_toArray, List.set_cons_zero, List.set_cons_succ]
      refine krip (fun u u' => Below u.heap.size u u') [51, 53, 55] [[], [], [0], [], [], [0, 2, 4], [0, 2, 4]] [[51], [], [53], [], [55], [], []] [0, 2, 4] (krF [(0, fun t u => ∃ g : Nat, t 51 = .slice (some ⟨g, 0, none⟩) 0 0 ∧ OwnR u (W2.heap.size) 25 11 (.slice (some ⟨g, 0, none⟩) 0 0) 0 []), (2, fun t u => OwnR u (W2.heap.size) 25 11 (t 53) (L.length) (L.flatMap PodV.cells)), (4, fun t u => ∃ g : Nat, t 55 = .slice (some ⟨g, 0, none⟩) 1 1 ∧ Row u (some ⟨g, 0, none⟩) 1 1 11 (p.cells))]) 2 #[true, true, true, true, true, false, false] (by kernel_rfl) (by kernel_rfl) (by kernel_rfl) (by assumption) (AllL.cons ?s_0_q3 (AllL.cons ?s_2_q3 (AllL.cons ?s_4_q3 AllL.nil))) (AllL.cons ?o_0_q3 (AllL.cons ?o_2_q3 (AllL.cons ?o_4_q3 AllL.nil))) ?e_q3
      case s_0_q3 => exact fun t u u' hle ⟨g, e, h⟩ => ⟨g, e, OwnR.later h hle⟩
      case s_2_q3 => exact fun t u u' hle h => OwnR.later h hle
      case s_4_q3 => exact fun t u u' hle ⟨g, e, h⟩ => ⟨g, e, Row.later h hle⟩
      case o_0_q3 =>
        refine KrOp.of (o := ?oo_0_q3) ?hi_0_q3 (fun t u hHeld hF K hK => ?rr_0_q3)
        case hi_0_q3 => ((simp only [List.getElem?_toArray, List.getElem?_cons_succ, List.getElem?_cons_zero]); rfl)
        case rr_0_q3 =>
          clear hF
          simp only [setl, List.foldl_cons, List.foldl_nil, Act.put, List.setIfInBounds_toArray, List.set_cons_zero, List.set_cons_succ] at hK ⊢
          go_simp
          refine hK.out _ _ (by exact (by repeat (first | assumption | exact Below.refl _ _ | refine belDrew ?_ | refine belAlloc ?_ _ | refine belStep ?_ (by assumption)))) (by exact (show Below W2.heap.size W2 _ by repeat (first | assumption | exact Below.refl _ _ | refine belDrew ?_ | refine belAlloc ?_ _ | refine belStep ?_ (by assumption)))) ?_
          exact ⟨_, rfl, OwnR.mono (own_empty _ _ 11) (Below.size hHeld)⟩
      case o_2_q3 =>
        refine KrOp.of (o := ?oo_2_q3) ?hi_2_q3 (fun t u hHeld hF K hK => ?rr_2_q3)
        case hi_2_q3 => ((simp only [List.getElem?_toArray, List.getElem?_cons_succ, List.getElem?_cons_zero]); rfl)
        case rr_2_q3 =>
          have h0 : ∃ g : Nat, t 51 = .slice (some ⟨g, 0, none⟩) 0 0 ∧ OwnR u (W2.heap.size) 25 11 (.slice (some ⟨g, 0, none⟩) 0 0) 0 [] := hF 0 rfl rfl
          clear hF
          simp only [setl, List.foldl_cons, List.foldl_nil, Act.put, List.setIfInBounds_toArray, List.set_cons_zero, List.set_cons_succ] at hK ⊢
          generalize t 51 = x51 at *
          obtain ⟨g0, rfl, ho0⟩ := h0
          refine op_first rfl _ _ 23 rfl (W2.heap.size) 25 _ 11 104 Try.underlying23 info_pod rfl (by decide) g0 (by rfl) ho0 (a) (L.length) (cap) (L.flatMap PodV.cells) (by rfl) (HR.out.later (belStep HWW.out hHeld)) (pods_one _) (by have := hlen; unfold maxLen; omega) (by have := hlen; omega) (Below.size hHeld) ?_
          intro v4 w4 ho4 hb4
          refine hK.out _ _ (by exact (by repeat (first | assumption | exact Below.refl _ _ | refine belDrew ?_ | refine belAlloc ?_ _ | refine belStep ?_ (by assumption)))) (by exact (show Below W2.heap.size W2 _ by repeat (first | assumption | exact Below.refl _ _ | refine belDrew ?_ | refine belAlloc ?_ _ | refine belStep ?_ (by assumption)))) ?_
          exact ho4
      case o_4_q3 =>
        refine KrOp.of (o := ?oo_4_q3) ?hi_4_q3 (fun t u hHeld hF K hK => ?rr_4_q3)
        case hi_4_q3 => ((simp only [List.getElem?_toArray, List.getElem?_cons_succ, List.getElem?_cons_zero]); rfl)
        case rr_4_q3 =>
          clear hF
          simp only [setl, List.foldl_cons, List.foldl_nil, Act.put, List.setIfInBounds_toArray, List.set_cons_zero, List.set_cons_succ] at hK ⊢
          go_simp
          refine hK.out _ _ (by exact (by repeat (first | assumption | exact Below.refl _ _ | refine belDrew ?_ | refine belAlloc ?_ _ | refine belStep ?_ (by assumption)))) (by exact (show Below W2.heap.size W2 _ by repeat (first | assumption | exact Below.refl _ _ | refine belDrew ?_ | refine belAlloc ?_ _ | refine belStep ?_ (by assumption)))) ?_
          exact ⟨_, rfl, row_new _ (p.cells) 25 1 11 rfl (by unfold maxLen; omega)⟩
      case e_q3 =>
        intro t u hHeld hF
        have h0 : ∃ g : Nat, t 51 = .slice (some ⟨g, 0, none⟩) 0 0 ∧ OwnR u (W2.heap.size) 25 11 (.slice (some ⟨g, 0, none⟩) 0 0) 0 [] := hF 0 rfl
        have h2 : OwnR u (W2.heap.size) 25 11 (t 53) (L.length) (L.flatMap PodV.cells) := hF 2 rfl
        have h4 : ∃ g : Nat, t 55 = .slice (some ⟨g, 0, none⟩) 1 1 ∧ Row u (some ⟨g, 0, none⟩) 1 1 11 (p.cells) := hF 4 rfl
        clear hF
        simp only [setl, List.foldl_cons, List.foldl_nil, Act.put, List.setIfInBounds_toArray, List.set_cons_zero, List.set_cons_succ]
        generalize t 51 = x51 at *
        generalize t 53 = x53 at *
        generalize t 55 = x55 at *
        obtain ⟨g1, rfl, hr1⟩ := h4
        obtain ⟨g0, rfl, ho0⟩ := h0
        have HO24 := Lib.hid h2
        clear h2
        refine wpAnyH_ready (rs := [5]) (by kernel_rfl) (by simp) ?_
        refine AllReadyH.cons (o := ?o1_kz10) ?hi_kz10 (fun K hK => ?rest_kz10) AllReadyH.nil
        case hi_kz10 => ((simp only [List.getElem?_toArray, List.getElem?_cons_succ, List.getElem?_cons_zero]); rfl)
        refine op_appR rfl _ _ 23 rfl (W2.heap.size) 25 _ 11 104 Try.underlying23 info_pod rfl (by decide) _ (L.length) _ (by rfl) HO24.out _ 1 1 (p.cells) (by rfl) hr1 (pod_one _) (by have := hlen; unfold maxLen; omega) (by have := hlen; omega) (Below.size hHeld) ?_
        intro v5 u5 ho5 hb5
        have hu5 : Below W2.heap.size W2 u5 := hHeld.trans hb5
        refine hK.out _ _ (by exact hu5) (fun hHeld => ?_)
        clear hK K
        try simp only [Act.put, List.setIfInBounds_toArray, List.set_cons_zero, List.set_cons_succ]
        refine wpAnyH_take (i := 6) (oi := ?oi_k4) (v := ?v_k4) ?hi_k4 (by kernel_rfl) ?hf_k4 ?hr_k4 ?hQ_k4 (Or.inl ⟨?hw_k4, ?hy_k4⟩) (by assumption) ?rest_k4
        case hi_k4 => ((simp only [List.getElem?_toArray, List.getElem?_cons_succ, List.getElem?_cons_zero]); rfl)
        case hf_k4 => kernel_rfl
        case hr_k4 => kernel_rfl
        case hQ_k4 => exact fun _ _ _ h => h
        case hw_k4 => rfl
        case hy_k4 => ((intro w hSw; (try dsimp only at hSw); go_simp); all_goals (with_reducible rfl))
        try simp only [Act.put, List.setIfInBounds_toArray, List.set_cons_zero, List.set_cons_succ]
        refine wpAnyH_done (by kernel_rfl) ?_ _
        clear hHeld HO24 hr1 ho0 hb5
        replace hbel := hu5
        have HO5 := Lib.hid ho5
        clear hu5 ho5
        have HS5 := Lib.hid (HS.out.later hbel)
        have HW5 := Lib.hid (belStep HWW.out hbel)
        clear HS HWW
        replace rm0 := keepOnP rm0 hbel
        replace rm1 := keepOnP rm1 hbel
        replace rm2 := keepOnP rm2 hbel
        replace pp0 := keepOnP pp0 hbel
        replace pp1 := keepOnP pp1 hbel
        replace pp2 := keepOnP pp2 hbel
        replace pp3 := keepOnP pp3 hbel
        replace pp4 := keepOnP pp4 hbel
        replace pp5 := keepOnP pp5 hbel
        replace pp6 := keepOnP pp6 hbel
        replace pp7 := keepOnP pp7 hbel
        replace pp8 := keepOnP pp8 hbel
        replace pp9 := keepOnP pp9 hbel
        replace pp10 := keepOnP pp10 hbel
        replace hw := belStep hw hbel
        clear hbel
        generalize u5 = W3 at *
        have hbel : Below W3.heap.size W3 W3 := Below.refl _ _
        have CT := Lib.hid (fun v (hv : Below W3.heap.size W3 v) => CS.out v _ _ (HS5.out.later hv))
        have CU := Lib.hid (fun v (hv : Below W3.heap.size W3 v) => CA.out v _ _ (own_snoc (HO5.out.later hv)))
        clear HS5 HO5 CS CA
        rcases HN4.out with ⟨f1, f2, f3⟩ | ⟨f1, f2, f3⟩ | ⟨f1, f2⟩
        all_goals
          rw [f1] at CT ⊢
          rw [f2] at CU
          clear HN4 f1 f2
          go_wp2_with (first | (go_at_call 18; (with_reducible refine (CT.out _ hbel).mono ?_); rintro e w1 ⟨rfl, hb1⟩; replace hbel := belStep hbel hb1; clear hb1) | (go_at_call 18; (with_reducible refine (CU.out _ hbel).mono ?_); rintro e w1 ⟨rfl, hb1⟩; replace hbel := belStep hbel hb1; clear hb1))
          go_ret
          exact ⟨rfl, belStep HW5.out hbel⟩

set_option maxRecDepth 100000 in
theorem lifted (os : Os) (started : os.Started) (H : Type) (enc : TypeId × Value → H) :
    ReturnsInHanded {} Try.checked os 6 .any (Rows.victimWaySpec.pre6 enc Try.prog Try.f6 Rows.victimWayRow.domain false) (Rows.victimWaySpec.post enc Try.prog Try.f6 false true false false) := by
  refine returnsInHanded_of_change (C := Try.checked) own started (by kernel_rfl) Try.func6
    (ChangeSpec.witness6 (enc := enc) (C := Try.checked) false ⟨#[], #[.agg #[.int .i64 0, .int .i64 0, .int .i64 0], .slice none 0 0, .agg #[.string ByteArray.empty, .int .i64 0, .bool false, .int .i64 0, .int .i64 0, .int .i64 0, .int .i64 0, .int .i64 0, .int .i64 0, .string ByteArray.empty, .int .i64 0]], []⟩ 8 (by kernel_rfl) (by kernel_rfl) (by kernel_rfl) (by kernel_rfl)) ?_
  intro W base args ds gs before hval0 hW hcnd _
  have hval : ∀ (j : Nat) t v, Try.f6.params[j]? = some t → args[j]? = some v → Value.okWide Try.prog W .any base t v := hval0
  have hW' := hW
  obtain ⟨p, q, hA0, hV, rfl, hfz, hnd⟩ := hW
  have hA : DataW.TrodAll enc Try.prog W 0 (fun _ => true) true Try.f6.params.toList args.toList ds p := hA0
  rw [Try.params6] at hA hval
  obtain ⟨v0, vs0, d0, ds0, p0, q0, hargs, rfl, rfl, h0, r0⟩ := trodAll_cons hA
  obtain ⟨v1, vs1, d1, ds1, p1, q1, rfl, rfl, rfl, h1, r1⟩ := trodAll_cons r0
  obtain ⟨v2, vs2, d2, ds2, p2, q2, rfl, rfl, rfl, h2, r2⟩ := trodAll_cons r1
  obtain ⟨rfl, rfl, rfl⟩ := trodAll_nil r2
  obtain rfl : args = #[v0, v1, v2] := by cases args; simp_all
  obtain ⟨rfl, rfl⟩ := trodVars_none hV
  have k0 := h0
  have lt0 : ∀ x ∈ p0, x.block < W.heap.size := by obtain ⟨m, hm⟩ := k0; exact DataW.trod_lt m _ _ _ hm
  have o0 : Value.okWide Try.prog W .any base 22 v0 := hval 0 22 v0 rfl rfl
  obtain ⟨R0, rfl, f0, g0, h0⟩ := open_room o0 h0
  have k1 := h1
  have lt1 : ∀ x ∈ p1, x.block < W.heap.size := by obtain ⟨m, hm⟩ := k1; exact DataW.trod_lt m _ _ _ hm
  have o1 : Value.okWide Try.prog W .any base 23 v1 := hval 1 23 v1 rfl rfl
  obtain ⟨a1, len1, cap1, L1, rfl, f1, g1, i1⟩ := open_pods o1 h1
  have k2 := h2
  have lt2 : ∀ x ∈ p2, x.block < W.heap.size := by obtain ⟨m, hm⟩ := k2; exact DataW.trod_lt m _ _ _ hm
  have o2 : Value.okWide Try.prog W .any base 25 v2 := hval 2 25 v2 rfl rfl
  obtain ⟨p2, rfl, f2⟩ := open_pod o2 h2
  clear hA0 hval0
  refine (walk R0 a1 len1 cap1 L1 p2 W f0 g0 h0 f1 g1 i1 f2).mono fun e W' ⟨he, bel⟩ => ?_
  subst he
  exact ⟨_, rfl, _, _, _, [], _, [], hW', trodAll_mk1 (shut_bool Try.underlying4 _), (trodAll_cons_mk (Below.trod laidOut (by kernel_rfl) (of_decide_eq_true (by kernel_rfl)) k0 bel lt0) (trodAll_cons_mk (Below.trod laidOut (by kernel_rfl) (of_decide_eq_true (by kernel_rfl)) k1 bel lt1) (trodAll_cons_mk (Below.trod laidOut (by kernel_rfl) (of_decide_eq_true (by kernel_rfl)) k2 bel lt2) trodAll_mk0))), rfl, bel.frame _, fun h => by cases h⟩

theorem over : Rows.victimWayRow.holds Try.pinned (OpenSpec.ofChange Rows.victimWaySpec) :=
  OpenClaim.holds_of_wide 6 Try.f6 rfl rfl rfl rfl rfl rfl rfl ⟨rfl, rfl, rfl, rfl, rfl⟩ rfl rfl rfl rfl rfl (by kernel_rfl) Try.func6 (by kernel_rfl)
    (of_decide_eq_true (by kernel_rfl)) (by unfold Func.isWrapper; first | (rw [if_pos (by decide +kernel)]; kernel_rfl) | (rw [if_neg (by decide +kernel)]; exact ⟨rfl, rfl⟩))
    (fun os started H enc _ => lifted os started H enc)

/-- The statement. -/
theorem proved : Rows.VictimWaySaid := over
#print axioms proved

end Go.Proofs.Ytnnmganjlhojfaa.victimWay
