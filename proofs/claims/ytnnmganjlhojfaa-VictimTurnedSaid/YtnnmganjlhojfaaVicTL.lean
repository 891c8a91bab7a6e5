/- VictimTurned holds for every room, list of pods, pod and place. No conditions. -/
import Derived.Test.YtnnmganjlhojfaaVicT
namespace Go.Proofs.Ytnnmganjlhojfaa.victimTurned
open Go.ChangeShapes Go.WideShapes Go.ChangeAt Go.RowKit
open Go.ChangeMaps (open_string shut_string)
set_option linter.unusedVariables false
set_option linter.unusedSimpArgs false

theorem rev_drop {L : List PodV} {k : Nat} {x : PodV} (h : L[k]? = some x) : (L.drop k).reverse = (L.drop (k + 1)).reverse ++ [x] := by
  obtain ⟨hk, rfl⟩ := List.getElem?_eq_some_iff.1 h
  rw [List.drop_eq_getElem_cons hk, List.reverse_cons]
theorem turn_at {n : Nat} {z : Int} (h : 0 ≤ z) : ∃ k : Nat, Int.tmod z ((n : Int) + 1) = (k : Int) ∧ k ≤ n := by
  refine ⟨(Int.tmod z ((n : Int) + 1)).toNat, ?_, ?_⟩
  · have := Int.tmod_nonneg ((n : Int) + 1) h
    omega
  · have := Int.tmod_lt_of_pos z (show (0 : Int) < (n : Int) + 1 by omega)
    omega
theorem turn_perm (L : List PodV) (k : Nat) : (L.drop k ++ L.take k).Perm L := by
  have h : (L.drop k ++ L.take k).Perm (L.take k ++ L.drop k) := List.perm_append_comm
  rw [List.take_append_drop] at h
  exact h
theorem turn_own {w : World} {B : Nat} {v : Value} {L : List PodV} {k : Nat} (hk : k ≤ L.length) (h : OwnR w B 25 11 v (L.length - k + k) ((L.drop k).flatMap PodV.cells ++ (L.take k).flatMap PodV.cells)) :
    OwnR w B 25 11 v (L.drop k ++ L.take k).length ((L.drop k ++ L.take k).flatMap PodV.cells) := by
  rw [List.flatMap_append, List.length_append, List.length_drop, List.length_take, Nat.min_eq_left hk]
  exact h
theorem choose_own (R : Room) (p : PodV) (c : Option (List ByteArray)) (L M : List PodV) (hok : ∀ x ∈ L, x.ok) (hd : Dist L) (hb : L.length ≤ 1000) (hp : p.ok) (hc : chooseF R L p = c) (hm : M.Perm L) {v : World} {B : Nat} {s : Value} (h : OwnR v B 25 11 s M.length (M.flatMap PodV.cells)) :
    Calls Try.prog 16 #[.agg #[.int .i64 R.a, .int .i64 R.b, .int .i64 R.c], s, .agg #[.string p.id, .int .i64 p.prio, .bool p.crit, .int .i64 p.r0, .int .i64 p.r1, .int .i64 p.r2, .int .i64 p.l0, .int .i64 p.l1, .int .i64 p.l2, .string p.img, .int .i64 p.size]] v fun e w' => (∃ b n, e = .returned (.tuple #[.slice b (c.getD []).length n, .bool c.isSome]) ∧ Row w' b (c.getD []).length n 1 ((c.getD []).map Value.string)) ∧ Below v.heap.size v w' := by
  obtain ⟨a, cap, rfl, hr⟩ := rowR_of_own h
  exact choose_call R p c a M.length cap M v rfl (fun x hx => hok x (hm.subset hx)) hr (hd.perm hm.symm) (by rw [hm.length_eq]; exact hb) hp (by rw [choose_perm R p hd hm]; exact hc)

set_option maxRecDepth 100000 in
set_option maxHeartbeats 16000000 in
theorem walk (R : Room) (a : Option Addr) (len cap : Nat) (L : List PodV) (p : PodV) (at0 : Int) (w : World) (hra : InI R.a) (hrb : InI R.b) (hrc : InI R.c) (hl : L.length = len) (hok : ∀ x ∈ L, x.ok) (hR : Row w a len cap 11 (L.flatMap PodV.cells)) (hp : p.ok) (hat : 0 ≤ at0 ∧ at0 ≤ 255) :
    Calls Try.prog 8 #[.agg #[.int .i64 R.a, .int .i64 R.b, .int .i64 R.c], .slice a len cap, p.v, .int .u8 at0] w fun e w' => e = .returned (.bool true) ∧ Below w.heap.size w w' := by
  unfold PodV.v
  have hw : Below w.heap.size w w := Below.refl _ _
  have hbel := hw
  have HR := Lib.hid hR
  have hbd : len ≤ cap ∧ cap ≤ 9223372036854775807 := by obtain ⟨_, h1, h2, _⟩ := hR; unfold maxLen at h2; exact ⟨h1, h2⟩
  obtain ⟨hbd1, hbd2⟩ := hbd
  obtain ⟨c, hc⟩ : ∃ c, chooseF R L p = c := ⟨_, rfl⟩
  have CF := Lib.hid (fun v (hv : Below w.heap.size w v) => vref_Fit R p a len cap L v hl hok (HR.out.later hv) hp)
  have CX := Lib.hid (fun (hf : FitOK R L p) v (hv : Below w.heap.size w v) => choose_call R p c a len cap L v hl hok (HR.out.later hv) hf.dist (by have := hf.len; omega) hp hc)
  have CY := Lib.hid (fun (hf : FitOK R L p) (M : List PodV) (hm : M.Perm L) (v : World) (B : Nat) (s : Value) (h : OwnR v B 25 11 s M.length (M.flatMap PodV.cells)) => choose_own R p c L M hok hf.dist (by have := hf.len; omega) hp hc hm h)
  subst hl
  clear hra hrb hrc hok hR hp hc
  go_enter Try.func8, Try.ntmps8
  go_upto_region 1 with fail
  have rm0 : ((w.alloc (.cells #[.int .i64 R.a, .int .i64 R.b, .int .i64 R.c] 22)).alloc (.cells #[.string p.id, .int .i64 p.prio, .bool p.crit, .int .i64 p.r0, .int .i64 p.r1, .int .i64 p.r2, .int .i64 p.l0, .int .i64 p.l1, .int .i64 p.l2, .string p.img, .int .i64 p.size] 25)).cell? ⟨w.heap.size, 0, none⟩ = some (.int .i64 R.a) := by first | (simp; done) | (rw [World.cell?_alloc_at _ _ _ _ (by simp)]; rfl) | (rw [World.cell?_alloc_past _ _ _ (by simp <;> omega), World.cell?_alloc_at _ _ _ _ (by simp)]; rfl) | (rw [World.cell?_alloc_past _ _ _ (by simp <;> omega), World.cell?_alloc_past _ _ _ (by simp <;> omega), World.cell?_alloc_at _ _ _ _ (by simp)]; rfl)
  have rm1 : ((w.alloc (.cells #[.int .i64 R.a, .int .i64 R.b, .int .i64 R.c] 22)).alloc (.cells #[.string p.id, .int .i64 p.prio, .bool p.crit, .int .i64 p.r0, .int .i64 p.r1, .int .i64 p.r2, .int .i64 p.l0, .int .i64 p.l1, .int .i64 p.l2, .string p.img, .int .i64 p.size] 25)).cell? ⟨w.heap.size, 1, none⟩ = some (.int .i64 R.b) := by first | (simp; done) | (rw [World.cell?_alloc_at _ _ _ _ (by simp)]; rfl) | (rw [World.cell?_alloc_past _ _ _ (by simp <;> omega), World.cell?_alloc_at _ _ _ _ (by simp)]; rfl) | (rw [World.cell?_alloc_past _ _ _ (by simp <;> omega), World.cell?_alloc_past _ _ _ (by simp <;> omega), World.cell?_alloc_at _ _ _ _ (by simp)]; rfl)
  have rm2 : ((w.alloc (.cells #[.int .i64 R.a, .int .i64 R.b, .int .i64 R.c] 22)).alloc (.cells #[.string p.id, .int .i64 p.prio, .bool p.crit, .int .i64 p.r0, .int .i64 p.r1, .int .i64 p.r2, .int .i64 p.l0, .int .i64 p.l1, .int .i64 p.l2, .string p.img, .int .i64 p.size] 25)).cell? ⟨w.heap.size, 2, none⟩ = some (.int .i64 R.c) := by first | (simp; done) | (rw [World.cell?_alloc_at _ _ _ _ (by simp)]; rfl) | (rw [World.cell?_alloc_past _ _ _ (by simp <;> omega), World.cell?_alloc_at _ _ _ _ (by simp)]; rfl) | (rw [World.cell?_alloc_past _ _ _ (by simp <;> omega), World.cell?_alloc_past _ _ _ (by simp <;> omega), World.cell?_alloc_at _ _ _ _ (by simp)]; rfl)
  have pp0 : ((w.alloc (.cells #[.int .i64 R.a, .int .i64 R.b, .int .i64 R.c] 22)).alloc (.cells #[.string p.id, .int .i64 p.prio, .bool p.crit, .int .i64 p.r0, .int .i64 p.r1, .int .i64 p.r2, .int .i64 p.l0, .int .i64 p.l1, .int .i64 p.l2, .string p.img, .int .i64 p.size] 25)).cell? ⟨w.heap.size + 1, 0, none⟩ = some (.string p.id) := by first | (simp; done) | (rw [World.cell?_alloc_at _ _ _ _ (by simp)]; rfl) | (rw [World.cell?_alloc_past _ _ _ (by simp <;> omega), World.cell?_alloc_at _ _ _ _ (by simp)]; rfl) | (rw [World.cell?_alloc_past _ _ _ (by simp <;> omega), World.cell?_alloc_past _ _ _ (by simp <;> omega), World.cell?_alloc_at _ _ _ _ (by simp)]; rfl)
  have pp1 : ((w.alloc (.cells #[.int .i64 R.a, .int .i64 R.b, .int .i64 R.c] 22)).alloc (.cells #[.string p.id, .int .i64 p.prio, .bool p.crit, .int .i64 p.r0, .int .i64 p.r1, .int .i64 p.r2, .int .i64 p.l0, .int .i64 p.l1, .int .i64 p.l2, .string p.img, .int .i64 p.size] 25)).cell? ⟨w.heap.size + 1, 1, none⟩ = some (.int .i64 p.prio) := by first | (simp; done) | (rw [World.cell?_alloc_at _ _ _ _ (by simp)]; rfl) | (rw [World.cell?_alloc_past _ _ _ (by simp <;> omega), World.cell?_alloc_at _ _ _ _ (by simp)]; rfl) | (rw [World.cell?_alloc_past _ _ _ (by simp <;> omega), World.cell?_alloc_past _ _ _ (by simp <;> omega), World.cell?_alloc_at _ _ _ _ (by simp)]; rfl)
  have pp2 : ((w.alloc (.cells #[.int .i64 R.a, .int .i64 R.b, .int .i64 R.c] 22)).alloc (.cells #[.string p.id, .int .i64 p.prio, .bool p.crit, .int .i64 p.r0, .int .i64 p.r1, .int .i64 p.r2, .int .i64 p.l0, .int .i64 p.l1, .int .i64 p.l2, .string p.img, .int .i64 p.size] 25)).cell? ⟨w.heap.size + 1, 2, none⟩ = some (.bool p.crit) := by first | (simp; done) | (rw [World.cell?_alloc_at _ _ _ _ (by simp)]; rfl) | (rw [World.cell?_alloc_past _ _ _ (by simp <;> omega), World.cell?_alloc_at _ _ _ _ (by simp)]; rfl) | (rw [World.cell?_alloc_past _ _ _ (by simp <;> omega), World.cell?_alloc_past _ _ _ (by simp <;> omega), World.cell?_alloc_at _ _ _ _ (by simp)]; rfl)
  have pp3 : ((w.alloc (.cells #[.int .i64 R.a, .int .i64 R.b, .int .i64 R.c] 22)).alloc (.cells #[.string p.id, .int .i64 p.prio, .bool p.crit, .int .i64 p.r0, .int .i64 p.r1, .int .i64 p.r2, .int .i64 p.l0, .int .i64 p.l1, .int .i64 p.l2, .string p.img, .int .i64 p.size] 25)).cell? ⟨w.heap.size + 1, 3, none⟩ = some (.int .i64 p.r0) := by first | (simp; done) | (rw [World.cell?_alloc_at _ _ _ _ (by simp)]; rfl) | (rw [World.cell?_alloc_past _ _ _ (by simp <;> omega), World.cell?_alloc_at _ _ _ _ (by simp)]; rfl) | (rw [World.cell?_alloc_past _ _ _ (by simp <;> omega), World.cell?_alloc_past _ _ _ (by simp <;> omega), World.cell?_alloc_at _ _ _ _ (by simp)]; rfl)
  have pp4 : ((w.alloc (.cells #[.int .i64 R.a, .int .i64 R.b, .int .i64 R.c] 22)).alloc (.cells #[.string p.id, .int .i64 p.prio, .bool p.crit, .int .i64 p.r0, .int .i64 p.r1, .int .i64 p.r2, .int .i64 p.l0, .int .i64 p.l1, .int .i64 p.l2, .string p.img, .int .i64 p.size] 25)).cell? ⟨w.heap.size + 1, 4, none⟩ = some (.int .i64 p.r1) := by first | (simp; done) | (rw [World.cell?_alloc_at _ _ _ _ (by simp)]; rfl) | (rw [World.cell?_alloc_past _ _ _ (by simp <;> omega), World.cell?_alloc_at _ _ _ _ (by simp)]; rfl) | (rw [World.cell?_alloc_past _ _ _ (by simp <;> omega), World.cell?_alloc_past _ _ _ (by simp <;> omega), World.cell?_alloc_at _ _ _ _ (by simp)]; rfl)
  have pp5 : ((w.alloc (.cells #[.int .i64 R.a, .int .i64 R.b, .int .i64 R.c] 22)).alloc (.cells #[.string p.id, .int .i64 p.prio, .bool p.crit, .int .i64 p.r0, .int .i64 p.r1, .int .i64 p.r2, .int .i64 p.l0, .int .i64 p.l1, .int .i64 p.l2, .string p.img, .int .i64 p.size] 25)).cell? ⟨w.heap.size + 1, 5, none⟩ = some (.int .i64 p.r2) := by first | (simp; done) | (rw [World.cell?_alloc_at _ _ _ _ (by simp)]; rfl) | (rw [World.cell?_alloc_past _ _ _ (by simp <;> omega), World.cell?_alloc_at _ _ _ _ (by simp)]; rfl) | (rw [World.cell?_alloc_past _ _ _ (by simp <;> omega), World.cell?_alloc_past _ _ _ (by simp <;> omega), World.cell?_alloc_at _ _ _ _ (by simp)]; rfl)
  have pp6 : ((w.alloc (.cells #[.int .i64 R.a, .int .i64 R.b, .int .i64 R.c] 22)).alloc (.cells #[.string p.id, .int .i64 p.prio, .bool p.crit, .int .i64 p.r0, .int .i64 p.r1, .int .i64 p.r2, .int .i64 p.l0, .int .i64 p.l1, .int .i64 p.l2, .string p.img, .int .i64 p.size] 25)).cell? ⟨w.heap.size + 1, 6, none⟩ = some (.int .i64 p.l0) := by first | (simp; done) | (rw [World.cell?_alloc_at _ _ _ _ (by simp)]; rfl) | (rw [World.cell?_alloc_past _ _ _ (by simp <;> omega), World.cell?_alloc_at _ _ _ _ (by simp)]; rfl) | (rw [World.cell?_alloc_past _ _ _ (by simp <;> omega), World.cell?_alloc_past _ _ _ (by simp <;> omega), World.cell?_alloc_at _ _ _ _ (by simp)]; rfl)
  have pp7 : ((w.alloc (.cells #[.int .i64 R.a, .int .i64 R.b, .int .i64 R.c] 22)).alloc (.cells #[.string p.id, .int .i64 p.prio, .bool p.crit, .int .i64 p.r0, .int .i64 p.r1, .int .i64 p.r2, .int .i64 p.l0, .int .i64 p.l1, .int .i64 p.l2, .string p.img, .int .i64 p.size] 25)).cell? ⟨w.heap.size + 1, 7, none⟩ = some (.int .i64 p.l1) := by first | (simp; done) | (rw [World.cell?_alloc_at _ _ _ _ (by simp)]; rfl) | (rw [World.cell?_alloc_past _ _ _ (by simp <;> omega), World.cell?_alloc_at _ _ _ _ (by simp)]; rfl) | (rw [World.cell?_alloc_past _ _ _ (by simp <;> omega), World.cell?_alloc_past _ _ _ (by simp <;> omega), World.cell?_alloc_at _ _ _ _ (by simp)]; rfl)
  have pp8 : ((w.alloc (.cells #[.int .i64 R.a, .int .i64 R.b, .int .i64 R.c] 22)).alloc (.cells #[.string p.id, .int .i64 p.prio, .bool p.crit, .int .i64 p.r0, .int .i64 p.r1, .int .i64 p.r2, .int .i64 p.l0, .int .i64 p.l1, .int .i64 p.l2, .string p.img, .int .i64 p.size] 25)).cell? ⟨w.heap.size + 1, 8, none⟩ = some (.int .i64 p.l2) := by first | (simp; done) | (rw [World.cell?_alloc_at _ _ _ _ (by simp)]; rfl) | (rw [World.cell?_alloc_past _ _ _ (by simp <;> omega), World.cell?_alloc_at _ _ _ _ (by simp)]; rfl) | (rw [World.cell?_alloc_past _ _ _ (by simp <;> omega), World.cell?_alloc_past _ _ _ (by simp <;> omega), World.cell?_alloc_at _ _ _ _ (by simp)]; rfl)
  have pp9 : ((w.alloc (.cells #[.int .i64 R.a, .int .i64 R.b, .int .i64 R.c] 22)).alloc (.cells #[.string p.id, .int .i64 p.prio, .bool p.crit, .int .i64 p.r0, .int .i64 p.r1, .int .i64 p.r2, .int .i64 p.l0, .int .i64 p.l1, .int .i64 p.l2, .string p.img, .int .i64 p.size] 25)).cell? ⟨w.heap.size + 1, 9, none⟩ = some (.string p.img) := by first | (simp; done) | (rw [World.cell?_alloc_at _ _ _ _ (by simp)]; rfl) | (rw [World.cell?_alloc_past _ _ _ (by simp <;> omega), World.cell?_alloc_at _ _ _ _ (by simp)]; rfl) | (rw [World.cell?_alloc_past _ _ _ (by simp <;> omega), World.cell?_alloc_past _ _ _ (by simp <;> omega), World.cell?_alloc_at _ _ _ _ (by simp)]; rfl)
  have pp10 : ((w.alloc (.cells #[.int .i64 R.a, .int .i64 R.b, .int .i64 R.c] 22)).alloc (.cells #[.string p.id, .int .i64 p.prio, .bool p.crit, .int .i64 p.r0, .int .i64 p.r1, .int .i64 p.r2, .int .i64 p.l0, .int .i64 p.l1, .int .i64 p.l2, .string p.img, .int .i64 p.size] 25)).cell? ⟨w.heap.size + 1, 10, none⟩ = some (.int .i64 p.size) := by first | (simp; done) | (rw [World.cell?_alloc_at _ _ _ _ (by simp)]; rfl) | (rw [World.cell?_alloc_past _ _ _ (by simp <;> omega), World.cell?_alloc_at _ _ _ _ (by simp)]; rfl) | (rw [World.cell?_alloc_past _ _ _ (by simp <;> omega), World.cell?_alloc_past _ _ _ (by simp <;> omega), World.cell?_alloc_at _ _ _ _ (by simp)]; rfl)
  have hb2 := (by repeat (first | exact hbel | refine belAlloc ?_ _ | refine belDrew ?_ | refine belSet ?_ _ _ (by simp)) : Below w.heap.size w ((w.alloc (.cells #[.int .i64 R.a, .int .i64 R.b, .int .i64 R.c] 22)).alloc (.cells #[.string p.id, .int .i64 p.prio, .bool p.crit, .int .i64 p.r0, .int .i64 p.r1, .int .i64 p.r2, .int .i64 p.l0, .int .i64 p.l1, .int .i64 p.l2, .string p.img, .int .i64 p.size] 25)))
  replace hw := belStep hw hb2
  clear hb2 hbel
  generalize (w.alloc (.cells #[.int .i64 R.a, .int .i64 R.b, .int .i64 R.c] 22)).alloc (.cells #[.string p.id, .int .i64 p.prio, .bool p.crit, .int .i64 p.r0, .int .i64 p.r1, .int .i64 p.r2, .int .i64 p.l0, .int .i64 p.l1, .int .i64 p.l2, .string p.img, .int .i64 p.size] 25) = W1 at *
  replace rm0 := keep rm0
  replace rm1 := keep rm1
  replace rm2 := keep rm2
  replace pp0 := keep pp0
  replace pp1 := keep pp1
  replace pp2 := keep pp2
  replace pp3 := keep pp3
  replace pp4 := keep pp4
  replace pp5 := keep pp5
  replace pp6 := keep pp6
  replace pp7 := keep pp7
  replace pp8 := keep pp8
  replace pp9 := keep pp9
  replace pp10 := keep pp10
  have hbel : Below W1.heap.size W1 W1 := Below.refl _ _
  skip
  go_upto_region 3 with (first | (go_at_call 12; (with_reducible refine (awake21 _).mono ?_); rintro e w1 ⟨rfl, hb1⟩; replace hbel := belStep hbel hb1; clear hb1) | (go_at_call 13; (with_reducible refine (CF.out _ (belStep hw hbel)).mono ?_); rintro e w3 ⟨⟨b, rfl, hfit⟩, hb3⟩; replace hbel := belStep hbel hb3; clear hb3; have HF := Lib.hid hfit; clear hfit; rcases b with _ | _))
  · go_ret
    exact ⟨rfl, belStep hw hbel⟩
  replace HF := Lib.hid (HF.out (by trivial))
  have HB0 := Lib.hid hbel
  have HW1 := Lib.hid hw
  have hlen : L.length ≤ 1000 := by have := HF.out.len; omega
  have hz1 := hw.size
  have u0 : IntKind.i64.wrap ((L.length : Int) - 1) = (L.length : Int) - 1 := IntWalk.i64_in _ (by omega)
  go_wp2
  clear hw hbel u0
  go_loopw [9, 10] (fun s i wr => ∃ j : Nat, j ≤ L.length ∧ i = .int .i64 ((j : Int) - 1) ∧ OwnR wr W1.heap.size 25 11 s (L.drop j).reverse.length ((L.drop j).reverse.flatMap PodV.cells) ∧ Below W1.heap.size W1 wr) (fun _ i _ => (intOf i + 1).toNat)
  case atStart => exact ⟨L.length, Nat.le_refl _, rfl, by rw [List.drop_length]; exact OwnR.nil _ _ _ _, HB0.out⟩
  case round =>
    obtain ⟨j, hj, hi, hS, hbr⟩ := hrel
    have hbel := hbr
    have hw : Below W1.heap.size W1 W1 := Below.refl _ _
    clear hbr HB0
    replace rm0 := keepOnP rm0 hbel
    replace rm1 := keepOnP rm1 hbel
    replace rm2 := keepOnP rm2 hbel
    replace pp0 := keepOnP pp0 hbel
    replace pp1 := keepOnP pp1 hbel
    replace pp2 := keepOnP pp2 hbel
    replace pp3 := keepOnP pp3 hbel
    replace pp4 := keepOnP pp4 hbel
    replace pp5 := keepOnP pp5 hbel
    replace pp6 := keepOnP pp6 hbel
    replace pp7 := keepOnP pp7 hbel
    replace pp8 := keepOnP pp8 hbel
    replace pp9 := keepOnP pp9 hbel
    replace pp10 := keepOnP pp10 hbel
    replace hw := belStep hw hbel
    clear hbel
    generalize wr = W2 at *
    have hbel : Below W2.heap.size W2 W2 := Below.refl _ _
    have HWW := Lib.hid (HW1.out.trans (hw.mono HW1.out.size))
    have hz2 := hw.size
    rcases j with _ | k
    rotate_left
    · rw [show ((k + 1 : Nat) : Int) - 1 = (k : Int) by push_cast; omega] at hi
      subst hi
      obtain ⟨x, hx⟩ : ∃ x, L[k]? = some x := ⟨L[k], List.getElem?_eq_getElem (by omega)⟩
      have HN := Lib.hid (rev_drop hx)
      obtain ⟨b, off, rfl, _, hc⟩ := (HR.out.later HWW.out).elem PodV.cells_len (by omega) hx
      have c0 := keep (hc 0 _ rfl)
      have c1 := keep (hc 1 _ rfl)
      have c2 := keep (hc 2 _ rfl)
      have c3 := keep (hc 3 _ rfl)
      have c4 := keep (hc 4 _ rfl)
      have c5 := keep (hc 5 _ rfl)
      have c6 := keep (hc 6 _ rfl)
      have c7 := keep (hc 7 _ rfl)
      have c8 := keep (hc 8 _ rfl)
      have c9 := keep (hc 9 _ rfl)
      have c10 := keep (hc 10 _ rfl)
      rw [Nat.add_zero] at c0
      have u1 : IntKind.i64.wrap ((k : Int) - 1) = (k : Int) - 1 := IntWalk.i64_in _ (by omega)
      have hd : decide ((0 : Int) ≤ (k : Int)) = true := decide_eq_true (by omega)
      have hd2 : ¬ ((k : Int) < 0) := by omega
      have hkl : k < L.length := by omega
      have hrl : (L.drop (k + 1)).reverse.length ≤ 1000 := by rw [List.length_reverse, List.length_drop]; omega
      obtain ⟨N, hN⟩ : ∃ N, (L.drop (k + 1)).reverse = N := ⟨_, rfl⟩
      rw [hN] at hS hrl
      have HNN := Lib.hid hN
      have HS := Lib.hid hS
      clear hc hx hS hN CX CY HF
      go_upto_region 7 with fail
      have HS2 := Lib.hid (OwnR.alloc (HS.out.later hbel) (.cells #[.string x.id, .int .i64 x.prio, .bool x.crit, .int .i64 x.r0, .int .i64 x.r1, .int .i64 x.r2, .int .i64 x.l0, .int .i64 x.l1, .int .i64 x.l2, .string x.img, .int .i64 x.size] 25))
      have HRX := Lib.hid (row_new W2 x.cells 25 1 11 rfl (by unfold maxLen; omega))
      go_wp2_with (at_builtin; refine wpList_app_keep rfl _ _ 23 rfl W1.heap.size 25 _ 11 104 Try.underlying23 info_pod rfl (by decide) _ _ _ rfl HS2.out _ 1 1 x.cells rfl HRX.out (pod_one x) ?c1 ?c2 ?c3 ?_)
      case c1 => simp only [maxLen]; omega
      case c2 => omega
      case c3 => have h1 := hw.size; have h2 := hbel.size; simp; omega
      intro v' w2 ho' _ hb' _ _
      have HO2 := Lib.hid ho'
      have HB2 := Lib.hid ((belAlloc (belStep hw hbel) (.cells #[.string x.id, .int .i64 x.prio, .bool x.crit, .int .i64 x.r0, .int .i64 x.r1, .int .i64 x.r2, .int .i64 x.l0, .int .i64 x.l1, .int .i64 x.l2, .string x.img, .int .i64 x.size] 25)).trans hb')
      clear ho' hb' hw hbel
      go_wp2
      go_roundw
      case rel => exact ⟨k, by omega, rfl, by rw [HN.out, HNN.out]; exact own_snoc HO2.out, HB2.out⟩
      case measure => simp [intOf] <;> omega
    · rw [show ((0 : Nat) : Int) - 1 = -1 by rfl] at hi
      subst hi
      rw [List.drop_zero] at hS
      have HS := Lib.hid hS
      clear hS hj
      obtain ⟨k, hk, hkl⟩ : ∃ k : Nat, Int.tmod at0 ((L.length : Int) + 1) = (k : Int) ∧ k ≤ L.length := turn_at hat.1
      have hne : ¬ ((L.length : Int) + 1 = 0) := by omega
      have u2 : IntKind.i64.wrap ((L.length : Int) + 1) = (L.length : Int) + 1 := IntWalk.i64_in _ (by omega)
      have u3 : IntKind.i64.wrap (k : Int) = (k : Int) := IntWalk.i64_in _ (by omega)
      have u4 : IntKind.i64.wrap at0 = at0 := IntWalk.i64_in _ (by omega)
      have hkc : (k : Int) ≤ (cap : Int) := by omega
      have hkL : (k : Int) ≤ (L.length : Int) := by omega
      have hk0 : (0 : Int) ≤ (k : Int) := by omega
      go_upto_region 9 with fail
      refine wp_region_held_drew (S := fun u => Below W2.heap.size W2 u) (by kernel_rfl) (by exact (show Below W2.heap.size W2 _ by repeat (first | assumption | exact Below.refl _ _ | refine belDrew ?_ | refine belAlloc ?_ _ | refine belStep ?_ (by assumption)))) (fun hHeld => ?_)
      refine wpAnyH_take (i := 1) (oi := ?oi_k1) (v := ?v_k1) ?hi_k1 (by kernel_rfl) ?hf_k1 ?hr_k1 ?hQ_k1 (Or.inl ⟨?hw_k1, ?hy_k1⟩) (by assumption) ?rest_k1
      case hi_k1 => ((simp only [List.getElem?_toArray, List.getElem?_cons_succ, List.getElem?_cons_zero]); rfl)
      case hf_k1 => kernel_rfl
      case hr_k1 => kernel_rfl
      case hQ_k1 => exact fun _ _ _ h => h
      case hw_k1 => rfl
      case hy_k1 => ((intro w hSw; (try dsimp only at hSw); go_simp); all_goals (with_reducible rfl))
      try simp only [Act.put, List.setIfInBounds_toArray, List.set_cons_zero, List.set_cons_succ]
      refine wpAnyH_take (i := 2) (oi := ?oi_k2) (v := ?v_k2) ?hi_k2 (by kernel_rfl) ?hf_k2 ?hr_k2 ?hQ_k2 (Or.inl ⟨?hw_k2, ?hy_k2⟩) (by assumption) ?rest_k2
      case hi_k2 => ((simp only [List.getElem?_toArray, List.getElem?_cons_succ, List.getElem?_cons_zero]); rfl)
      case hf_k2 => kernel_rfl
      case hr_k2 => kernel_rfl
      case hQ_k2 => exact fun _ _ _ h => h
      case hw_k2 => rfl
      case hy_k2 => ((intro w hSw; (try dsimp only at hSw); go_simp); all_goals (with_reducible rfl))
      try simp only [Act.put, List.setIfInBounds_toArray, List.set_cons_zero, List.set_cons_succ]
      refine wpAnyH_take (i := 3) (oi := ?oi_k3) (v := ?v_k3) ?hi_k3 (by kernel_rfl) ?hf_k3 ?hr_k3 ?hQ_k3 (Or.inl ⟨?hw_k3, ?hy_k3⟩) (by assumption) ?rest_k3
      case hi_k3 => ((simp only [List.getElem?_toArray, List.getElem?_cons_succ, List.getElem?_cons_zero]); rfl)
      case hf_k3 => kernel_rfl
      case hr_k3 => kernel_rfl
      case hQ_k3 => exact fun _ _ _ h => h
      case hw_k3 => rfl
      case hy_k3 => ((intro w hSw; (try dsimp only at hSw); go_simp); all_goals (with_reducible rfl))
      try simp only [Act.put, List.setIfInBounds_toArray, List.set_cons_zero, List.set_cons_succ]
      refine wpAnyH_take (i := 5) (oi := ?oi_k4) (v := ?v_k4) ?hi_k4 (by kernel_rfl) ?hf_k4 ?hr_k4 ?hQ_k4 (Or.inl ⟨?hw_k4, ?hy_k4⟩) (by assumption) ?rest_k4
      case hi_k4 => ((simp only [List.getElem?_toArray, List.getElem?_cons_succ, List.getElem?_cons_zero]); rfl)
      case hf_k4 => kernel_rfl
      case hr_k4 => kernel_rfl
      case hQ_k4 => exact fun _ _ _ h => h
      case hw_k4 => rfl
      case hy_k4 => ((intro w hSw; (try dsimp only at hSw); go_simp); all_goals (with_reducible rfl))
      try simp only [Act.put, List.setIfInBounds_toArray, List.set_cons_zero, List.set_cons_succ]
      refine wpAnyH_take (i := 6) (oi := ?oi_k5) (v := ?v_k5) ?hi_k5 (by kernel_rfl) ?hf_k5 ?hr_k5 ?hQ_k5 (Or.inl ⟨?hw_k5, ?hy_k5⟩) (by assumption) ?rest_k5
      case hi_k5 => ((simp only [List.getElem?_toArray, List.getElem?_cons_succ, List.getElem?_cons_zero]); rfl)
      case hf_k5 => kernel_rfl
      case hr_k5 => kernel_rfl
      case hQ_k5 => exact fun _ _ _ h => h
      case hw_k5 => rfl
      case hy_k5 => ((intro w hSw; (try dsimp only at hSw); go_simp); all_goals (with_reducible rfl))
      try simp only [Act.put, List.setIfInBounds_toArray, List.set_cons_zero, List.set_cons_succ]
      refine wpAnyH_take (i := 7) (oi := ?oi_k6) (v := ?v_k6) ?hi_k6 (by kernel_rfl) ?hf_k6 ?hr_k6 ?hQ_k6 (Or.inl ⟨?hw_k6, ?hy_k6⟩) (by assumption) ?rest_k6
      case hi_k6 => ((simp only [List.getElem?_toArray, List.getElem?_cons_succ, List.getElem?_cons_zero]); rfl)
      case hf_k6 => kernel_rfl
      case hr_k6 => kernel_rfl
      case hQ_k6 => exact fun _ _ _ h => h
      case hw_k6 => rfl
      case hy_k6 => ((intro w hSw; (try dsimp only at hSw); go_simp); all_goals (with_reducible rfl))
      try simp only [Act.put, List.setIfInBounds_toArray, List.set_cons_zero, List.set_cons_succ]
      refine krip (fun u u' => Below u.heap.size u u') [49, 53] [[], [], [], [], [0], [], [], [], [0, 4], [0, 4]] [[49], [], [], [], [53], [], [], [], [], []] [0, 4] (krF [(0, fun t u => ∃ g : Nat, t 49 = .slice (some ⟨g, 0, none⟩) 0 0 ∧ OwnR u (W2.heap.size) 25 11 (.slice (some ⟨g, 0, none⟩) 0 0) 0 []), (4, fun t u => OwnR u (W2.heap.size) 25 11 (t 53) (L.length - k) ((L.drop k).flatMap PodV.cells))]) 2 #[true, true, true, true, true, true, true, true, false, false] (by kernel_rfl) (by kernel_rfl) (by kernel_rfl) (by assumption) (AllL.cons ?s_0_q7 (AllL.cons ?s_4_q7 AllL.nil)) (AllL.cons ?o_0_q7 (AllL.cons ?o_4_q7 AllL.nil)) ?e_q7
      case s_0_q7 => exact fun t u u' hle ⟨g, e, h⟩ => ⟨g, e, OwnR.later h hle⟩
      case s_4_q7 => exact fun t u u' hle h => OwnR.later h hle
      case o_0_q7 =>
        refine KrOp.of (o := ?oo_0_q7) ?hi_0_q7 (fun t u hHeld hF K hK => ?rr_0_q7)
        case hi_0_q7 => ((simp only [List.getElem?_toArray, List.getElem?_cons_succ, List.getElem?_cons_zero]); rfl)
        case rr_0_q7 =>
          clear hF
          simp only [setl, List.foldl_cons, List.foldl_nil, Act.put, List.setIfInBounds_toArray, List.set_cons_zero, List.set_cons_succ] at hK ⊢
          go_simp
          refine hK.out _ _ (by exact (by repeat (first | assumption | exact Below.refl _ _ | refine belDrew ?_ | refine belAlloc ?_ _ | refine belStep ?_ (by assumption)))) (by exact (show Below W2.heap.size W2 _ by repeat (first | assumption | exact Below.refl _ _ | refine belDrew ?_ | refine belAlloc ?_ _ | refine belStep ?_ (by assumption)))) ?_
          exact ⟨_, rfl, OwnR.mono (own_empty _ _ 11) (Below.size hHeld)⟩
      case o_4_q7 =>
        refine KrOp.of (o := ?oo_4_q7) ?hi_4_q7 (fun t u hHeld hF K hK => ?rr_4_q7)
        case hi_4_q7 => ((simp only [List.getElem?_toArray, List.getElem?_cons_succ, List.getElem?_cons_zero]); rfl)
        case rr_4_q7 =>
          have h0 : ∃ g : Nat, t 49 = .slice (some ⟨g, 0, none⟩) 0 0 ∧ OwnR u (W2.heap.size) 25 11 (.slice (some ⟨g, 0, none⟩) 0 0) 0 [] := hF 0 rfl rfl
          clear hF
          simp only [setl, List.foldl_cons, List.foldl_nil, Act.put, List.setIfInBounds_toArray, List.set_cons_zero, List.set_cons_succ] at hK ⊢
          generalize t 49 = x49 at *
          obtain ⟨g0, rfl, ho0⟩ := h0
          refine op_first rfl _ _ 23 rfl (W2.heap.size) 25 _ 11 104 Try.underlying23 info_pod rfl (by decide) g0 (by rfl) ho0 (if cap = k then a else Option.map (fun x => x.add (k * 11)) a) (L.length - k) (cap - k) ((L.drop k).flatMap PodV.cells) (by rfl) (row_drop (HR.out.later (belStep HWW.out hHeld)) hkl) (pods_one _) (by unfold maxLen; omega) (by omega) (Below.size hHeld) ?_
          intro v4 w4 ho4 hb4
          refine hK.out _ _ (by exact (by repeat (first | assumption | exact Below.refl _ _ | refine belDrew ?_ | refine belAlloc ?_ _ | refine belStep ?_ (by assumption)))) (by exact (show Below W2.heap.size W2 _ by repeat (first | assumption | exact Below.refl _ _ | refine belDrew ?_ | refine belAlloc ?_ _ | refine belStep ?_ (by assumption)))) ?_
          exact ho4
      case e_q7 =>
        intro t u hHeld hF
        have h0 : ∃ g : Nat, t 49 = .slice (some ⟨g, 0, none⟩) 0 0 ∧ OwnR u (W2.heap.size) 25 11 (.slice (some ⟨g, 0, none⟩) 0 0) 0 [] := hF 0 rfl
        have h4 : OwnR u (W2.heap.size) 25 11 (t 53) (L.length - k) ((L.drop k).flatMap PodV.cells) := hF 4 rfl
        clear hF
        simp only [setl, List.foldl_cons, List.foldl_nil, Act.put, List.setIfInBounds_toArray, List.set_cons_zero, List.set_cons_succ]
        generalize t 49 = x49 at *
        generalize t 53 = x53 at *
        obtain ⟨g0, rfl, ho0⟩ := h0
        have HO24 := Lib.hid h4
        clear h4
        refine wpAnyH_ready (rs := [8]) (by kernel_rfl) (by simp) ?_
        refine AllReadyH.cons (o := ?o1_kt) ?hi_kt (fun K hK => ?rest_kt) AllReadyH.nil
        case hi_kt => ((simp only [List.getElem?_toArray, List.getElem?_cons_succ, List.getElem?_cons_zero]); rfl)
        refine op_appO rfl _ _ 23 rfl (W2.heap.size) 25 _ 11 104 Try.underlying23 info_pod rfl (by decide) _ (L.length - k) _ (by rfl) HO24.out a k cap ((L.take k).flatMap PodV.cells) (by rfl) (row_take (HR.out.later (belStep HWW.out hHeld)) hkl) (pods_one _) (by unfold maxLen; omega) (by omega) (Below.size hHeld) ?_
        intro v5 u5 ho5 hb5
        have hu5 : Below W2.heap.size W2 u5 := hHeld.trans hb5
        refine hK.out _ _ (by exact hu5) (fun hHeld => ?_)
        clear hK K
        try simp only [Act.put, List.setIfInBounds_toArray, List.set_cons_zero, List.set_cons_succ]
        refine wpAnyH_take (i := 9) (oi := ?oi_k8) (v := ?v_k8) ?hi_k8 (by kernel_rfl) ?hf_k8 ?hr_k8 ?hQ_k8 (Or.inl ⟨?hw_k8, ?hy_k8⟩) (by assumption) ?rest_k8
        case hi_k8 => ((simp only [List.getElem?_toArray, List.getElem?_cons_succ, List.getElem?_cons_zero]); rfl)
        case hf_k8 => kernel_rfl
        case hr_k8 => kernel_rfl
        case hQ_k8 => exact fun _ _ _ h => h
        case hw_k8 => rfl
        case hy_k8 => ((intro w hSw; (try dsimp only at hSw); go_simp); all_goals (with_reducible rfl))
        try simp only [Act.put, List.setIfInBounds_toArray, List.set_cons_zero, List.set_cons_succ]
        refine wpAnyH_done (by kernel_rfl) ?_ _
        clear hHeld HO24 ho0 hb5
        clear hw
        have hw : Below W2.heap.size W2 W2 := Below.refl _ _
        replace hbel := hu5
        have HO5 := Lib.hid ho5
        clear hu5 ho5
        have HS5 := Lib.hid (HS.out.later hbel)
        have HW5 := Lib.hid (belStep HWW.out hbel)
        clear HS HWW
        replace rm0 := keepOnP rm0 hbel
        replace rm1 := keepOnP rm1 hbel
        replace rm2 := keepOnP rm2 hbel
        replace pp0 := keepOnP pp0 hbel
        replace pp1 := keepOnP pp1 hbel
        replace pp2 := keepOnP pp2 hbel
        replace pp3 := keepOnP pp3 hbel
        replace pp4 := keepOnP pp4 hbel
        replace pp5 := keepOnP pp5 hbel
        replace pp6 := keepOnP pp6 hbel
        replace pp7 := keepOnP pp7 hbel
        replace pp8 := keepOnP pp8 hbel
        replace pp9 := keepOnP pp9 hbel
        replace pp10 := keepOnP pp10 hbel
        replace hw := belStep hw hbel
        clear hbel
        generalize u5 = W3 at *
        have hbel : Below W3.heap.size W3 W3 := Below.refl _ _
        have CA := Lib.hid (fun v (hv : Below W3.heap.size W3 v) => CX.out HF.out v (belStep HW5.out hv))
        have CB := Lib.hid (fun v (hv : Below W3.heap.size W3 v) => CY.out HF.out _ (List.reverse_perm L) v _ _ (HS5.out.later hv))
        have CC := Lib.hid (fun v (hv : Below W3.heap.size W3 v) => CY.out HF.out _ (turn_perm L k) v _ _ (turn_own hkl (HO5.out.later hv)))
        clear CX CY HF HS5 HO5 CF
        go_upto_region 13 with (first | (go_at_call 16; (with_reducible refine (CA.out _ hbel).mono ?_); rintro e w6 ⟨⟨b6, n6, rfl, hr6⟩, hb6⟩; replace hbel := belStep hbel hb6;  have HR6 := Lib.hid hr6; clear hr6 hb6) | (go_at_call 16; (with_reducible refine (CB.out _ hbel).mono ?_); rintro e w7 ⟨⟨b7, n7, rfl, hr7⟩, hb7⟩; replace hbel := belStep hbel hb7; replace HR6 := Lib.hid (HR6.out.later hb7); have HR7 := Lib.hid hr7; clear hr7 hb7) | (go_at_call 16; (with_reducible refine (CC.out _ hbel).mono ?_); rintro e w8 ⟨⟨b8, n8, rfl, hr8⟩, hb8⟩; replace hbel := belStep hbel hb8; replace HR6 := Lib.hid (HR6.out.later hb8); replace HR7 := Lib.hid (HR7.out.later hb8); have HR8 := Lib.hid hr8; clear hr8 hb8))
        go_wp2_with (first | (go_at_call 20; (with_reducible refine (same_texts b6 b7 _ n6 n7 (c.getD []) _ rfl HR6.out HR7.out).mono ?_); rintro e w9 ⟨rfl, hb9⟩; replace hbel := belStep hbel hb9; replace HR6 := Lib.hid (HR6.out.later hb9); replace HR8 := Lib.hid (HR8.out.later hb9); clear hb9) | (go_at_call 20; (with_reducible refine (same_texts b6 b8 _ n6 n8 (c.getD []) _ rfl HR6.out HR8.out).mono ?_); rintro e w10 ⟨rfl, hb10⟩; replace hbel := belStep hbel hb10; clear hb10))
        all_goals (go_ret; exact ⟨rfl, belStep HW5.out hbel⟩)

set_option maxRecDepth 100000 in
theorem lifted (os : Os) (started : os.Started) (H : Type) (enc : TypeId × Value → H) :
    ReturnsInHanded {} Try.checked os 8 .any (Rows.victimTurnedSpec.pre6 enc Try.prog Try.f8 Rows.victimTurnedRow.domain false) (Rows.victimTurnedSpec.post enc Try.prog Try.f8 false true false false) := by
  refine returnsInHanded_of_change (C := Try.checked) own started (by kernel_rfl) Try.func8
    (ChangeSpec.witness6 (enc := enc) (C := Try.checked) false ⟨#[], #[.agg #[.int .i64 0, .int .i64 0, .int .i64 0], .slice none 0 0, .agg #[.string ByteArray.empty, .int .i64 0, .bool false, .int .i64 0, .int .i64 0, .int .i64 0, .int .i64 0, .int .i64 0, .int .i64 0, .string ByteArray.empty, .int .i64 0], .int .u8 0], []⟩ 8 (by kernel_rfl) (by kernel_rfl) (by kernel_rfl) (by kernel_rfl)) ?_
  intro W base args ds gs before hval0 hW hcnd _
  have hval : ∀ (j : Nat) t v, Try.f8.params[j]? = some t → args[j]? = some v → Value.okWide Try.prog W .any base t v := hval0
  have hW' := hW
  obtain ⟨p, q, hA0, hV, rfl, hfz, hnd⟩ := hW
  have hA : DataW.TrodAll enc Try.prog W 0 (fun _ => true) true Try.f8.params.toList args.toList ds p := hA0
  rw [Try.params8] at hA hval
  obtain ⟨v0, vs0, d0, ds0, p0, q0, hargs, rfl, rfl, h0, r0⟩ := trodAll_cons hA
  obtain ⟨v1, vs1, d1, ds1, p1, q1, rfl, rfl, rfl, h1, r1⟩ := trodAll_cons r0
  obtain ⟨v2, vs2, d2, ds2, p2, q2, rfl, rfl, rfl, h2, r2⟩ := trodAll_cons r1
  obtain ⟨v3, vs3, d3, ds3, p3, q3, rfl, rfl, rfl, h3, r3⟩ := trodAll_cons r2
  obtain ⟨rfl, rfl, rfl⟩ := trodAll_nil r3
  obtain rfl : args = #[v0, v1, v2, v3] := by cases args; simp_all
  obtain ⟨rfl, rfl⟩ := trodVars_none hV
  have k0 := h0
  have lt0 : ∀ x ∈ p0, x.block < W.heap.size := by obtain ⟨m, hm⟩ := k0; exact DataW.trod_lt m _ _ _ hm
  have o0 : Value.okWide Try.prog W .any base 22 v0 := hval 0 22 v0 rfl rfl
  obtain ⟨R0, rfl, f0, g0, h0⟩ := open_room o0 h0
  have k1 := h1
  have lt1 : ∀ x ∈ p1, x.block < W.heap.size := by obtain ⟨m, hm⟩ := k1; exact DataW.trod_lt m _ _ _ hm
  have o1 : Value.okWide Try.prog W .any base 23 v1 := hval 1 23 v1 rfl rfl
  obtain ⟨a1, len1, cap1, L1, rfl, f1, g1, i1⟩ := open_pods o1 h1
  have k2 := h2
  have lt2 : ∀ x ∈ p2, x.block < W.heap.size := by obtain ⟨m, hm⟩ := k2; exact DataW.trod_lt m _ _ _ hm
  have o2 : Value.okWide Try.prog W .any base 25 v2 := hval 2 25 v2 rfl rfl
  obtain ⟨p2, rfl, f2⟩ := open_pod o2 h2
  have k3 := h3
  have lt3 : ∀ x ∈ p3, x.block < W.heap.size := by obtain ⟨m, hm⟩ := k3; exact DataW.trod_lt m _ _ _ hm
  have o3 : Value.okWide Try.prog W .any base 5 v3 := hval 3 5 v3 rfl rfl
  obtain ⟨a3, rfl, rfl, rfl, w3⟩ := open_int Try.underlying5 o3 h3
  clear hA0 hval0
  refine (walk R0 a1 len1 cap1 L1 p2 a3 W f0 g0 h0 f1 g1 i1 f2 (in8_of_wf w3)).mono fun e W' ⟨he, bel⟩ => ?_
  subst he
  exact ⟨_, rfl, _, _, _, [], _, [], hW', trodAll_mk1 (shut_bool Try.underlying4 _), (trodAll_cons_mk (Below.trod laidOut (by kernel_rfl) (of_decide_eq_true (by kernel_rfl)) k0 bel lt0) (trodAll_cons_mk (Below.trod laidOut (by kernel_rfl) (of_decide_eq_true (by kernel_rfl)) k1 bel lt1) (trodAll_cons_mk (Below.trod laidOut (by kernel_rfl) (of_decide_eq_true (by kernel_rfl)) k2 bel lt2) (trodAll_cons_mk (Below.trod laidOut (by kernel_rfl) (of_decide_eq_true (by kernel_rfl)) k3 bel lt3) trodAll_mk0)))), rfl, bel.frame _, fun h => by cases h⟩

theorem over : Rows.victimTurnedRow.holds Try.pinned (OpenSpec.ofChange Rows.victimTurnedSpec) :=
  OpenClaim.holds_of_wide 8 Try.f8 rfl rfl rfl rfl rfl rfl rfl ⟨rfl, rfl, rfl, rfl, rfl⟩ rfl rfl rfl rfl rfl (by kernel_rfl) Try.func8 (by kernel_rfl)
    (of_decide_eq_true (by kernel_rfl)) (by unfold Func.isWrapper; first | (rw [if_pos (by decide +kernel)]; kernel_rfl) | (rw [if_neg (by decide +kernel)]; exact ⟨rfl, rfl⟩))
    (fun os started H enc _ => lifted os started H enc)

/-- The statement. -/
theorem proved : Rows.VictimTurnedSaid := over
#print axioms proved

end Go.Proofs.Ytnnmganjlhojfaa.victimTurned
