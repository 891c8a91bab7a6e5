
/- victim.Choose: contract. -/
import Derived.Test.YtbifmmdiekodjaaVicE0
namespace Go.Proofs.Ytbifmmdiekodjaa
open Go.RowKit
set_option linter.unusedVariables false
set_option linter.unusedSimpArgs false

def ChooseR (w : World) (c : Option (List ByteArray)) (e : Ending) (w' : World) : Prop :=
  (c = none ∧ e = .returned (.tuple #[.slice none 0 0, .bool false])) ∨ (∃ G v, c = some G ∧ e = .returned (.tuple #[v, .bool true]) ∧ OwnS w' w.heap.size v G)
theorem fits_own (R : Room) {B : Nat} {v : Value} (L : List PodV) (w : World) (h : OwnR w B 24 11 v L.length (L.flatMap PodV.cells)) (hok : ∀ x ∈ L, x.ok) :
    Calls Try.prog 20 #[.agg #[.int .i64 R.a, .int .i64 R.b, .int .i64 R.c], v] w fun e w' => e = .returned (.bool (fitsB R L)) ∧ Below w.heap.size w w' := by
  obtain ⟨a, cap, rfl, hr⟩ := rowR_of_own h
  exact vic_Fits R a L.length cap L w rfl hok hr
theorem concat_one {a : Option Addr} {len cap : Nat} {L : List PodV} {p : PodV} {b : Option Addr} {c2 N : Nat} {w : World} (hN : w.heap.size = N) (hl : L.length = len) (hL : Row w a len cap 11 (L.flatMap PodV.cells)) (hp : Row w b 1 c2 11 p.cells) (hb : len ≤ 100000) :
    Calls Try.prog 21 #[.slice (some ⟨N, 0, none⟩) 2 2] (w.alloc (.cells #[.slice a len cap, .slice b 1 c2] 51)) fun e w' => ∃ v, e = .returned v ∧ OwnR w' N 24 11 v (L ++ [p]).length ((L ++ [p]).flatMap PodV.cells) ∧ Below (w.alloc (.cells #[.slice a len cap, .slice b 1 c2] 51)).heap.size (w.alloc (.cells #[.slice a len cap, .slice b 1 c2] 51)) w' := by
  subst hN
  refine (slices_Concat _ 2 2 _ _ (rparts_two hL (pods_one L) hp (pod_one p)) (by simp [sumR]; omega)).mono ?_
  rintro e w' ⟨v, rfl, h1, h2⟩
  refine ⟨v, rfl, ?_, h2⟩
  have e1 : sumR [(a, len, cap, L.flatMap PodV.cells), (b, 1, c2, p.cells)] = (L ++ [p]).length := by simp [sumR, hl]
  have e2 : joinR [(a, len, cap, L.flatMap PodV.cells), (b, 1, c2, p.cells)] = (L ++ [p]).flatMap PodV.cells := by simp [joinR]
  rw [e1, e2] at h1
  exact OwnR.mono h1 (by simp)

set_option maxRecDepth 100000 in
set_option maxHeartbeats 16000000 in
theorem vic_Choose (R : Room) (p : PodV) (a : Option Addr) (len cap : Nat) (L : List PodV) (w : World) (hl : L.length = len) (hok : ∀ x ∈ L, x.ok) (hR : Row w a len cap 11 (L.flatMap PodV.cells)) (hd : Dist L) (hb : len ≤ 1000) (hp : p.ok) :
    Calls Try.prog 17 #[.agg #[.int .i64 R.a, .int .i64 R.b, .int .i64 R.c], .slice a len cap, .agg #[.string p.id, .int .i64 p.prio, .bool p.crit, .int .i64 p.r0, .int .i64 p.r1, .int .i64 p.r2, .int .i64 p.l0, .int .i64 p.l1, .int .i64 p.l2, .string p.img, .int .i64 p.size]] w fun e w' => ChooseR w (chooseF R L p) e w' ∧ Below w.heap.size w w' := by
  have hw : Below w.heap.size w w := Below.refl _ _
  have hbel := hw
  have hbd : len ≤ cap ∧ cap ≤ 9223372036854775807 := by obtain ⟨_, h1, h2, _⟩ := hR; unfold maxLen at h2; exact ⟨h1, h2⟩
  obtain ⟨hbd1, hbd2⟩ := hbd
  have hrb : ∀ x, a = some x → L.flatMap PodV.cells ≠ [] → x.block < w.heap.size := hR.block
  have HR := Lib.hid hR
  have HDI := Lib.hid hd
  have HOK := Lib.hid hok
  have HPO := Lib.hid hp
  clear hR hok hd hp
  subst hl
  have CPT := Lib.hid (fun v (hv : Below w.heap.size w v) => vic_part p a L.length cap L v rfl HOK.out (HR.out.later hv) HDI.out (by omega))
  have hf1 : (mayF L p).length ≤ L.length := List.length_filter_le _ _
  have hf2 : (stF L p).length ≤ L.length := List.length_filter_le _ _
  have HOK1 := Lib.hid (show ∀ x ∈ L ++ [p], x.ok from fun x hx => (List.mem_append.1 hx).elim (HOK.out x) (fun h => by simp at h; subst h; exact HPO.out))
  have HOK2 := Lib.hid (show ∀ x ∈ stF L p ++ [p], x.ok from fun x hx => (List.mem_append.1 hx).elim (fun h => HOK.out x (List.mem_filter.1 h).1) (fun h => by simp at h; subst h; exact HPO.out))
  have HOK3 := Lib.hid (show ∀ x ∈ sortP (mayF L p), x.ok from fun x hx => HOK.out x (List.mem_filter.1 ((sortP_perm _).mem_iff.1 hx)).1)
  clear hrb
  go_enter Try.func17, Try.ntmps17
  go_upto_region 1 with fail
  have rm0 : ((w.alloc (.cells #[.int .i64 R.a, .int .i64 R.b, .int .i64 R.c] 22)).alloc (.cells #[.string p.id, .int .i64 p.prio, .bool p.crit, .int .i64 p.r0, .int .i64 p.r1, .int .i64 p.r2, .int .i64 p.l0, .int .i64 p.l1, .int .i64 p.l2, .string p.img, .int .i64 p.size] 24)).cell? ⟨w.heap.size, 0, none⟩ = some (.int .i64 R.a) := by first | (simp; done) | (rw [World.cell?_alloc_at _ _ _ _ (by simp)]; rfl) | (rw [World.cell?_alloc_past _ _ _ (by simp <;> omega), World.cell?_alloc_at _ _ _ _ (by simp)]; rfl) | (rw [World.cell?_alloc_past _ _ _ (by simp <;> omega), World.cell?_alloc_past _ _ _ (by simp <;> omega), World.cell?_alloc_at _ _ _ _ (by simp)]; rfl)
  have rm1 : ((w.alloc (.cells #[.int .i64 R.a, .int .i64 R.b, .int .i64 R.c] 22)).alloc (.cells #[.string p.id, .int .i64 p.prio, .bool p.crit, .int .i64 p.r0, .int .i64 p.r1, .int .i64 p.r2, .int .i64 p.l0, .int .i64 p.l1, .int .i64 p.l2, .string p.img, .int .i64 p.size] 24)).cell? ⟨w.heap.size, 1, none⟩ = some (.int .i64 R.b) := by first | (simp; done) | (rw [World.cell?_alloc_at _ _ _ _ (by simp)]; rfl) | (rw [World.cell?_alloc_past _ _ _ (by simp <;> omega), World.cell?_alloc_at _ _ _ _ (by simp)]; rfl) | (rw [World.cell?_alloc_past _ _ _ (by simp <;> omega), World.cell?_alloc_past _ _ _ (by simp <;> omega), World.cell?_alloc_at _ _ _ _ (by simp)]; rfl)
  have rm2 : ((w.alloc (.cells #[.int .i64 R.a, .int .i64 R.b, .int .i64 R.c] 22)).alloc (.cells #[.string p.id, .int .i64 p.prio, .bool p.crit, .int .i64 p.r0, .int .i64 p.r1, .int .i64 p.r2, .int .i64 p.l0, .int .i64 p.l1, .int .i64 p.l2, .string p.img, .int .i64 p.size] 24)).cell? ⟨w.heap.size, 2, none⟩ = some (.int .i64 R.c) := by first | (simp; done) | (rw [World.cell?_alloc_at _ _ _ _ (by simp)]; rfl) | (rw [World.cell?_alloc_past _ _ _ (by simp <;> omega), World.cell?_alloc_at _ _ _ _ (by simp)]; rfl) | (rw [World.cell?_alloc_past _ _ _ (by simp <;> omega), World.cell?_alloc_past _ _ _ (by simp <;> omega), World.cell?_alloc_at _ _ _ _ (by simp)]; rfl)
  have a0 : ((w.alloc (.cells #[.int .i64 R.a, .int .i64 R.b, .int .i64 R.c] 22)).alloc (.cells #[.string p.id, .int .i64 p.prio, .bool p.crit, .int .i64 p.r0, .int .i64 p.r1, .int .i64 p.r2, .int .i64 p.l0, .int .i64 p.l1, .int .i64 p.l2, .string p.img, .int .i64 p.size] 24)).cell? ⟨w.heap.size + 1, 0, none⟩ = some (.string p.id) := by first | (simp; done) | (rw [World.cell?_alloc_at _ _ _ _ (by simp)]; rfl) | (rw [World.cell?_alloc_past _ _ _ (by simp <;> omega), World.cell?_alloc_at _ _ _ _ (by simp)]; rfl) | (rw [World.cell?_alloc_past _ _ _ (by simp <;> omega), World.cell?_alloc_past _ _ _ (by simp <;> omega), World.cell?_alloc_at _ _ _ _ (by simp)]; rfl)
  have a1 : ((w.alloc (.cells #[.int .i64 R.a, .int .i64 R.b, .int .i64 R.c] 22)).alloc (.cells #[.string p.id, .int .i64 p.prio, .bool p.crit, .int .i64 p.r0, .int .i64 p.r1, .int .i64 p.r2, .int .i64 p.l0, .int .i64 p.l1, .int .i64 p.l2, .string p.img, .int .i64 p.size] 24)).cell? ⟨w.heap.size + 1, 1, none⟩ = some (.int .i64 p.prio) := by first | (simp; done) | (rw [World.cell?_alloc_at _ _ _ _ (by simp)]; rfl) | (rw [World.cell?_alloc_past _ _ _ (by simp <;> omega), World.cell?_alloc_at _ _ _ _ (by simp)]; rfl) | (rw [World.cell?_alloc_past _ _ _ (by simp <;> omega), World.cell?_alloc_past _ _ _ (by simp <;> omega), World.cell?_alloc_at _ _ _ _ (by simp)]; rfl)
  have a2 : ((w.alloc (.cells #[.int .i64 R.a, .int .i64 R.b, .int .i64 R.c] 22)).alloc (.cells #[.string p.id, .int .i64 p.prio, .bool p.crit, .int .i64 p.r0, .int .i64 p.r1, .int .i64 p.r2, .int .i64 p.l0, .int .i64 p.l1, .int .i64 p.l2, .string p.img, .int .i64 p.size] 24)).cell? ⟨w.heap.size + 1, 2, none⟩ = some (.bool p.crit) := by first | (simp; done) | (rw [World.cell?_alloc_at _ _ _ _ (by simp)]; rfl) | (rw [World.cell?_alloc_past _ _ _ (by simp <;> omega), World.cell?_alloc_at _ _ _ _ (by simp)]; rfl) | (rw [World.cell?_alloc_past _ _ _ (by simp <;> omega), World.cell?_alloc_past _ _ _ (by simp <;> omega), World.cell?_alloc_at _ _ _ _ (by simp)]; rfl)
  have a3 : ((w.alloc (.cells #[.int .i64 R.a, .int .i64 R.b, .int .i64 R.c] 22)).alloc (.cells #[.string p.id, .int .i64 p.prio, .bool p.crit, .int .i64 p.r0, .int .i64 p.r1, .int .i64 p.r2, .int .i64 p.l0, .int .i64 p.l1, .int .i64 p.l2, .string p.img, .int .i64 p.size] 24)).cell? ⟨w.heap.size + 1, 3, none⟩ = some (.int .i64 p.r0) := by first | (simp; done) | (rw [World.cell?_alloc_at _ _ _ _ (by simp)]; rfl) | (rw [World.cell?_alloc_past _ _ _ (by simp <;> omega), World.cell?_alloc_at _ _ _ _ (by simp)]; rfl) | (rw [World.cell?_alloc_past _ _ _ (by simp <;> omega), World.cell?_alloc_past _ _ _ (by simp <;> omega), World.cell?_alloc_at _ _ _ _ (by simp)]; rfl)
  have a4 : ((w.alloc (.cells #[.int .i64 R.a, .int .i64 R.b, .int .i64 R.c] 22)).alloc (.cells #[.string p.id, .int .i64 p.prio, .bool p.crit, .int .i64 p.r0, .int .i64 p.r1, .int .i64 p.r2, .int .i64 p.l0, .int .i64 p.l1, .int .i64 p.l2, .string p.img, .int .i64 p.size] 24)).cell? ⟨w.heap.size + 1, 4, none⟩ = some (.int .i64 p.r1) := by first | (simp; done) | (rw [World.cell?_alloc_at _ _ _ _ (by simp)]; rfl) | (rw [World.cell?_alloc_past _ _ _ (by simp <;> omega), World.cell?_alloc_at _ _ _ _ (by simp)]; rfl) | (rw [World.cell?_alloc_past _ _ _ (by simp <;> omega), World.cell?_alloc_past _ _ _ (by simp <;> omega), World.cell?_alloc_at _ _ _ _ (by simp)]; rfl)
  have a5 : ((w.alloc (.cells #[.int .i64 R.a, .int .i64 R.b, .int .i64 R.c] 22)).alloc (.cells #[.string p.id, .int .i64 p.prio, .bool p.crit, .int .i64 p.r0, .int .i64 p.r1, .int .i64 p.r2, .int .i64 p.l0, .int .i64 p.l1, .int .i64 p.l2, .string p.img, .int .i64 p.size] 24)).cell? ⟨w.heap.size + 1, 5, none⟩ = some (.int .i64 p.r2) := by first | (simp; done) | (rw [World.cell?_alloc_at _ _ _ _ (by simp)]; rfl) | (rw [World.cell?_alloc_past _ _ _ (by simp <;> omega), World.cell?_alloc_at _ _ _ _ (by simp)]; rfl) | (rw [World.cell?_alloc_past _ _ _ (by simp <;> omega), World.cell?_alloc_past _ _ _ (by simp <;> omega), World.cell?_alloc_at _ _ _ _ (by simp)]; rfl)
  have a6 : ((w.alloc (.cells #[.int .i64 R.a, .int .i64 R.b, .int .i64 R.c] 22)).alloc (.cells #[.string p.id, .int .i64 p.prio, .bool p.crit, .int .i64 p.r0, .int .i64 p.r1, .int .i64 p.r2, .int .i64 p.l0, .int .i64 p.l1, .int .i64 p.l2, .string p.img, .int .i64 p.size] 24)).cell? ⟨w.heap.size + 1, 6, none⟩ = some (.int .i64 p.l0) := by first | (simp; done) | (rw [World.cell?_alloc_at _ _ _ _ (by simp)]; rfl) | (rw [World.cell?_alloc_past _ _ _ (by simp <;> omega), World.cell?_alloc_at _ _ _ _ (by simp)]; rfl) | (rw [World.cell?_alloc_past _ _ _ (by simp <;> omega), World.cell?_alloc_past _ _ _ (by simp <;> omega), World.cell?_alloc_at _ _ _ _ (by simp)]; rfl)
  have a7 : ((w.alloc (.cells #[.int .i64 R.a, .int .i64 R.b, .int .i64 R.c] 22)).alloc (.cells #[.string p.id, .int .i64 p.prio, .bool p.crit, .int .i64 p.r0, .int .i64 p.r1, .int .i64 p.r2, .int .i64 p.l0, .int .i64 p.l1, .int .i64 p.l2, .string p.img, .int .i64 p.size] 24)).cell? ⟨w.heap.size + 1, 7, none⟩ = some (.int .i64 p.l1) := by first | (simp; done) | (rw [World.cell?_alloc_at _ _ _ _ (by simp)]; rfl) | (rw [World.cell?_alloc_past _ _ _ (by simp <;> omega), World.cell?_alloc_at _ _ _ _ (by simp)]; rfl) | (rw [World.cell?_alloc_past _ _ _ (by simp <;> omega), World.cell?_alloc_past _ _ _ (by simp <;> omega), World.cell?_alloc_at _ _ _ _ (by simp)]; rfl)
  have a8 : ((w.alloc (.cells #[.int .i64 R.a, .int .i64 R.b, .int .i64 R.c] 22)).alloc (.cells #[.string p.id, .int .i64 p.prio, .bool p.crit, .int .i64 p.r0, .int .i64 p.r1, .int .i64 p.r2, .int .i64 p.l0, .int .i64 p.l1, .int .i64 p.l2, .string p.img, .int .i64 p.size] 24)).cell? ⟨w.heap.size + 1, 8, none⟩ = some (.int .i64 p.l2) := by first | (simp; done) | (rw [World.cell?_alloc_at _ _ _ _ (by simp)]; rfl) | (rw [World.cell?_alloc_past _ _ _ (by simp <;> omega), World.cell?_alloc_at _ _ _ _ (by simp)]; rfl) | (rw [World.cell?_alloc_past _ _ _ (by simp <;> omega), World.cell?_alloc_past _ _ _ (by simp <;> omega), World.cell?_alloc_at _ _ _ _ (by simp)]; rfl)
  have a9 : ((w.alloc (.cells #[.int .i64 R.a, .int .i64 R.b, .int .i64 R.c] 22)).alloc (.cells #[.string p.id, .int .i64 p.prio, .bool p.crit, .int .i64 p.r0, .int .i64 p.r1, .int .i64 p.r2, .int .i64 p.l0, .int .i64 p.l1, .int .i64 p.l2, .string p.img, .int .i64 p.size] 24)).cell? ⟨w.heap.size + 1, 9, none⟩ = some (.string p.img) := by first | (simp; done) | (rw [World.cell?_alloc_at _ _ _ _ (by simp)]; rfl) | (rw [World.cell?_alloc_past _ _ _ (by simp <;> omega), World.cell?_alloc_at _ _ _ _ (by simp)]; rfl) | (rw [World.cell?_alloc_past _ _ _ (by simp <;> omega), World.cell?_alloc_past _ _ _ (by simp <;> omega), World.cell?_alloc_at _ _ _ _ (by simp)]; rfl)
  have a10 : ((w.alloc (.cells #[.int .i64 R.a, .int .i64 R.b, .int .i64 R.c] 22)).alloc (.cells #[.string p.id, .int .i64 p.prio, .bool p.crit, .int .i64 p.r0, .int .i64 p.r1, .int .i64 p.r2, .int .i64 p.l0, .int .i64 p.l1, .int .i64 p.l2, .string p.img, .int .i64 p.size] 24)).cell? ⟨w.heap.size + 1, 10, none⟩ = some (.int .i64 p.size) := by first | (simp; done) | (rw [World.cell?_alloc_at _ _ _ _ (by simp)]; rfl) | (rw [World.cell?_alloc_past _ _ _ (by simp <;> omega), World.cell?_alloc_at _ _ _ _ (by simp)]; rfl) | (rw [World.cell?_alloc_past _ _ _ (by simp <;> omega), World.cell?_alloc_past _ _ _ (by simp <;> omega), World.cell?_alloc_at _ _ _ _ (by simp)]; rfl)
  have hb2 := (by repeat (first | exact hbel | refine belAlloc ?_ _ | refine belDrew ?_ | refine belSet ?_ _ _ (by simp)) : Below w.heap.size w ((w.alloc (.cells #[.int .i64 R.a, .int .i64 R.b, .int .i64 R.c] 22)).alloc (.cells #[.string p.id, .int .i64 p.prio, .bool p.crit, .int .i64 p.r0, .int .i64 p.r1, .int .i64 p.r2, .int .i64 p.l0, .int .i64 p.l1, .int .i64 p.l2, .string p.img, .int .i64 p.size] 24)))
  replace hw := belStep hw hb2
  clear hb2 hbel
  generalize (w.alloc (.cells #[.int .i64 R.a, .int .i64 R.b, .int .i64 R.c] 22)).alloc (.cells #[.string p.id, .int .i64 p.prio, .bool p.crit, .int .i64 p.r0, .int .i64 p.r1, .int .i64 p.r2, .int .i64 p.l0, .int .i64 p.l1, .int .i64 p.l2, .string p.img, .int .i64 p.size] 24) = W1 at *
  replace rm0 := keep rm0
  replace rm1 := keep rm1
  replace rm2 := keep rm2
  replace a0 := keep a0
  replace a1 := keep a1
  replace a2 := keep a2
  replace a3 := keep a3
  replace a4 := keep a4
  replace a5 := keep a5
  replace a6 := keep a6
  replace a7 := keep a7
  replace a8 := keep a8
  replace a9 := keep a9
  replace a10 := keep a10
  have hbel : Below W1.heap.size W1 W1 := Below.refl _ _
  skip
  have HW := Lib.hid hw
  have HLR := Lib.hid (fun u (hu : Below W1.heap.size W1 u) => HR.out.later (HW.out.trans (hu.mono HW.out.size)))
  have hsz1 : w.heap.size ≤ W1.heap.size := hw.size
  clear hw
  have hq1 : Below W1.heap.size W1 (W1.drew.alloc (.cells #[.string p.id, .int .i64 p.prio, .bool p.crit, .int .i64 p.r0, .int .i64 p.r1, .int .i64 p.r2, .int .i64 p.l0, .int .i64 p.l1, .int .i64 p.l2, .string p.img, .int .i64 p.size] 24)) := belAlloc (belDrew (Below.refl _ _)) _
  have CC := Lib.hid (concat_one (p := p) (w := W1.drew.alloc (.cells #[.string p.id, .int .i64 p.prio, .bool p.crit, .int .i64 p.r0, .int .i64 p.r1, .int .i64 p.r2, .int .i64 p.l0, .int .i64 p.l1, .int .i64 p.l2, .string p.img, .int .i64 p.size] 24)) (N := W1.heap.size + 1) (by simp) rfl (HLR.out _ hq1) (show Row (W1.drew.alloc (.cells #[.string p.id, .int .i64 p.prio, .bool p.crit, .int .i64 p.r0, .int .i64 p.r1, .int .i64 p.r2, .int .i64 p.l0, .int .i64 p.l1, .int .i64 p.l2, .string p.img, .int .i64 p.size] 24)) (some ⟨W1.heap.size, 0, none⟩) 1 1 11 p.cells from row_new W1.drew p.cells 24 1 11 rfl (by unfold maxLen; omega)) (by omega))
  clear hq1
  refine wp_region_held_drew (S := (fun u => Below W1.heap.size W1 u)) (by kernel_rfl) (by exact (show Below W1.heap.size W1 _ from by repeat (first | assumption | exact Below.refl _ _ | refine belDrew ?_ | refine belAlloc ?_ _ | refine belStep ?_ (by assumption)))) (fun hHeld => ?_)
  refine wpAnyH_take (i := 0) (oi := ?oi_1) (v := ?v_1) ?hi_1 (by kernel_rfl) ?hf_1 ?hr_1 ?hQ_1 (Or.inl ⟨?hw_1, ?hy_1⟩) (by assumption) ?rest_1
  case hi_1 => ((simp only [List.getElem?_toArray, List.getElem?_cons_succ, List.getElem?_cons_zero]); rfl)
  case hf_1 => kernel_rfl
  case hr_1 => kernel_rfl
  case hQ_1 => exact fun _ _ _ h => h
  case hw_1 => rfl
  case hy_1 => ((intro w hSw; (try dsimp only at hSw); go_simp); all_goals (with_reducible rfl))
  try simp only [Act.put, List.setIfInBounds_toArray, List.set_cons_zero, List.set_cons_succ]
  refine wpAnyH_take (i := 1) (oi := ?oi_2) (v := ?v_2) ?hi_2 (by kernel_rfl) ?hf_2 ?hr_2 ?hQ_2 (Or.inl ⟨?hw_2, ?hy_2⟩) (by assumption) ?rest_2
  case hi_2 => ((simp only [List.getElem?_toArray, List.getElem?_cons_succ, List.getElem?_cons_zero]); rfl)
  case hf_2 => kernel_rfl
  case hr_2 => kernel_rfl
  case hQ_2 => exact fun _ _ _ h => h
  case hw_2 => rfl
  case hy_2 => ((intro w hSw; (try dsimp only at hSw); go_simp); all_goals (with_reducible rfl))
  try simp only [Act.put, List.setIfInBounds_toArray, List.set_cons_zero, List.set_cons_succ]
  refine wpAnyH_take (i := 2) (oi := ?oi_3) (v := ?v_3) ?hi_3 (by kernel_rfl) ?hf_3 ?hr_3 ?hQ_3 (Or.inl ⟨?hw_3, ?hy_3⟩) (by assumption) ?rest_3
  case hi_3 => ((simp only [List.getElem?_toArray, List.getElem?_cons_succ, List.getElem?_cons_zero]); rfl)
  case hf_3 => kernel_rfl
  case hr_3 => kernel_rfl
  case hQ_3 => exact fun _ _ _ h => h
  case hw_3 => rfl
  case hy_3 => ((intro w hSw; (try dsimp only at hSw); go_simp); all_goals (with_reducible rfl))
  try simp only [Act.put, List.setIfInBounds_toArray, List.set_cons_zero, List.set_cons_succ]
  refine wpAnyH_ready (rs := [3]) (by kernel_rfl) (by simp) ?_
  refine AllReadyH.cons (o := ?o1_4) ?hi_4 (fun K hK => ?rest_4) AllReadyH.nil
  case hi_4 => ((simp only [List.getElem?_toArray, List.getElem?_cons_succ, List.getElem?_cons_zero]); rfl)
  go_simp
  refine hK.out _ _ (by exact (show Below W1.heap.size W1 _ from by repeat (first | assumption | exact Below.refl _ _ | refine belDrew ?_ | refine belAlloc ?_ _ | refine belStep ?_ (by assumption)))) (fun hHeld => ?_)
  clear hK K
  try simp only [Act.put, List.setIfInBounds_toArray, List.set_cons_zero, List.set_cons_succ]
  refine wpAnyH_ready (rs := [4]) (by kernel_rfl) (by simp) ?_
  refine AllReadyH.cons (o := ?o1_5) ?hi_5 (fun K hK => ?rest_5) AllReadyH.nil
  case hi_5 => ((simp only [List.getElem?_toArray, List.getElem?_cons_succ, List.getElem?_cons_zero]); rfl)
  go_simp
  refine hK.out _ _ (by exact (show Below W1.heap.size W1 _ from by repeat (first | assumption | exact Below.refl _ _ | refine belDrew ?_ | refine belAlloc ?_ _ | refine belStep ?_ (by assumption)))) (fun hHeld => ?_)
  clear hK K
  try simp only [Act.put, List.setIfInBounds_toArray, List.set_cons_zero, List.set_cons_succ]
  refine wpAnyH_ready (rs := [5]) (by kernel_rfl) (by simp) ?_
  refine AllReadyH.cons (o := ?o1_6) ?hi_6 (fun K hK => ?rest_6) AllReadyH.nil
  case hi_6 => ((simp only [List.getElem?_toArray, List.getElem?_cons_succ, List.getElem?_cons_zero]); rfl)
  go_simp
  (first | (go_at_call 21; refine CC.out.mono ?_; rintro e w5 ⟨v5, rfl, ho5, hb5⟩; have HO5 := Lib.hid ho5; clear ho5; replace hb5 := belStep (show Below W1.heap.size W1 _ from hHeld) hb5) | (go_at_call 20; (with_reducible refine (fits_own R (L ++ [p]) _ HO5.out HOK1.out).mono ?_); rintro e w6 ⟨rfl, hb6⟩))
  try go_simp
  refine hK.out _ _ (by exact (show Below W1.heap.size W1 _ from by repeat (first | assumption | exact Below.refl _ _ | refine belDrew ?_ | refine belAlloc ?_ _ | refine belStep ?_ (by assumption)))) (fun hHeld => ?_)
  clear hK K
  try simp only [Act.put, List.setIfInBounds_toArray, List.set_cons_zero, List.set_cons_succ]
  refine wpAnyH_ready (rs := [6]) (by kernel_rfl) (by simp) ?_
  refine AllReadyH.cons (o := ?o1_7) ?hi_7 (fun K hK => ?rest_7) AllReadyH.nil
  case hi_7 => ((simp only [List.getElem?_toArray, List.getElem?_cons_succ, List.getElem?_cons_zero]); rfl)
  go_simp
  (first | (go_at_call 21; refine CC.out.mono ?_; rintro e w5 ⟨v5, rfl, ho5, hb5⟩; have HO5 := Lib.hid ho5; clear ho5; replace hb5 := belStep (show Below W1.heap.size W1 _ from hHeld) hb5) | (go_at_call 20; (with_reducible refine (fits_own R (L ++ [p]) _ HO5.out HOK1.out).mono ?_); rintro e w6 ⟨rfl, hb6⟩))
  try go_simp
  refine hK.out _ _ (by exact (show Below W1.heap.size W1 _ from by repeat (first | assumption | exact Below.refl _ _ | refine belDrew ?_ | refine belAlloc ?_ _ | refine belStep ?_ (by assumption)))) (fun hHeld => ?_)
  clear hK K
  try simp only [Act.put, List.setIfInBounds_toArray, List.set_cons_zero, List.set_cons_succ]
  refine wpAnyH_done (by kernel_rfl) ?_ _
  have hbel : Below W1.heap.size W1 w6 := hHeld
  clear hHeld CC
  obtain ⟨b1, e1⟩ : ∃ b, fitsB R (L ++ [p]) = b := ⟨_, rfl⟩
  obtain ⟨b2, e2⟩ : ∃ b, fitsB R (stF L p ++ [p]) = b := ⟨_, rfl⟩
  have HCF := Lib.hid (show chooseF R L p = if b1 then some [] else if b2 then some (sortS ((goF R (stF L p ++ [p]) (sortP (mayF L p))).map PodV.id)) else none by unfold chooseF; rw [e1, e2])
  simp only [e1]
  clear e1
  cases b1 with
  | true =>
    go_wp2
    go_ret2
    exact ⟨.inr ⟨[], _, HCF.out, rfl, OwnR.nil _ _ _ _⟩, HW.out.trans (hbel.mono hsz1)⟩
  | false =>
    go_upto_region 4 with (go_at_call 22; (with_reducible refine (CPT.out _ (HW.out.trans (hbel.mono hsz1))).mono ?_); rintro e w7 ⟨v1, v2, rfl, hM, hS, hsep, hb7⟩)
    have hsz6 := hbel.size
    replace hbel := belStep hbel hb7
    replace hM := OwnR.mono hM hsz6
    replace hS := OwnR.mono hS hsz6
    clear hb7 hsz6
    have HM := Lib.hid (hM.alloc (.cells #[.string p.id, .int .i64 p.prio, .bool p.crit, .int .i64 p.r0, .int .i64 p.r1, .int .i64 p.r2, .int .i64 p.l0, .int .i64 p.l1, .int .i64 p.l2, .string p.img, .int .i64 p.size] 24))
    have HS := Lib.hid (hS.alloc (.cells #[.string p.id, .int .i64 p.prio, .bool p.crit, .int .i64 p.r0, .int .i64 p.r1, .int .i64 p.r2, .int .i64 p.l0, .int .i64 p.l1, .int .i64 p.l2, .string p.img, .int .i64 p.size] 24))
    have HRP := Lib.hid (show Row (w7.alloc (.cells #[.string p.id, .int .i64 p.prio, .bool p.crit, .int .i64 p.r0, .int .i64 p.r1, .int .i64 p.r2, .int .i64 p.l0, .int .i64 p.l1, .int .i64 p.l2, .string p.img, .int .i64 p.size] 24)) (some ⟨w7.heap.size, 0, none⟩) 1 1 11 p.cells from row_new w7 p.cells 24 1 11 rfl (by unfold maxLen; omega))
    have HSP := Lib.hid hsep
    clear hM hS hsep
    go_wp2_with (at_builtin; refine wpList_app_sep rfl _ _ 51 rfl W1.heap.size 24 _ 11 104 Try.underlying51 info_pod rfl (by decide) _ _ _ rfl HS.out _ 1 1 p.cells rfl HRP.out (pod_one p) ?c1 ?c2 ?c3 ?_)
    case c1 => simp only [maxLen]; omega
    case c2 => omega
    case c3 => have h1 := hbel.size; simp; omega
    intro v3 w8 ho8 hb8 hg8 hmv8
    have hM8 := OwnR.sep HM.out hg8 HSP.out.symm
    have hsep8 := (Moved.sep hmv8 HM.out HSP.out.symm).symm
    have hS8 := own_snoc ho8
    replace hbel := (belAlloc hbel (.cells #[.string p.id, .int .i64 p.prio, .bool p.crit, .int .i64 p.r0, .int .i64 p.r1, .int .i64 p.r2, .int .i64 p.l0, .int .i64 p.l1, .int .i64 p.l2, .string p.img, .int .i64 p.size] 24)).trans hb8
    clear ho8 hb8 hg8 hmv8 HM HS HSP HRP
    obtain ⟨M, eM⟩ : ∃ M, sortP (mayF L p) = M := ⟨_, rfl⟩
    obtain ⟨st, est⟩ : ∃ s, stF L p ++ [p] = s := ⟨_, rfl⟩
    have hstl : st.length ≤ L.length + 1 := by rw [← est, List.length_append]; simp; omega
    have hMl : M.length ≤ L.length := by rw [← eM, sortP_len]; exact hf1
    have hnm : (mayF L p).length = M.length := by rw [← eM, sortP_len]
    rw [eM, hnm] at hM8
    rw [eM] at HOK3
    rw [est] at hS8 HOK2 e2
    rw [eM, est] at HCF
    clear eM est hnm
    have CF2 := Lib.hid (e2 ▸ fits_own R st w8 hS8 HOK2.out)
    obtain ⟨am, cm, rfl, hrm⟩ := rowR_of_own hM8
    have hcm : M.length ≤ cm ∧ cm ≤ 9223372036854775807 := by obtain ⟨_, h1, h2, _⟩ := hrm; unfold maxLen at h2; exact ⟨h1, h2⟩
    obtain ⟨hcm1, hcm2⟩ := hcm
    have HM8 := Lib.hid hM8
    have HS8 := Lib.hid hS8
    have HSEP8 := Lib.hid hsep8
    clear hM8 hS8 hsep8 e2 hrm
    cases b2 with
    | false =>
      go_wp2_with (go_at_call 20; (with_reducible refine CF2.out.mono ?_); rintro e w9 ⟨rfl, hb9⟩)
      go_ret2
      exact ⟨.inl ⟨HCF.out, rfl⟩, HW.out.trans ((belStep hbel hb9).mono hsz1)⟩
    | true =>
      go_wp2_with (go_at_call 20; (with_reducible refine CF2.out.mono ?_); rintro e w9 ⟨rfl, hb9⟩)
      have HB9 := Lib.hid (belStep hbel hb9)
      replace HM8 := Lib.hid (HM8.out.later hb9)
      replace HS8 := Lib.hid (HS8.out.later hb9)
      clear hb9 hbel CF2
      go_loopw [9, 10, 37] (fun s g i wr => ∃ k : Nat, k ≤ M.length ∧ i = .int .i64 k ∧ OwnR wr W1.heap.size 24 11 s (stayF R st (M.take k)).length ((stayF R st (M.take k)).flatMap PodV.cells) ∧ OwnS wr W1.heap.size g ((goF R st (M.take k)).map PodV.id) ∧ OwnR wr W1.heap.size 24 11 (.slice am M.length cm) M.length (M.flatMap PodV.cells) ∧ Sep (.slice am M.length cm) s ∧ Sep (.slice am M.length cm) g ∧ Sep s g ∧ Below W1.heap.size W1 wr) (fun _ _ i _ => M.length - (intOf i).toNat)
      case atStart => exact ⟨0, Nat.zero_le _, rfl, HS8.out, OwnR.nil _ _ _ _, HM8.out, HSEP8.out, Sep.nilR _, Sep.nilR _, HB9.out⟩
      case round =>
        obtain ⟨k, hk, rfl, hS, hG, hM, hms, hmg, hsg, hbr⟩ := hrel
        clear HB9 HM8 HS8 HSEP8
        have hls := runF_len R (M.take k) st
        rw [List.length_take] at hls
        obtain ⟨hls1, hls2⟩ := hls
        by_cases hlt : k < M.length
        · obtain ⟨x, hx⟩ : ∃ x, M[k]? = some x := ⟨M[k], List.getElem?_eq_getElem hlt⟩
          obtain ⟨a', c', e', hrow⟩ := rowR_of_own hM
          obtain ⟨b, off, rfl, _, hc⟩ := hrow.elem PodV.cells_len (by omega) hx
          simp only [Value.slice.injEq] at e'
          obtain ⟨rfl, _, rfl⟩ := e'
          have c0 := keep (hc 0 _ rfl)
          have c1 := keep (hc 1 _ rfl)
          have c2 := keep (hc 2 _ rfl)
          have c3 := keep (hc 3 _ rfl)
          have c4 := keep (hc 4 _ rfl)
          have c5 := keep (hc 5 _ rfl)
          have c6 := keep (hc 6 _ rfl)
          have c7 := keep (hc 7 _ rfl)
          have c8 := keep (hc 8 _ rfl)
          have c9 := keep (hc 9 _ rfl)
          have c10 := keep (hc 10 _ rfl)
          rw [Nat.add_zero] at c0
          have hbel := hbr
          have hokx : ∀ y ∈ stayF R st (M.take k) ++ [x], y.ok := fun y hy => by
            rcases List.mem_append.1 hy with h | h
            · rcases stayF_mem R _ _ y h with h | h
              · exact HOK2.out y h
              · exact HOK3.out y (List.mem_of_mem_take h)
            · simp at h; subst h; exact HOK3.out _ (List.mem_of_getElem? hx)
          have HOX := Lib.hid hokx
          have HYES := Lib.hid (step_yes (R := R) (st := st) hx)
          have HNO := Lib.hid (step_no (R := R) (st := st) hx)
          have HS := Lib.hid ((hS.alloc (.cells #[.string x.id, .int .i64 x.prio, .bool x.crit, .int .i64 x.r0, .int .i64 x.r1, .int .i64 x.r2, .int .i64 x.l0, .int .i64 x.l1, .int .i64 x.l2, .string x.img, .int .i64 x.size] 24)).alloc (.cells #[.string x.id, .int .i64 x.prio, .bool x.crit, .int .i64 x.r0, .int .i64 x.r1, .int .i64 x.r2, .int .i64 x.l0, .int .i64 x.l1, .int .i64 x.l2, .string x.img, .int .i64 x.size] 24))
          have HG := Lib.hid ((OwnR.alloc hG (.cells #[.string x.id, .int .i64 x.prio, .bool x.crit, .int .i64 x.r0, .int .i64 x.r1, .int .i64 x.r2, .int .i64 x.l0, .int .i64 x.l1, .int .i64 x.l2, .string x.img, .int .i64 x.size] 24)).alloc (.cells #[.string x.id, .int .i64 x.prio, .bool x.crit, .int .i64 x.r0, .int .i64 x.r1, .int .i64 x.r2, .int .i64 x.l0, .int .i64 x.l1, .int .i64 x.l2, .string x.img, .int .i64 x.size] 24))
          have HM := Lib.hid ((hM.alloc (.cells #[.string x.id, .int .i64 x.prio, .bool x.crit, .int .i64 x.r0, .int .i64 x.r1, .int .i64 x.r2, .int .i64 x.l0, .int .i64 x.l1, .int .i64 x.l2, .string x.img, .int .i64 x.size] 24)).alloc (.cells #[.string x.id, .int .i64 x.prio, .bool x.crit, .int .i64 x.r0, .int .i64 x.r1, .int .i64 x.r2, .int .i64 x.l0, .int .i64 x.l1, .int .i64 x.l2, .string x.img, .int .i64 x.size] 24))
          have HNE := Lib.hid (own_ne_new hS (Nat.le_refl _))
          have HMS := Lib.hid hms
          have HMG := Lib.hid hmg
          have HSG := Lib.hid hsg
          have HRX := Lib.hid (show Row ((wr.alloc (.cells #[.string x.id, .int .i64 x.prio, .bool x.crit, .int .i64 x.r0, .int .i64 x.r1, .int .i64 x.r2, .int .i64 x.l0, .int .i64 x.l1, .int .i64 x.l2, .string x.img, .int .i64 x.size] 24)).alloc (.cells #[.string x.id, .int .i64 x.prio, .bool x.crit, .int .i64 x.r0, .int .i64 x.r1, .int .i64 x.r2, .int .i64 x.l0, .int .i64 x.l1, .int .i64 x.l2, .string x.img, .int .i64 x.size] 24)) (some ⟨wr.heap.size + 1, 0, none⟩) 1 1 11 x.cells from row_new_at (wr.alloc (.cells #[.string x.id, .int .i64 x.prio, .bool x.crit, .int .i64 x.r0, .int .i64 x.r1, .int .i64 x.r2, .int .i64 x.l0, .int .i64 x.l1, .int .i64 x.l2, .string x.img, .int .i64 x.size] 24)) x.cells 24 1 11 _ (by simp) rfl (by unfold maxLen; omega))
          have HBX := Lib.hid (show Blk ((wr.alloc (.cells #[.string x.id, .int .i64 x.prio, .bool x.crit, .int .i64 x.r0, .int .i64 x.r1, .int .i64 x.r2, .int .i64 x.l0, .int .i64 x.l1, .int .i64 x.l2, .string x.img, .int .i64 x.size] 24)).alloc (.cells #[.string x.id, .int .i64 x.prio, .bool x.crit, .int .i64 x.r0, .int .i64 x.r1, .int .i64 x.r2, .int .i64 x.l0, .int .i64 x.l1, .int .i64 x.l2, .string x.img, .int .i64 x.size] 24)) wr.heap.size x.cells 24 from (Blk.new wr x.cells 24).later (belAlloc (Below.refl _ _) _))
          clear hc hrow hx hS hG hM hms hmg hsg hokx
          have hbw : Below wr.heap.size wr wr := Below.refl _ _
          go_wp2_with (at_builtin; refine wpList_app_keep rfl _ _ 51 rfl W1.heap.size 24 _ 11 104 Try.underlying51 info_pod rfl (by decide) _ _ _ rfl HS.out _ 1 1 x.cells rfl HRX.out (pod_one x) ?c1 ?c2 ?c3 ?_)
          case c1 => simp only [maxLen]; omega
          case c2 => omega
          case c3 => have h1 := hbr.size; simp; omega
          intro v4 w4 ho4 hold4 hb4 hg4 hmv4
          have HN4 := Lib.hid (own_snoc ho4)
          have HO4 := Lib.hid hold4
          have HG4 := Lib.hid (OwnR.sep HG.out hg4 HSG.out)
          have HM4 := Lib.hid (OwnR.sep HM.out hg4 HMS.out.symm)
          have HBX4 := Lib.hid (HBX.out.grown hg4 HNE.out)
          have HMV4 := Lib.hid (Moved.sep hmv4 HM.out HMS.out.symm).symm
          have HGV4 := Lib.hid (Moved.sep hmv4 HG.out HSG.out)
          replace hbel := (belAlloc (belAlloc hbr (.cells #[.string x.id, .int .i64 x.prio, .bool x.crit, .int .i64 x.r0, .int .i64 x.r1, .int .i64 x.r2, .int .i64 x.l0, .int .i64 x.l1, .int .i64 x.l2, .string x.img, .int .i64 x.size] 24)) (.cells #[.string x.id, .int .i64 x.prio, .bool x.crit, .int .i64 x.r0, .int .i64 x.r1, .int .i64 x.r2, .int .i64 x.l0, .int .i64 x.l1, .int .i64 x.l2, .string x.img, .int .i64 x.size] 24)).trans hb4
          clear ho4 hold4 hb4 hg4 hmv4 HS HG HM HNE HBX HRX hbr hbw c0 c1 c2 c3 c4 c5 c6 c7 c8 c9 c10
          have CF4 := fits_own R _ w4 HN4.out HOX.out
          cases hfit : fitsB R (stayF R st (M.take k) ++ [x]) with
          | true =>
            rw [hfit] at CF4
            have HY := Lib.hid (HYES.out hfit)
            have CF := Lib.hid CF4
            clear hfit CF4 HNO HYES
            go_wp2_with (go_at_call 20; (with_reducible refine CF.out.mono ?_); rintro e w5 ⟨rfl, hb5⟩)
            go_roundw
            case rel => exact ⟨k + 1, by omega, by push_cast; rfl, by rw [HY.out.1]; exact HN4.out.later hb5, by rw [HY.out.2]; exact OwnS.later HG4.out hb5, HM4.out.later hb5, HMV4.out, HMG.out, HGV4.out, belStep hbel hb5⟩
            case measure => simp [intOf] <;> omega
          | false =>
            rw [hfit] at CF4
            have HY := Lib.hid (HNO.out hfit)
            have CF := Lib.hid CF4
            clear hfit CF4 HNO HYES
            go_upto_region 14 with (go_at_call 20; (with_reducible refine CF.out.mono ?_); rintro e w5 ⟨rfl, hb5⟩)
            have hx0 := (HBX4.out.later hb5).cell (j := 0) rfl
            have HG5 := Lib.hid (OwnR.alloc (OwnR.later HG4.out hb5) (.cells #[.string x.id] 9))
            have HO5 := Lib.hid (OwnR.alloc (OwnR.later HO4.out hb5) (.cells #[.string x.id] 9))
            have HM5 := Lib.hid (OwnR.alloc (OwnR.later HM4.out hb5) (.cells #[.string x.id] 9))
            have HRS := Lib.hid (show Row (w5.alloc (.cells #[.string x.id] 9)) (some ⟨w5.heap.size, 0, none⟩) 1 1 1 [.string x.id] from row_new w5 [.string x.id] 9 1 1 rfl (by unfold maxLen; omega))
            replace hbel := belStep hbel hb5
            clear hb5 HG4 HO4 HM4 HN4 HBX4 HMV4 HGV4
            have hlg : ((goF R st (M.take k)).map PodV.id).length ≤ 1000 := by rw [List.length_map]; omega
            go_wp2_with (at_builtin; refine wpList_app_sep rfl _ _ 32 rfl W1.heap.size 9 _ 1 16 Try.underlying32 info_string rfl (by decide) _ _ _ rfl HG5.out _ 1 1 [.string x.id] rfl HRS.out (fun u hu => by simp at hu; subst hu; rfl) ?c1 ?c2 ?c3 ?_)
            case c1 => simp only [maxLen]; omega
            case c2 => omega
            case c3 => have h1 := hbel.size; simp; omega
            intro v6 w6 ho6 hb6 hg6 hmv6
            have HN6 := Lib.hid (owns_snoc ho6)
            have HO6 := Lib.hid (OwnR.sep HO5.out hg6 HSG.out.symm)
            have HM6 := Lib.hid (OwnR.sep HM5.out hg6 HMG.out.symm)
            have HSG6 := Lib.hid (Moved.sep hmv6 HO5.out HSG.out.symm).symm
            have HMG6 := Lib.hid (Moved.sep hmv6 HM5.out HMG.out.symm).symm
            have HB6 := Lib.hid ((belAlloc hbel (.cells #[.string x.id] 9)).trans hb6)
            clear ho6 hb6 hg6 hmv6 hbel hx0
            go_wp2
            go_roundw
            case rel => exact ⟨k + 1, by omega, by push_cast; rfl, by rw [HY.out.1]; exact HO6.out, by rw [HY.out.2]; exact HN6.out, HM6.out, HMS.out, HMG6.out, HSG6.out, HB6.out⟩
            case measure => simp [intOf] <;> omega
        · obtain rfl : k = M.length := by omega
          rw [List.take_length] at hG hls2
          have CS := Lib.hid (sort_goes (by rw [List.length_map]; omega) hG)
          have HLT := Lib.hid (fun q hq => World.ownsRow.lt hG q hq)
          have HBR := Lib.hid hbr
          clear hG hS hM hms hmg hsg hbr
          go_wp2_with (go_at_call 23; (with_reducible refine CS.out.mono ?_); rintro e w5 ⟨rfl, hO5, hg5⟩)
          have hb5 : Below W1.heap.size wr w5 := (Below.refl _ _).grown hg5 HBR.out.size fun q hq => (HLT.out q hq).1
          go_ret2
          exact ⟨.inr ⟨_, _, HCF.out, rfl, OwnS.mono hO5 hsz1⟩, HW.out.trans ((HBR.out.trans hb5).mono hsz1)⟩
end Go.Proofs.Ytbifmmdiekodjaa
