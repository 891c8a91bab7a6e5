/- Counts of classes. -/
import Derived.Test.YtnfblpiapendeaaQosScore
namespace Go.Proofs.Ytnfblpiapendeaa
open Go.RowKit
set_option linter.unusedVariables false
set_option linter.unusedSimpArgs false

def PodV.cls (p : PodV) : Int := classI p.r0 p.r1 p.r2 p.l0 p.l1 p.l2
theorem PodV.cls_cases (p : PodV) : p.cls = 1 ∨ p.cls = 2 ∨ p.cls = 3 := classI_cases _ _ _ _ _ _
/-- How many of these pods there are of the classes 1, 2, 3. -/
def cnt3 : List PodV → Int × Int × Int
  | [] => (0, 0, 0)
  | p :: L => ((cnt3 L).1 + (if p.cls = 1 then 1 else 0), (cnt3 L).2.1 + (if p.cls = 2 then 1 else 0), (cnt3 L).2.2 + (if p.cls = 3 then 1 else 0))
theorem cnt3_snoc (L : List PodV) (p : PodV) : cnt3 (L ++ [p]) = ((cnt3 L).1 + (if p.cls = 1 then 1 else 0), (cnt3 L).2.1 + (if p.cls = 2 then 1 else 0), (cnt3 L).2.2 + (if p.cls = 3 then 1 else 0)) := by
  induction L with
  | nil => simp [cnt3]
  | cons q L ih =>
    simp only [List.cons_append, cnt3, ih, Prod.mk.injEq]
    exact ⟨by omega, by omega, by omega⟩
theorem cnt3_sum (L : List PodV) : 0 ≤ (cnt3 L).1 ∧ 0 ≤ (cnt3 L).2.1 ∧ 0 ≤ (cnt3 L).2.2 ∧ (cnt3 L).1 + (cnt3 L).2.1 + (cnt3 L).2.2 = L.length := by
  induction L with
  | nil => simp [cnt3]
  | cons p L ih =>
    obtain ⟨h1, h2, h3, h4⟩ := ih
    simp only [cnt3, List.length_cons]
    rcases p.cls_cases with h | h | h <;> simp [h] <;> omega
theorem cnt3_next (L : List PodV) {k : Nat} {p : PodV} (h : L[k]? = some p) : cnt3 (L.take (k + 1)) = ((cnt3 (L.take k)).1 + (if p.cls = 1 then 1 else 0), (cnt3 (L.take k)).2.1 + (if p.cls = 2 then 1 else 0), (cnt3 (L.take k)).2.2 + (if p.cls = 3 then 1 else 0)) := by
  have hk : k < L.length := (List.getElem?_eq_some_iff.1 h).1
  have e : L[k] = p := by rw [List.getElem?_eq_getElem hk] at h; exact Option.some.inj h
  rw [List.take_succ_eq_append_getElem hk, e, cnt3_snoc]

set_option maxRecDepth 100000 in
set_option maxHeartbeats 4000000 in
theorem qos_Count (a : Option Addr) (len cap : Nat) (L : List PodV) (w : World) (hl : L.length = len) (hR : Row w a len cap 11 (L.flatMap PodV.cells)) :
    Calls Try.prog 35 #[.slice a len cap] w fun e w' => e = .returned (.agg #[.int .i64 0, .int .i64 (cnt3 L).1, .int .i64 (cnt3 L).2.1, .int .i64 (cnt3 L).2.2]) ∧ Below w.heap.size w w' := by
  have hbd : len ≤ cap ∧ cap ≤ 9223372036854775807 := by obtain ⟨_, h1, h2, _⟩ := hR; unfold maxLen at h2; exact ⟨h1, h2⟩
  obtain ⟨hbd1, hbd2⟩ := hbd
  have HR := Lib.hid hR
  clear hR
  subst hl
  have hw : Below w.heap.size w w := Below.refl _ _
  have hbel := hw
  go_enter Try.func35, Try.ntmps35
  go_upto_region 1 with fail
  have q0 : (w.alloc (.cells #[.int .i64 0, .int .i64 0, .int .i64 0, .int .i64 0] 52)).cell? ⟨w.heap.size, 0, none⟩ = some (.int .i64 0) := by first | (simp; done) | (rw [World.cell?_alloc_at _ _ _ _ (by simp)]; rfl) | (rw [World.cell?_alloc_past _ _ _ (by simp <;> omega), World.cell?_alloc_at _ _ _ _ (by simp)]; rfl) | (rw [World.cell?_alloc_past _ _ _ (by simp <;> omega), World.cell?_alloc_past _ _ _ (by simp <;> omega), World.cell?_alloc_at _ _ _ _ (by simp)]; rfl)
  have q1 : (w.alloc (.cells #[.int .i64 0, .int .i64 0, .int .i64 0, .int .i64 0] 52)).cell? ⟨w.heap.size, 1, none⟩ = some (.int .i64 0) := by first | (simp; done) | (rw [World.cell?_alloc_at _ _ _ _ (by simp)]; rfl) | (rw [World.cell?_alloc_past _ _ _ (by simp <;> omega), World.cell?_alloc_at _ _ _ _ (by simp)]; rfl) | (rw [World.cell?_alloc_past _ _ _ (by simp <;> omega), World.cell?_alloc_past _ _ _ (by simp <;> omega), World.cell?_alloc_at _ _ _ _ (by simp)]; rfl)
  have q2 : (w.alloc (.cells #[.int .i64 0, .int .i64 0, .int .i64 0, .int .i64 0] 52)).cell? ⟨w.heap.size, 2, none⟩ = some (.int .i64 0) := by first | (simp; done) | (rw [World.cell?_alloc_at _ _ _ _ (by simp)]; rfl) | (rw [World.cell?_alloc_past _ _ _ (by simp <;> omega), World.cell?_alloc_at _ _ _ _ (by simp)]; rfl) | (rw [World.cell?_alloc_past _ _ _ (by simp <;> omega), World.cell?_alloc_past _ _ _ (by simp <;> omega), World.cell?_alloc_at _ _ _ _ (by simp)]; rfl)
  have q3 : (w.alloc (.cells #[.int .i64 0, .int .i64 0, .int .i64 0, .int .i64 0] 52)).cell? ⟨w.heap.size, 3, none⟩ = some (.int .i64 0) := by first | (simp; done) | (rw [World.cell?_alloc_at _ _ _ _ (by simp)]; rfl) | (rw [World.cell?_alloc_past _ _ _ (by simp <;> omega), World.cell?_alloc_at _ _ _ _ (by simp)]; rfl) | (rw [World.cell?_alloc_past _ _ _ (by simp <;> omega), World.cell?_alloc_past _ _ _ (by simp <;> omega), World.cell?_alloc_at _ _ _ _ (by simp)]; rfl)
  have hb2 := (by repeat (first | exact hbel | refine belAlloc ?_ _ | refine belDrew ?_ | refine belSet ?_ _ _ (by simp)) : Below w.heap.size w (w.alloc (.cells #[.int .i64 0, .int .i64 0, .int .i64 0, .int .i64 0] 52)))
  replace hw := belStep hw hb2
  have qB : Blk (w.alloc (.cells #[.int .i64 0, .int .i64 0, .int .i64 0, .int .i64 0] 52)) (w.heap.size) [.int .i64 0, .int .i64 0, .int .i64 0, .int .i64 0] 52 := (Blk.at (by simp) : Blk (w.alloc (.cells #[.int .i64 0, .int .i64 0, .int .i64 0, .int .i64 0] 52)) (w.heap.size) [.int .i64 0, .int .i64 0, .int .i64 0, .int .i64 0] 52).later (by repeat (first | exact Below.refl _ _ | refine belAlloc ?_ _))
  have qF := Blk.keepF qB
  replace qB := Blk.keepB qB
  clear hb2 hbel
  generalize w.alloc (.cells #[.int .i64 0, .int .i64 0, .int .i64 0, .int .i64 0] 52) = W0 at *
  replace q0 := keep q0
  replace q1 := keep q1
  replace q2 := keep q2
  replace q3 := keep q3
  have hbel : Below W0.heap.size W0 W0 := Below.refl _ _
  skip
  have HR1 := Lib.hid (HR.out.later hw)
  clear HR
  go_wp2
  go_loopw [8] (fun i wr => ∃ (k : Nat) (n1 n2 n3 : Int), k ≤ L.length ∧ i = .int .i64 k ∧ cnt3 (L.take k) = (n1, n2, n3) ∧ Below W0.heap.size W0 wr ∧ Blk wr W0.heap.size [.int .i64 0, .int .i64 n1, .int .i64 n2, .int .i64 n3] 52) (fun i _ => L.length - (intOf i).toNat)
  case atStart => exact ⟨0, 0, 0, 0, Nat.zero_le _, rfl, rfl, belAlloc (Below.refl _ _) _, Blk.new W0 [.int .i64 0, .int .i64 0, .int .i64 0, .int .i64 0] _⟩
  case round =>
    obtain ⟨k, n1, n2, n3, hk, rfl, hst, hbr, hblk⟩ := hrel
    have hs := cnt3_sum (L.take k)
    rw [hst, List.length_take] at hs
    simp only at hs
    by_cases hlt : k < L.length
    · obtain ⟨p, hx⟩ : ∃ x, L[k]? = some x := ⟨L[k], List.getElem?_eq_getElem hlt⟩
      obtain ⟨b, off, rfl, _, hc⟩ := (HR1.out.later hbr).elem PodV.cells_len (by omega) hx
      have hn := cnt3_next L hx
      rw [hst] at hn
      have x0 := keep (hc 0 _ rfl)
      have x1 := keep (hc 1 _ rfl)
      have x2 := keep (hc 2 _ rfl)
      have x3 := keep (hc 3 _ rfl)
      have x4 := keep (hc 4 _ rfl)
      have x5 := keep (hc 5 _ rfl)
      have x6 := keep (hc 6 _ rfl)
      have x7 := keep (hc 7 _ rfl)
      have x8 := keep (hc 8 _ rfl)
      have x9 := keep (hc 9 _ rfl)
      have x10 := keep (hc 10 _ rfl)
      rw [Nat.add_zero] at x0
      have m0 := keep (hblk.cell (j := 0) rfl)
      have m1 := keep (hblk.cell (j := 1) rfl)
      have m2 := keep (hblk.cell (j := 2) rfl)
      have m3 := keep (hblk.cell (j := 3) rfl)
      have hF := hblk.keepF
      have hB := hblk.keepB
      have hM : W0.heap.size < wr.heap.size := hblk.lt
      have hk2 : n1 + 1 ≤ 9223372036854775807 ∧ n2 + 1 ≤ 9223372036854775807 ∧ n3 + 1 ≤ 9223372036854775807 := by omega
      obtain ⟨hk3, hk4, hk5⟩ := hk2
      have hk6 : 0 ≤ n1 ∧ 0 ≤ n2 ∧ 0 ≤ n3 := ⟨hs.1, hs.2.1, hs.2.2.1⟩
      obtain ⟨hk7, hk8, hk9⟩ := hk6
      have cc := fun v => qos_Class p.id p.prio p.crit p.r0 p.r1 p.r2 p.l0 p.l1 p.l2 p.img p.size v
      rw [show classI p.r0 p.r1 p.r2 p.l0 p.l1 p.l2 = p.cls from rfl] at cc
      have hcls := p.cls_cases
      generalize p.cls = c at *
      have hb9 := hbr
      replace hw := belStep hw hbr
      have hbel : Below wr.heap.size wr wr := Below.refl _ _
      clear hc hx hs hst hblk hbr
      go_upto_region 5 with fail
      have hb9' := belStep hb9 (belAlloc hbel (.cells #[.string p.id, .int .i64 p.prio, .bool p.crit, .int .i64 p.r0, .int .i64 p.r1, .int .i64 p.r2, .int .i64 p.l0, .int .i64 p.l1, .int .i64 p.l2, .string p.img, .int .i64 p.size] 24))
      have p0 : (wr.alloc (.cells #[.string p.id, .int .i64 p.prio, .bool p.crit, .int .i64 p.r0, .int .i64 p.r1, .int .i64 p.r2, .int .i64 p.l0, .int .i64 p.l1, .int .i64 p.l2, .string p.img, .int .i64 p.size] 24)).cell? ⟨wr.heap.size, 0, none⟩ = some (.string p.id) := by first | (simp; done) | (rw [World.cell?_alloc_at _ _ _ _ (by simp)]; rfl) | (rw [World.cell?_alloc_past _ _ _ (by simp <;> omega), World.cell?_alloc_at _ _ _ _ (by simp)]; rfl) | (rw [World.cell?_alloc_past _ _ _ (by simp <;> omega), World.cell?_alloc_past _ _ _ (by simp <;> omega), World.cell?_alloc_at _ _ _ _ (by simp)]; rfl)
      have p1 : (wr.alloc (.cells #[.string p.id, .int .i64 p.prio, .bool p.crit, .int .i64 p.r0, .int .i64 p.r1, .int .i64 p.r2, .int .i64 p.l0, .int .i64 p.l1, .int .i64 p.l2, .string p.img, .int .i64 p.size] 24)).cell? ⟨wr.heap.size, 1, none⟩ = some (.int .i64 p.prio) := by first | (simp; done) | (rw [World.cell?_alloc_at _ _ _ _ (by simp)]; rfl) | (rw [World.cell?_alloc_past _ _ _ (by simp <;> omega), World.cell?_alloc_at _ _ _ _ (by simp)]; rfl) | (rw [World.cell?_alloc_past _ _ _ (by simp <;> omega), World.cell?_alloc_past _ _ _ (by simp <;> omega), World.cell?_alloc_at _ _ _ _ (by simp)]; rfl)
      have p2 : (wr.alloc (.cells #[.string p.id, .int .i64 p.prio, .bool p.crit, .int .i64 p.r0, .int .i64 p.r1, .int .i64 p.r2, .int .i64 p.l0, .int .i64 p.l1, .int .i64 p.l2, .string p.img, .int .i64 p.size] 24)).cell? ⟨wr.heap.size, 2, none⟩ = some (.bool p.crit) := by first | (simp; done) | (rw [World.cell?_alloc_at _ _ _ _ (by simp)]; rfl) | (rw [World.cell?_alloc_past _ _ _ (by simp <;> omega), World.cell?_alloc_at _ _ _ _ (by simp)]; rfl) | (rw [World.cell?_alloc_past _ _ _ (by simp <;> omega), World.cell?_alloc_past _ _ _ (by simp <;> omega), World.cell?_alloc_at _ _ _ _ (by simp)]; rfl)
      have p3 : (wr.alloc (.cells #[.string p.id, .int .i64 p.prio, .bool p.crit, .int .i64 p.r0, .int .i64 p.r1, .int .i64 p.r2, .int .i64 p.l0, .int .i64 p.l1, .int .i64 p.l2, .string p.img, .int .i64 p.size] 24)).cell? ⟨wr.heap.size, 3, none⟩ = some (.int .i64 p.r0) := by first | (simp; done) | (rw [World.cell?_alloc_at _ _ _ _ (by simp)]; rfl) | (rw [World.cell?_alloc_past _ _ _ (by simp <;> omega), World.cell?_alloc_at _ _ _ _ (by simp)]; rfl) | (rw [World.cell?_alloc_past _ _ _ (by simp <;> omega), World.cell?_alloc_past _ _ _ (by simp <;> omega), World.cell?_alloc_at _ _ _ _ (by simp)]; rfl)
      have p4 : (wr.alloc (.cells #[.string p.id, .int .i64 p.prio, .bool p.crit, .int .i64 p.r0, .int .i64 p.r1, .int .i64 p.r2, .int .i64 p.l0, .int .i64 p.l1, .int .i64 p.l2, .string p.img, .int .i64 p.size] 24)).cell? ⟨wr.heap.size, 4, none⟩ = some (.int .i64 p.r1) := by first | (simp; done) | (rw [World.cell?_alloc_at _ _ _ _ (by simp)]; rfl) | (rw [World.cell?_alloc_past _ _ _ (by simp <;> omega), World.cell?_alloc_at _ _ _ _ (by simp)]; rfl) | (rw [World.cell?_alloc_past _ _ _ (by simp <;> omega), World.cell?_alloc_past _ _ _ (by simp <;> omega), World.cell?_alloc_at _ _ _ _ (by simp)]; rfl)
      have p5 : (wr.alloc (.cells #[.string p.id, .int .i64 p.prio, .bool p.crit, .int .i64 p.r0, .int .i64 p.r1, .int .i64 p.r2, .int .i64 p.l0, .int .i64 p.l1, .int .i64 p.l2, .string p.img, .int .i64 p.size] 24)).cell? ⟨wr.heap.size, 5, none⟩ = some (.int .i64 p.r2) := by first | (simp; done) | (rw [World.cell?_alloc_at _ _ _ _ (by simp)]; rfl) | (rw [World.cell?_alloc_past _ _ _ (by simp <;> omega), World.cell?_alloc_at _ _ _ _ (by simp)]; rfl) | (rw [World.cell?_alloc_past _ _ _ (by simp <;> omega), World.cell?_alloc_past _ _ _ (by simp <;> omega), World.cell?_alloc_at _ _ _ _ (by simp)]; rfl)
      have p6 : (wr.alloc (.cells #[.string p.id, .int .i64 p.prio, .bool p.crit, .int .i64 p.r0, .int .i64 p.r1, .int .i64 p.r2, .int .i64 p.l0, .int .i64 p.l1, .int .i64 p.l2, .string p.img, .int .i64 p.size] 24)).cell? ⟨wr.heap.size, 6, none⟩ = some (.int .i64 p.l0) := by first | (simp; done) | (rw [World.cell?_alloc_at _ _ _ _ (by simp)]; rfl) | (rw [World.cell?_alloc_past _ _ _ (by simp <;> omega), World.cell?_alloc_at _ _ _ _ (by simp)]; rfl) | (rw [World.cell?_alloc_past _ _ _ (by simp <;> omega), World.cell?_alloc_past _ _ _ (by simp <;> omega), World.cell?_alloc_at _ _ _ _ (by simp)]; rfl)
      have p7 : (wr.alloc (.cells #[.string p.id, .int .i64 p.prio, .bool p.crit, .int .i64 p.r0, .int .i64 p.r1, .int .i64 p.r2, .int .i64 p.l0, .int .i64 p.l1, .int .i64 p.l2, .string p.img, .int .i64 p.size] 24)).cell? ⟨wr.heap.size, 7, none⟩ = some (.int .i64 p.l1) := by first | (simp; done) | (rw [World.cell?_alloc_at _ _ _ _ (by simp)]; rfl) | (rw [World.cell?_alloc_past _ _ _ (by simp <;> omega), World.cell?_alloc_at _ _ _ _ (by simp)]; rfl) | (rw [World.cell?_alloc_past _ _ _ (by simp <;> omega), World.cell?_alloc_past _ _ _ (by simp <;> omega), World.cell?_alloc_at _ _ _ _ (by simp)]; rfl)
      have p8 : (wr.alloc (.cells #[.string p.id, .int .i64 p.prio, .bool p.crit, .int .i64 p.r0, .int .i64 p.r1, .int .i64 p.r2, .int .i64 p.l0, .int .i64 p.l1, .int .i64 p.l2, .string p.img, .int .i64 p.size] 24)).cell? ⟨wr.heap.size, 8, none⟩ = some (.int .i64 p.l2) := by first | (simp; done) | (rw [World.cell?_alloc_at _ _ _ _ (by simp)]; rfl) | (rw [World.cell?_alloc_past _ _ _ (by simp <;> omega), World.cell?_alloc_at _ _ _ _ (by simp)]; rfl) | (rw [World.cell?_alloc_past _ _ _ (by simp <;> omega), World.cell?_alloc_past _ _ _ (by simp <;> omega), World.cell?_alloc_at _ _ _ _ (by simp)]; rfl)
      have p9 : (wr.alloc (.cells #[.string p.id, .int .i64 p.prio, .bool p.crit, .int .i64 p.r0, .int .i64 p.r1, .int .i64 p.r2, .int .i64 p.l0, .int .i64 p.l1, .int .i64 p.l2, .string p.img, .int .i64 p.size] 24)).cell? ⟨wr.heap.size, 9, none⟩ = some (.string p.img) := by first | (simp; done) | (rw [World.cell?_alloc_at _ _ _ _ (by simp)]; rfl) | (rw [World.cell?_alloc_past _ _ _ (by simp <;> omega), World.cell?_alloc_at _ _ _ _ (by simp)]; rfl) | (rw [World.cell?_alloc_past _ _ _ (by simp <;> omega), World.cell?_alloc_past _ _ _ (by simp <;> omega), World.cell?_alloc_at _ _ _ _ (by simp)]; rfl)
      have p10 : (wr.alloc (.cells #[.string p.id, .int .i64 p.prio, .bool p.crit, .int .i64 p.r0, .int .i64 p.r1, .int .i64 p.r2, .int .i64 p.l0, .int .i64 p.l1, .int .i64 p.l2, .string p.img, .int .i64 p.size] 24)).cell? ⟨wr.heap.size, 10, none⟩ = some (.int .i64 p.size) := by first | (simp; done) | (rw [World.cell?_alloc_at _ _ _ _ (by simp)]; rfl) | (rw [World.cell?_alloc_past _ _ _ (by simp <;> omega), World.cell?_alloc_at _ _ _ _ (by simp)]; rfl) | (rw [World.cell?_alloc_past _ _ _ (by simp <;> omega), World.cell?_alloc_past _ _ _ (by simp <;> omega), World.cell?_alloc_at _ _ _ _ (by simp)]; rfl)
      have hb2 := (by repeat (first | exact hbel | refine belAlloc ?_ _ | refine belDrew ?_ | refine belSet ?_ _ _ (by simp)) : Below wr.heap.size wr (wr.alloc (.cells #[.string p.id, .int .i64 p.prio, .bool p.crit, .int .i64 p.r0, .int .i64 p.r1, .int .i64 p.r2, .int .i64 p.l0, .int .i64 p.l1, .int .i64 p.l2, .string p.img, .int .i64 p.size] 24)))
      replace m0 := keepOnP m0 hb2
      replace m1 := keepOnP m1 hb2
      replace m2 := keepOnP m2 hb2
      replace m3 := keepOnP m3 hb2
      replace hF := keepOnP hF hb2
      replace hB := keepOnP hB hb2
      replace hw := belStep hw hb2
      clear hb2 hbel
      generalize wr.alloc (.cells #[.string p.id, .int .i64 p.prio, .bool p.crit, .int .i64 p.r0, .int .i64 p.r1, .int .i64 p.r2, .int .i64 p.l0, .int .i64 p.l1, .int .i64 p.l2, .string p.img, .int .i64 p.size] 24) = W3 at *
      replace p0 := keep p0
      replace p1 := keep p1
      replace p2 := keep p2
      replace p3 := keep p3
      replace p4 := keep p4
      replace p5 := keep p5
      replace p6 := keep p6
      replace p7 := keep p7
      replace p8 := keep p8
      replace p9 := keep p9
      replace p10 := keep p10
      have hbel : Below W3.heap.size W3 W3 := Below.refl _ _
      skip
      have hM3 : W0.heap.size < W3.heap.size := (hB _ hbel).lt
      rcases hcls with rfl | rfl | rfl
      all_goals
        simp at hn
        have HN := Lib.hid hn
        have CC := Lib.hid cc
        clear cc hn
      · go_wp2_with (first | (go_at_call 29; (with_reducible refine (CC.out _).mono ?_); rintro e w1 ⟨rfl, hb1⟩; replace hbel := belStep hbel hb1; clear hb1))
        go_roundw
        case rel => exact ⟨k + 1, n1 + 1, n2, n3, by omega, by push_cast; rfl, HN.out, belSet (belStep hb9' hbel) _ _ (Nat.le_refl _), (hB _ hbel).set 1 _⟩
        case measure => simp [intOf] <;> omega
      · go_wp2_with (first | (go_at_call 29; (with_reducible refine (CC.out _).mono ?_); rintro e w1 ⟨rfl, hb1⟩; replace hbel := belStep hbel hb1; clear hb1))
        go_roundw
        case rel => exact ⟨k + 1, n1, n2 + 1, n3, by omega, by push_cast; rfl, HN.out, belSet (belStep hb9' hbel) _ _ (Nat.le_refl _), (hB _ hbel).set 2 _⟩
        case measure => simp [intOf] <;> omega
      · go_wp2_with (first | (go_at_call 29; (with_reducible refine (CC.out _).mono ?_); rintro e w1 ⟨rfl, hb1⟩; replace hbel := belStep hbel hb1; clear hb1))
        go_roundw
        case rel => exact ⟨k + 1, n1, n2, n3 + 1, by omega, by push_cast; rfl, HN.out, belSet (belStep hb9' hbel) _ _ (Nat.le_refl _), (hB _ hbel).set 3 _⟩
        case measure => simp [intOf] <;> omega
    · obtain rfl : k = L.length := by omega
      rw [List.take_length] at hst
      replace qF := keepOnP qF hbr
      have hbel : Below wr.heap.size wr wr := Below.refl _ _
      replace hw := belStep hw hbr
      have m0 := keep (hblk.cell (j := 0) rfl)
      have m1 := keep (hblk.cell (j := 1) rfl)
      have m2 := keep (hblk.cell (j := 2) rfl)
      have m3 := keep (hblk.cell (j := 3) rfl)
      have hqb := ((qB _ (Below.refl _ _)).later hbr)
      have hlt0 : w.heap.size < wr.heap.size := hqb.lt
      replace q0 := keepOnP q0 hbr
      replace q1 := keepOnP q1 hbr
      replace q2 := keepOnP q2 hbr
      replace q3 := keepOnP q3 hbr
      go_wp2
      have gg := (((hqb.set 0 (.int .i64 0)).set 1 (.int .i64 n1)).set 2 (.int .i64 n2)).set 3 (.int .i64 n3)
      have g0 := gg.cell (j := 0) rfl
      have g1 := gg.cell (j := 1) rfl
      have g2 := gg.cell (j := 2) rfl
      have g3 := gg.cell (j := 3) rfl
      simp [bodyPost, results, Try.results35, go_sem, g0, g1, g2, g3, hst]
      exact Below.setCell (Below.setCell (Below.setCell (Below.setCell hw (Nat.le_refl _) _) (Nat.le_refl _) _) (Nat.le_refl _) _) (Nat.le_refl _) _
end Go.Proofs.Ytnfblpiapendeaa
