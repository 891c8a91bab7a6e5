
/- victim.part: contract. -/
import Derived.Test.YtbifmmdiekodjaaVicMath
import Derived.Test.YtbifmmdiekodjaaRowK
import Derived.Test.YtbifmmdiekodjaaVicC
namespace Go.Proofs.Ytbifmmdiekodjaa
open Go.RowKit
set_option linter.unusedVariables false
set_option linter.unusedSimpArgs false

theorem own_snoc {w : World} {B : Nat} {v : Value} {N : List PodV} {x : PodV} (h : OwnR w B 24 11 v (N.length + 1) (N.flatMap PodV.cells ++ x.cells)) : OwnR w B 24 11 v (N ++ [x]).length ((N ++ [x]).flatMap PodV.cells) := by
  rw [List.length_append, List.flatMap_append]; simpa using h
theorem sort_may {w : World} {B : Nat} {v : Value} {n : Nat} {L : List PodV} (hd : Dist L) (hl : L.length ≤ 100000) (h : OwnR w B 24 11 v n (L.flatMap PodV.cells)) (hn : L.length = n) :
    Calls Try.prog 28 #[v, .func (.func 29) #[] #[]] w fun e w' => e = .returned (.tuple #[]) ∧ OwnR w' B 24 11 v n ((sortP L).flatMap PodV.cells) ∧ w.grownBy w' v.ownBlock := by
  rcases own_sort PodV.cells 11 PodV.cells_len h hn with ⟨rfl, h0⟩ | ⟨g, cap, rfl, hB, hg, hH, hO, hG⟩
  · subst h0
    have hnil : L = [] := List.eq_nil_of_length_eq_zero hn
    subst hnil
    refine (Try.slices_SortFunc_none (α := PodV) none 0 (.func (.func 29) #[] #[]) w).mono ?_
    rintro e w' ⟨rfl, rfl⟩
    exact ⟨rfl, by rw [show sortP [] = [] by unfold sortP; simp]; exact h, ⟨rfl, rfl, rfl, Nat.le_refl _, fun _ _ _ => rfl⟩⟩
  · have eg : ∀ args w, (callFunc 29 args).run Try.prog w = .ok (.enter 29 args) w := enters_of Try.func29 (by kernel_rfl) rfl
    have hc := Try.slices_SortFunc 11 Try.isAgg24 Try.sizeOf24 PodV.cells PodV.cells_len (fun x => pod_one x) cfP swo_cfP 29 #[] g 0 cap L.toArray w eg (fun _ _ _ _ x y => (vic_cmp x y _).mono fun _ _ ⟨h1, h2⟩ => ⟨h1, h2⟩) hH hg (by simp; omega)
    rw [show L.toArray.size = n by simpa using hn] at hc
    refine hc.mono ?_
    rintro e w' ⟨rfl, d', m, os, hp, hs, rfl⟩
    have hsz : d'.size = n := by have := hp.1; simpa [hn] using this
    have hperm : d'.toList.Perm L := by
      have h3 := hp.2.2
      rw [← hn, show L.length = L.toArray.size by simp, Array.extract_size, show L.toArray.size = d'.size by simp [hsz, hn], Array.extract_size] at h3
      exact h3
    have hpw : d'.toList.Pairwise (fun x y => ltP y x = false) := by
      rw [List.pairwise_iff_getElem]
      intro i j hi hj hij
      have hi' : i < d'.size := by simpa using hi
      have hj' : j < d'.size := by simpa using hj
      have := hs i j (Nat.zero_le _) hij (by omega)
      rw [lt_cfP, getElem!_pos d' j hj', getElem!_pos d' i hi'] at this
      simpa using this
    have he := sortP_unique hd hperm hpw
    have hda : d' = (sortP L).toArray := by rw [← he]
    subst hda
    exact ⟨rfl, hO m (sortP L) os (by rw [sortP_len]; exact hn), hG m _ os⟩

set_option maxRecDepth 100000 in
set_option maxHeartbeats 4000000 in
theorem vic_part (p : PodV) (a : Option Addr) (len cap : Nat) (L : List PodV) (w : World) (hl : L.length = len) (hok : ∀ x ∈ L, x.ok) (hR : Row w a len cap 11 (L.flatMap PodV.cells)) (hd : Dist L) (hb : len ≤ 100000) :
    Calls Try.prog 22 #[.slice a len cap, .agg #[.string p.id, .int .i64 p.prio, .bool p.crit, .int .i64 p.r0, .int .i64 p.r1, .int .i64 p.r2, .int .i64 p.l0, .int .i64 p.l1, .int .i64 p.l2, .string p.img, .int .i64 p.size]] w fun e w' => ∃ v1 v2, e = .returned (.tuple #[v1, v2]) ∧ OwnR w' w.heap.size 24 11 v1 (mayF L p).length ((sortP (mayF L p)).flatMap PodV.cells) ∧ OwnR w' w.heap.size 24 11 v2 (stF L p).length ((stF L p).flatMap PodV.cells) ∧ Sep v1 v2 ∧ Below w.heap.size w w' := by
  have hw : Below w.heap.size w w := Below.refl _ _
  have hbel := hw
  have hbd : len ≤ cap ∧ cap ≤ 9223372036854775807 := by obtain ⟨_, h1, h2, _⟩ := hR; unfold maxLen at h2; exact ⟨h1, h2⟩
  obtain ⟨hbd1, hbd2⟩ := hbd
  have HR := Lib.hid hR
  have HDI := Lib.hid hd
  clear hR hok hd
  subst hl
  go_enter Try.func22, Try.ntmps22
  go_upto_region 1 with fail
  have a0 : (w.alloc (.cells #[.string p.id, .int .i64 p.prio, .bool p.crit, .int .i64 p.r0, .int .i64 p.r1, .int .i64 p.r2, .int .i64 p.l0, .int .i64 p.l1, .int .i64 p.l2, .string p.img, .int .i64 p.size] 24)).cell? ⟨w.heap.size, 0, none⟩ = some (.string p.id) := by first | (simp; done) | (rw [World.cell?_alloc_at _ _ _ _ (by simp)]; rfl) | (rw [World.cell?_alloc_past _ _ _ (by simp <;> omega), World.cell?_alloc_at _ _ _ _ (by simp)]; rfl) | (rw [World.cell?_alloc_past _ _ _ (by simp <;> omega), World.cell?_alloc_past _ _ _ (by simp <;> omega), World.cell?_alloc_at _ _ _ _ (by simp)]; rfl)
  have a1 : (w.alloc (.cells #[.string p.id, .int .i64 p.prio, .bool p.crit, .int .i64 p.r0, .int .i64 p.r1, .int .i64 p.r2, .int .i64 p.l0, .int .i64 p.l1, .int .i64 p.l2, .string p.img, .int .i64 p.size] 24)).cell? ⟨w.heap.size, 1, none⟩ = some (.int .i64 p.prio) := by first | (simp; done) | (rw [World.cell?_alloc_at _ _ _ _ (by simp)]; rfl) | (rw [World.cell?_alloc_past _ _ _ (by simp <;> omega), World.cell?_alloc_at _ _ _ _ (by simp)]; rfl) | (rw [World.cell?_alloc_past _ _ _ (by simp <;> omega), World.cell?_alloc_past _ _ _ (by simp <;> omega), World.cell?_alloc_at _ _ _ _ (by simp)]; rfl)
  have a2 : (w.alloc (.cells #[.string p.id, .int .i64 p.prio, .bool p.crit, .int .i64 p.r0, .int .i64 p.r1, .int .i64 p.r2, .int .i64 p.l0, .int .i64 p.l1, .int .i64 p.l2, .string p.img, .int .i64 p.size] 24)).cell? ⟨w.heap.size, 2, none⟩ = some (.bool p.crit) := by first | (simp; done) | (rw [World.cell?_alloc_at _ _ _ _ (by simp)]; rfl) | (rw [World.cell?_alloc_past _ _ _ (by simp <;> omega), World.cell?_alloc_at _ _ _ _ (by simp)]; rfl) | (rw [World.cell?_alloc_past _ _ _ (by simp <;> omega), World.cell?_alloc_past _ _ _ (by simp <;> omega), World.cell?_alloc_at _ _ _ _ (by simp)]; rfl)
  have a3 : (w.alloc (.cells #[.string p.id, .int .i64 p.prio, .bool p.crit, .int .i64 p.r0, .int .i64 p.r1, .int .i64 p.r2, .int .i64 p.l0, .int .i64 p.l1, .int .i64 p.l2, .string p.img, .int .i64 p.size] 24)).cell? ⟨w.heap.size, 3, none⟩ = some (.int .i64 p.r0) := by first | (simp; done) | (rw [World.cell?_alloc_at _ _ _ _ (by simp)]; rfl) | (rw [World.cell?_alloc_past _ _ _ (by simp <;> omega), World.cell?_alloc_at _ _ _ _ (by simp)]; rfl) | (rw [World.cell?_alloc_past _ _ _ (by simp <;> omega), World.cell?_alloc_past _ _ _ (by simp <;> omega), World.cell?_alloc_at _ _ _ _ (by simp)]; rfl)
  have a4 : (w.alloc (.cells #[.string p.id, .int .i64 p.prio, .bool p.crit, .int .i64 p.r0, .int .i64 p.r1, .int .i64 p.r2, .int .i64 p.l0, .int .i64 p.l1, .int .i64 p.l2, .string p.img, .int .i64 p.size] 24)).cell? ⟨w.heap.size, 4, none⟩ = some (.int .i64 p.r1) := by first | (simp; done) | (rw [World.cell?_alloc_at _ _ _ _ (by simp)]; rfl) | (rw [World.cell?_alloc_past _ _ _ (by simp <;> omega), World.cell?_alloc_at _ _ _ _ (by simp)]; rfl) | (rw [World.cell?_alloc_past _ _ _ (by simp <;> omega), World.cell?_alloc_past _ _ _ (by simp <;> omega), World.cell?_alloc_at _ _ _ _ (by simp)]; rfl)
  have a5 : (w.alloc (.cells #[.string p.id, .int .i64 p.prio, .bool p.crit, .int .i64 p.r0, .int .i64 p.r1, .int .i64 p.r2, .int .i64 p.l0, .int .i64 p.l1, .int .i64 p.l2, .string p.img, .int .i64 p.size] 24)).cell? ⟨w.heap.size, 5, none⟩ = some (.int .i64 p.r2) := by first | (simp; done) | (rw [World.cell?_alloc_at _ _ _ _ (by simp)]; rfl) | (rw [World.cell?_alloc_past _ _ _ (by simp <;> omega), World.cell?_alloc_at _ _ _ _ (by simp)]; rfl) | (rw [World.cell?_alloc_past _ _ _ (by simp <;> omega), World.cell?_alloc_past _ _ _ (by simp <;> omega), World.cell?_alloc_at _ _ _ _ (by simp)]; rfl)
  have a6 : (w.alloc (.cells #[.string p.id, .int .i64 p.prio, .bool p.crit, .int .i64 p.r0, .int .i64 p.r1, .int .i64 p.r2, .int .i64 p.l0, .int .i64 p.l1, .int .i64 p.l2, .string p.img, .int .i64 p.size] 24)).cell? ⟨w.heap.size, 6, none⟩ = some (.int .i64 p.l0) := by first | (simp; done) | (rw [World.cell?_alloc_at _ _ _ _ (by simp)]; rfl) | (rw [World.cell?_alloc_past _ _ _ (by simp <;> omega), World.cell?_alloc_at _ _ _ _ (by simp)]; rfl) | (rw [World.cell?_alloc_past _ _ _ (by simp <;> omega), World.cell?_alloc_past _ _ _ (by simp <;> omega), World.cell?_alloc_at _ _ _ _ (by simp)]; rfl)
  have a7 : (w.alloc (.cells #[.string p.id, .int .i64 p.prio, .bool p.crit, .int .i64 p.r0, .int .i64 p.r1, .int .i64 p.r2, .int .i64 p.l0, .int .i64 p.l1, .int .i64 p.l2, .string p.img, .int .i64 p.size] 24)).cell? ⟨w.heap.size, 7, none⟩ = some (.int .i64 p.l1) := by first | (simp; done) | (rw [World.cell?_alloc_at _ _ _ _ (by simp)]; rfl) | (rw [World.cell?_alloc_past _ _ _ (by simp <;> omega), World.cell?_alloc_at _ _ _ _ (by simp)]; rfl) | (rw [World.cell?_alloc_past _ _ _ (by simp <;> omega), World.cell?_alloc_past _ _ _ (by simp <;> omega), World.cell?_alloc_at _ _ _ _ (by simp)]; rfl)
  have a8 : (w.alloc (.cells #[.string p.id, .int .i64 p.prio, .bool p.crit, .int .i64 p.r0, .int .i64 p.r1, .int .i64 p.r2, .int .i64 p.l0, .int .i64 p.l1, .int .i64 p.l2, .string p.img, .int .i64 p.size] 24)).cell? ⟨w.heap.size, 8, none⟩ = some (.int .i64 p.l2) := by first | (simp; done) | (rw [World.cell?_alloc_at _ _ _ _ (by simp)]; rfl) | (rw [World.cell?_alloc_past _ _ _ (by simp <;> omega), World.cell?_alloc_at _ _ _ _ (by simp)]; rfl) | (rw [World.cell?_alloc_past _ _ _ (by simp <;> omega), World.cell?_alloc_past _ _ _ (by simp <;> omega), World.cell?_alloc_at _ _ _ _ (by simp)]; rfl)
  have a9 : (w.alloc (.cells #[.string p.id, .int .i64 p.prio, .bool p.crit, .int .i64 p.r0, .int .i64 p.r1, .int .i64 p.r2, .int .i64 p.l0, .int .i64 p.l1, .int .i64 p.l2, .string p.img, .int .i64 p.size] 24)).cell? ⟨w.heap.size, 9, none⟩ = some (.string p.img) := by first | (simp; done) | (rw [World.cell?_alloc_at _ _ _ _ (by simp)]; rfl) | (rw [World.cell?_alloc_past _ _ _ (by simp <;> omega), World.cell?_alloc_at _ _ _ _ (by simp)]; rfl) | (rw [World.cell?_alloc_past _ _ _ (by simp <;> omega), World.cell?_alloc_past _ _ _ (by simp <;> omega), World.cell?_alloc_at _ _ _ _ (by simp)]; rfl)
  have a10 : (w.alloc (.cells #[.string p.id, .int .i64 p.prio, .bool p.crit, .int .i64 p.r0, .int .i64 p.r1, .int .i64 p.r2, .int .i64 p.l0, .int .i64 p.l1, .int .i64 p.l2, .string p.img, .int .i64 p.size] 24)).cell? ⟨w.heap.size, 10, none⟩ = some (.int .i64 p.size) := by first | (simp; done) | (rw [World.cell?_alloc_at _ _ _ _ (by simp)]; rfl) | (rw [World.cell?_alloc_past _ _ _ (by simp <;> omega), World.cell?_alloc_at _ _ _ _ (by simp)]; rfl) | (rw [World.cell?_alloc_past _ _ _ (by simp <;> omega), World.cell?_alloc_past _ _ _ (by simp <;> omega), World.cell?_alloc_at _ _ _ _ (by simp)]; rfl)
  have hb2 := (by repeat (first | exact hbel | refine belAlloc ?_ _ | refine belDrew ?_ | refine belSet ?_ _ _ (by simp)) : Below w.heap.size w (w.alloc (.cells #[.string p.id, .int .i64 p.prio, .bool p.crit, .int .i64 p.r0, .int .i64 p.r1, .int .i64 p.r2, .int .i64 p.l0, .int .i64 p.l1, .int .i64 p.l2, .string p.img, .int .i64 p.size] 24)))
  replace hw := belStep hw hb2
  clear hb2 hbel
  generalize w.alloc (.cells #[.string p.id, .int .i64 p.prio, .bool p.crit, .int .i64 p.r0, .int .i64 p.r1, .int .i64 p.r2, .int .i64 p.l0, .int .i64 p.l1, .int .i64 p.l2, .string p.img, .int .i64 p.size] 24) = W1 at *
  replace a0 := keep a0
  replace a1 := keep a1
  replace a2 := keep a2
  replace a3 := keep a3
  replace a4 := keep a4
  replace a5 := keep a5
  replace a6 := keep a6
  replace a7 := keep a7
  replace a8 := keep a8
  replace a9 := keep a9
  replace a10 := keep a10
  have hbel : Below W1.heap.size W1 W1 := Below.refl _ _
  skip
  have HW1 := Lib.hid hw
  have hsz1 : w.heap.size ≤ W1.heap.size := hw.size
  have HB1 := Lib.hid hbel
  clear hw hbel
  go_wp2
  go_loopw [6, 7, 12] (fun m s i wr => ∃ k : Nat, k ≤ L.length ∧ i = .int .i64 k ∧ OwnR wr W1.heap.size 24 11 m ((L.take k).filter (mayB p)).length (((L.take k).filter (mayB p)).flatMap PodV.cells) ∧ OwnR wr W1.heap.size 24 11 s ((L.take k).filter (fun v => !mayB p v)).length (((L.take k).filter (fun v => !mayB p v)).flatMap PodV.cells) ∧ Sep m s ∧ Below W1.heap.size W1 wr) (fun _ _ i _ => L.length - (intOf i).toNat)
  case atStart => exact ⟨0, Nat.zero_le _, rfl, OwnR.nil _ _ _ _, OwnR.nil _ _ _ _, Sep.nilL _, HB1.out⟩
  case round =>
    obtain ⟨k, hk, rfl, hM, hS, hsep, hbr⟩ := hrel
    have hbel := hbr
    by_cases hlt : k < L.length
    · obtain ⟨x, hx⟩ : ∃ x, L[k]? = some x := ⟨L[k], List.getElem?_eq_getElem hlt⟩
      have hw : Below W1.heap.size W1 W1 := Below.refl _ _
      clear hbr HB1
      replace a0 := keepOnP a0 hbel
      replace a1 := keepOnP a1 hbel
      replace a2 := keepOnP a2 hbel
      replace a3 := keepOnP a3 hbel
      replace a4 := keepOnP a4 hbel
      replace a5 := keepOnP a5 hbel
      replace a6 := keepOnP a6 hbel
      replace a7 := keepOnP a7 hbel
      replace a8 := keepOnP a8 hbel
      replace a9 := keepOnP a9 hbel
      replace a10 := keepOnP a10 hbel
      replace hw := belStep hw hbel
      clear hbel
      generalize wr = W2 at *
      have hbel : Below W2.heap.size W2 W2 := Below.refl _ _
      obtain ⟨b, off, rfl, _, hc⟩ := (HR.out.later (HW1.out.trans (hw.mono HW1.out.size))).elem PodV.cells_len (by omega) hx
      have c0 := keep (hc 0 _ rfl)
      have c1 := keep (hc 1 _ rfl)
      have c2 := keep (hc 2 _ rfl)
      have c3 := keep (hc 3 _ rfl)
      have c4 := keep (hc 4 _ rfl)
      have c5 := keep (hc 5 _ rfl)
      have c6 := keep (hc 6 _ rfl)
      have c7 := keep (hc 7 _ rfl)
      have c8 := keep (hc 8 _ rfl)
      have c9 := keep (hc 9 _ rfl)
      have c10 := keep (hc 10 _ rfl)
      rw [Nat.add_zero] at c0
      have hf1 := filt_len (mayB p) L k
      have hf2 := filt_len (fun v => !mayB p v) L k
      clear hc
      rcases Bool.eq_false_or_eq_true (mayB p x) with hm | hm
      · have HN1 := Lib.hid (filt_next hx hm)
        have HN2 := Lib.hid (filt_same (f := fun v => !mayB p v) hx (by rw [hm]; rfl))
        have CM := Lib.hid (fun v => hm ▸ vic_May p x v)
        clear hx hm
        replace hM := OwnR.alloc hM (.cells #[.string x.id, .int .i64 x.prio, .bool x.crit, .int .i64 x.r0, .int .i64 x.r1, .int .i64 x.r2, .int .i64 x.l0, .int .i64 x.l1, .int .i64 x.l2, .string x.img, .int .i64 x.size] 24)
        replace hS := OwnR.alloc hS (.cells #[.string x.id, .int .i64 x.prio, .bool x.crit, .int .i64 x.r0, .int .i64 x.r1, .int .i64 x.r2, .int .i64 x.l0, .int .i64 x.l1, .int .i64 x.l2, .string x.img, .int .i64 x.size] 24)
        go_upto_region 5 with fail
        have x0 : (W2.alloc (.cells #[.string x.id, .int .i64 x.prio, .bool x.crit, .int .i64 x.r0, .int .i64 x.r1, .int .i64 x.r2, .int .i64 x.l0, .int .i64 x.l1, .int .i64 x.l2, .string x.img, .int .i64 x.size] 24)).cell? ⟨W2.heap.size, 0, none⟩ = some (.string x.id) := by first | (simp; done) | (rw [World.cell?_alloc_at _ _ _ _ (by simp)]; rfl) | (rw [World.cell?_alloc_past _ _ _ (by simp <;> omega), World.cell?_alloc_at _ _ _ _ (by simp)]; rfl) | (rw [World.cell?_alloc_past _ _ _ (by simp <;> omega), World.cell?_alloc_past _ _ _ (by simp <;> omega), World.cell?_alloc_at _ _ _ _ (by simp)]; rfl)
        have x1 : (W2.alloc (.cells #[.string x.id, .int .i64 x.prio, .bool x.crit, .int .i64 x.r0, .int .i64 x.r1, .int .i64 x.r2, .int .i64 x.l0, .int .i64 x.l1, .int .i64 x.l2, .string x.img, .int .i64 x.size] 24)).cell? ⟨W2.heap.size, 1, none⟩ = some (.int .i64 x.prio) := by first | (simp; done) | (rw [World.cell?_alloc_at _ _ _ _ (by simp)]; rfl) | (rw [World.cell?_alloc_past _ _ _ (by simp <;> omega), World.cell?_alloc_at _ _ _ _ (by simp)]; rfl) | (rw [World.cell?_alloc_past _ _ _ (by simp <;> omega), World.cell?_alloc_past _ _ _ (by simp <;> omega), World.cell?_alloc_at _ _ _ _ (by simp)]; rfl)
        have x2 : (W2.alloc (.cells #[.string x.id, .int .i64 x.prio, .bool x.crit, .int .i64 x.r0, .int .i64 x.r1, .int .i64 x.r2, .int .i64 x.l0, .int .i64 x.l1, .int .i64 x.l2, .string x.img, .int .i64 x.size] 24)).cell? ⟨W2.heap.size, 2, none⟩ = some (.bool x.crit) := by first | (simp; done) | (rw [World.cell?_alloc_at _ _ _ _ (by simp)]; rfl) | (rw [World.cell?_alloc_past _ _ _ (by simp <;> omega), World.cell?_alloc_at _ _ _ _ (by simp)]; rfl) | (rw [World.cell?_alloc_past _ _ _ (by simp <;> omega), World.cell?_alloc_past _ _ _ (by simp <;> omega), World.cell?_alloc_at _ _ _ _ (by simp)]; rfl)
        have x3 : (W2.alloc (.cells #[.string x.id, .int .i64 x.prio, .bool x.crit, .int .i64 x.r0, .int .i64 x.r1, .int .i64 x.r2, .int .i64 x.l0, .int .i64 x.l1, .int .i64 x.l2, .string x.img, .int .i64 x.size] 24)).cell? ⟨W2.heap.size, 3, none⟩ = some (.int .i64 x.r0) := by first | (simp; done) | (rw [World.cell?_alloc_at _ _ _ _ (by simp)]; rfl) | (rw [World.cell?_alloc_past _ _ _ (by simp <;> omega), World.cell?_alloc_at _ _ _ _ (by simp)]; rfl) | (rw [World.cell?_alloc_past _ _ _ (by simp <;> omega), World.cell?_alloc_past _ _ _ (by simp <;> omega), World.cell?_alloc_at _ _ _ _ (by simp)]; rfl)
        have x4 : (W2.alloc (.cells #[.string x.id, .int .i64 x.prio, .bool x.crit, .int .i64 x.r0, .int .i64 x.r1, .int .i64 x.r2, .int .i64 x.l0, .int .i64 x.l1, .int .i64 x.l2, .string x.img, .int .i64 x.size] 24)).cell? ⟨W2.heap.size, 4, none⟩ = some (.int .i64 x.r1) := by first | (simp; done) | (rw [World.cell?_alloc_at _ _ _ _ (by simp)]; rfl) | (rw [World.cell?_alloc_past _ _ _ (by simp <;> omega), World.cell?_alloc_at _ _ _ _ (by simp)]; rfl) | (rw [World.cell?_alloc_past _ _ _ (by simp <;> omega), World.cell?_alloc_past _ _ _ (by simp <;> omega), World.cell?_alloc_at _ _ _ _ (by simp)]; rfl)
        have x5 : (W2.alloc (.cells #[.string x.id, .int .i64 x.prio, .bool x.crit, .int .i64 x.r0, .int .i64 x.r1, .int .i64 x.r2, .int .i64 x.l0, .int .i64 x.l1, .int .i64 x.l2, .string x.img, .int .i64 x.size] 24)).cell? ⟨W2.heap.size, 5, none⟩ = some (.int .i64 x.r2) := by first | (simp; done) | (rw [World.cell?_alloc_at _ _ _ _ (by simp)]; rfl) | (rw [World.cell?_alloc_past _ _ _ (by simp <;> omega), World.cell?_alloc_at _ _ _ _ (by simp)]; rfl) | (rw [World.cell?_alloc_past _ _ _ (by simp <;> omega), World.cell?_alloc_past _ _ _ (by simp <;> omega), World.cell?_alloc_at _ _ _ _ (by simp)]; rfl)
        have x6 : (W2.alloc (.cells #[.string x.id, .int .i64 x.prio, .bool x.crit, .int .i64 x.r0, .int .i64 x.r1, .int .i64 x.r2, .int .i64 x.l0, .int .i64 x.l1, .int .i64 x.l2, .string x.img, .int .i64 x.size] 24)).cell? ⟨W2.heap.size, 6, none⟩ = some (.int .i64 x.l0) := by first | (simp; done) | (rw [World.cell?_alloc_at _ _ _ _ (by simp)]; rfl) | (rw [World.cell?_alloc_past _ _ _ (by simp <;> omega), World.cell?_alloc_at _ _ _ _ (by simp)]; rfl) | (rw [World.cell?_alloc_past _ _ _ (by simp <;> omega), World.cell?_alloc_past _ _ _ (by simp <;> omega), World.cell?_alloc_at _ _ _ _ (by simp)]; rfl)
        have x7 : (W2.alloc (.cells #[.string x.id, .int .i64 x.prio, .bool x.crit, .int .i64 x.r0, .int .i64 x.r1, .int .i64 x.r2, .int .i64 x.l0, .int .i64 x.l1, .int .i64 x.l2, .string x.img, .int .i64 x.size] 24)).cell? ⟨W2.heap.size, 7, none⟩ = some (.int .i64 x.l1) := by first | (simp; done) | (rw [World.cell?_alloc_at _ _ _ _ (by simp)]; rfl) | (rw [World.cell?_alloc_past _ _ _ (by simp <;> omega), World.cell?_alloc_at _ _ _ _ (by simp)]; rfl) | (rw [World.cell?_alloc_past _ _ _ (by simp <;> omega), World.cell?_alloc_past _ _ _ (by simp <;> omega), World.cell?_alloc_at _ _ _ _ (by simp)]; rfl)
        have x8 : (W2.alloc (.cells #[.string x.id, .int .i64 x.prio, .bool x.crit, .int .i64 x.r0, .int .i64 x.r1, .int .i64 x.r2, .int .i64 x.l0, .int .i64 x.l1, .int .i64 x.l2, .string x.img, .int .i64 x.size] 24)).cell? ⟨W2.heap.size, 8, none⟩ = some (.int .i64 x.l2) := by first | (simp; done) | (rw [World.cell?_alloc_at _ _ _ _ (by simp)]; rfl) | (rw [World.cell?_alloc_past _ _ _ (by simp <;> omega), World.cell?_alloc_at _ _ _ _ (by simp)]; rfl) | (rw [World.cell?_alloc_past _ _ _ (by simp <;> omega), World.cell?_alloc_past _ _ _ (by simp <;> omega), World.cell?_alloc_at _ _ _ _ (by simp)]; rfl)
        have x9 : (W2.alloc (.cells #[.string x.id, .int .i64 x.prio, .bool x.crit, .int .i64 x.r0, .int .i64 x.r1, .int .i64 x.r2, .int .i64 x.l0, .int .i64 x.l1, .int .i64 x.l2, .string x.img, .int .i64 x.size] 24)).cell? ⟨W2.heap.size, 9, none⟩ = some (.string x.img) := by first | (simp; done) | (rw [World.cell?_alloc_at _ _ _ _ (by simp)]; rfl) | (rw [World.cell?_alloc_past _ _ _ (by simp <;> omega), World.cell?_alloc_at _ _ _ _ (by simp)]; rfl) | (rw [World.cell?_alloc_past _ _ _ (by simp <;> omega), World.cell?_alloc_past _ _ _ (by simp <;> omega), World.cell?_alloc_at _ _ _ _ (by simp)]; rfl)
        have x10 : (W2.alloc (.cells #[.string x.id, .int .i64 x.prio, .bool x.crit, .int .i64 x.r0, .int .i64 x.r1, .int .i64 x.r2, .int .i64 x.l0, .int .i64 x.l1, .int .i64 x.l2, .string x.img, .int .i64 x.size] 24)).cell? ⟨W2.heap.size, 10, none⟩ = some (.int .i64 x.size) := by first | (simp; done) | (rw [World.cell?_alloc_at _ _ _ _ (by simp)]; rfl) | (rw [World.cell?_alloc_past _ _ _ (by simp <;> omega), World.cell?_alloc_at _ _ _ _ (by simp)]; rfl) | (rw [World.cell?_alloc_past _ _ _ (by simp <;> omega), World.cell?_alloc_past _ _ _ (by simp <;> omega), World.cell?_alloc_at _ _ _ _ (by simp)]; rfl)
        have hb2 := (by repeat (first | exact hbel | refine belAlloc ?_ _ | refine belDrew ?_ | refine belSet ?_ _ _ (by simp)) : Below W2.heap.size W2 (W2.alloc (.cells #[.string x.id, .int .i64 x.prio, .bool x.crit, .int .i64 x.r0, .int .i64 x.r1, .int .i64 x.r2, .int .i64 x.l0, .int .i64 x.l1, .int .i64 x.l2, .string x.img, .int .i64 x.size] 24)))
        replace a0 := keepOnP a0 hb2
        replace a1 := keepOnP a1 hb2
        replace a2 := keepOnP a2 hb2
        replace a3 := keepOnP a3 hb2
        replace a4 := keepOnP a4 hb2
        replace a5 := keepOnP a5 hb2
        replace a6 := keepOnP a6 hb2
        replace a7 := keepOnP a7 hb2
        replace a8 := keepOnP a8 hb2
        replace a9 := keepOnP a9 hb2
        replace a10 := keepOnP a10 hb2
        replace c0 := keepOnP c0 hb2
        replace c1 := keepOnP c1 hb2
        replace c2 := keepOnP c2 hb2
        replace c3 := keepOnP c3 hb2
        replace c4 := keepOnP c4 hb2
        replace c5 := keepOnP c5 hb2
        replace c6 := keepOnP c6 hb2
        replace c7 := keepOnP c7 hb2
        replace c8 := keepOnP c8 hb2
        replace c9 := keepOnP c9 hb2
        replace c10 := keepOnP c10 hb2
        replace hw := belStep hw hb2
        clear hb2 hbel
        generalize W2.alloc (.cells #[.string x.id, .int .i64 x.prio, .bool x.crit, .int .i64 x.r0, .int .i64 x.r1, .int .i64 x.r2, .int .i64 x.l0, .int .i64 x.l1, .int .i64 x.l2, .string x.img, .int .i64 x.size] 24) = W3 at *
        replace x0 := keep x0
        replace x1 := keep x1
        replace x2 := keep x2
        replace x3 := keep x3
        replace x4 := keep x4
        replace x5 := keep x5
        replace x6 := keep x6
        replace x7 := keep x7
        replace x8 := keep x8
        replace x9 := keep x9
        replace x10 := keep x10
        have hbel : Below W3.heap.size W3 W3 := Below.refl _ _
        skip
        go_wp2_with (first | (go_at_call 27; (with_reducible refine (CM.out _).mono ?_); rintro e w1 ⟨rfl, hb1⟩; replace hbel := belStep hbel hb1; clear hb1; have HM := Lib.hid ((OwnR.later hM hbel).alloc (.cells #[.string x.id, .int .i64 x.prio, .bool x.crit, .int .i64 x.r0, .int .i64 x.r1, .int .i64 x.r2, .int .i64 x.l0, .int .i64 x.l1, .int .i64 x.l2, .string x.img, .int .i64 x.size] 24)); have HS := Lib.hid ((OwnR.later hS hbel).alloc (.cells #[.string x.id, .int .i64 x.prio, .bool x.crit, .int .i64 x.r0, .int .i64 x.r1, .int .i64 x.r2, .int .i64 x.l0, .int .i64 x.l1, .int .i64 x.l2, .string x.img, .int .i64 x.size] 24)); have HRX := Lib.hid (row_new w1 x.cells 24 1 11 rfl (by unfold maxLen; omega)); clear hM hS) | (at_builtin; refine wpList_app_sep rfl _ _ 51 rfl W1.heap.size 24 _ 11 104 Try.underlying51 info_pod rfl (by decide) _ _ _ rfl HM.out _ 1 1 x.cells rfl HRX.out (pod_one x) ?c1 ?c2 ?c3 ?_))
        case c1 => simp only [maxLen]; omega
        case c2 => omega
        case c3 => have h1 := hw.size; have h2 := hbel.size; simp; omega
        intro v' w2 ho' hb' hg' hmv'
        have HO2 := Lib.hid ho'
        have HG2 := Lib.hid hg'
        have HMV := Lib.hid hmv'
        have HB2 := Lib.hid ((belAlloc (belStep hw hbel) (.cells #[.string x.id, .int .i64 x.prio, .bool x.crit, .int .i64 x.r0, .int .i64 x.r1, .int .i64 x.r2, .int .i64 x.l0, .int .i64 x.l1, .int .i64 x.l2, .string x.img, .int .i64 x.size] 24)).trans hb')
        clear ho' hb' hg' hmv' hw hbel
        go_wp2
        go_roundw
        case rel => exact ⟨k + 1, by omega, by push_cast; rfl, by rw [HN1.out]; exact own_snoc HO2.out, by rw [HN2.out]; exact OwnR.sep HS.out HG2.out hsep, Moved.sep HMV.out HS.out hsep, HB2.out⟩
        case measure => simp [intOf] <;> omega
      · have HN1 := Lib.hid (filt_same hx hm)
        have HN2 := Lib.hid (filt_next (f := fun v => !mayB p v) hx (by rw [hm]; rfl))
        have CM := Lib.hid (fun v => hm ▸ vic_May p x v)
        clear hx hm
        replace hM := OwnR.alloc hM (.cells #[.string x.id, .int .i64 x.prio, .bool x.crit, .int .i64 x.r0, .int .i64 x.r1, .int .i64 x.r2, .int .i64 x.l0, .int .i64 x.l1, .int .i64 x.l2, .string x.img, .int .i64 x.size] 24)
        replace hS := OwnR.alloc hS (.cells #[.string x.id, .int .i64 x.prio, .bool x.crit, .int .i64 x.r0, .int .i64 x.r1, .int .i64 x.r2, .int .i64 x.l0, .int .i64 x.l1, .int .i64 x.l2, .string x.img, .int .i64 x.size] 24)
        go_upto_region 5 with fail
        have x0 : (W2.alloc (.cells #[.string x.id, .int .i64 x.prio, .bool x.crit, .int .i64 x.r0, .int .i64 x.r1, .int .i64 x.r2, .int .i64 x.l0, .int .i64 x.l1, .int .i64 x.l2, .string x.img, .int .i64 x.size] 24)).cell? ⟨W2.heap.size, 0, none⟩ = some (.string x.id) := by first | (simp; done) | (rw [World.cell?_alloc_at _ _ _ _ (by simp)]; rfl) | (rw [World.cell?_alloc_past _ _ _ (by simp <;> omega), World.cell?_alloc_at _ _ _ _ (by simp)]; rfl) | (rw [World.cell?_alloc_past _ _ _ (by simp <;> omega), World.cell?_alloc_past _ _ _ (by simp <;> omega), World.cell?_alloc_at _ _ _ _ (by simp)]; rfl)
        have x1 : (W2.alloc (.cells #[.string x.id, .int .i64 x.prio, .bool x.crit, .int .i64 x.r0, .int .i64 x.r1, .int .i64 x.r2, .int .i64 x.l0, .int .i64 x.l1, .int .i64 x.l2, .string x.img, .int .i64 x.size] 24)).cell? ⟨W2.heap.size, 1, none⟩ = some (.int .i64 x.prio) := by first | (simp; done) | (rw [World.cell?_alloc_at _ _ _ _ (by simp)]; rfl) | (rw [World.cell?_alloc_past _ _ _ (by simp <;> omega), World.cell?_alloc_at _ _ _ _ (by simp)]; rfl) | (rw [World.cell?_alloc_past _ _ _ (by simp <;> omega), World.cell?_alloc_past _ _ _ (by simp <;> omega), World.cell?_alloc_at _ _ _ _ (by simp)]; rfl)
        have x2 : (W2.alloc (.cells #[.string x.id, .int .i64 x.prio, .bool x.crit, .int .i64 x.r0, .int .i64 x.r1, .int .i64 x.r2, .int .i64 x.l0, .int .i64 x.l1, .int .i64 x.l2, .string x.img, .int .i64 x.size] 24)).cell? ⟨W2.heap.size, 2, none⟩ = some (.bool x.crit) := by first | (simp; done) | (rw [World.cell?_alloc_at _ _ _ _ (by simp)]; rfl) | (rw [World.cell?_alloc_past _ _ _ (by simp <;> omega), World.cell?_alloc_at _ _ _ _ (by simp)]; rfl) | (rw [World.cell?_alloc_past _ _ _ (by simp <;> omega), World.cell?_alloc_past _ _ _ (by simp <;> omega), World.cell?_alloc_at _ _ _ _ (by simp)]; rfl)
        have x3 : (W2.alloc (.cells #[.string x.id, .int .i64 x.prio, .bool x.crit, .int .i64 x.r0, .int .i64 x.r1, .int .i64 x.r2, .int .i64 x.l0, .int .i64 x.l1, .int .i64 x.l2, .string x.img, .int .i64 x.size] 24)).cell? ⟨W2.heap.size, 3, none⟩ = some (.int .i64 x.r0) := by first | (simp; done) | (rw [World.cell?_alloc_at _ _ _ _ (by simp)]; rfl) | (rw [World.cell?_alloc_past _ _ _ (by simp <;> omega), World.cell?_alloc_at _ _ _ _ (by simp)]; rfl) | (rw [World.cell?_alloc_past _ _ _ (by simp <;> omega), World.cell?_alloc_past _ _ _ (by simp <;> omega), World.cell?_alloc_at _ _ _ _ (by simp)]; rfl)
        have x4 : (W2.alloc (.cells #[.string x.id, .int .i64 x.prio, .bool x.crit, .int .i64 x.r0, .int .i64 x.r1, .int .i64 x.r2, .int .i64 x.l0, .int .i64 x.l1, .int .i64 x.l2, .string x.img, .int .i64 x.size] 24)).cell? ⟨W2.heap.size, 4, none⟩ = some (.int .i64 x.r1) := by first | (simp; done) | (rw [World.cell?_alloc_at _ _ _ _ (by simp)]; rfl) | (rw [World.cell?_alloc_past _ _ _ (by simp <;> omega), World.cell?_alloc_at _ _ _ _ (by simp)]; rfl) | (rw [World.cell?_alloc_past _ _ _ (by simp <;> omega), World.cell?_alloc_past _ _ _ (by simp <;> omega), World.cell?_alloc_at _ _ _ _ (by simp)]; rfl)
        have x5 : (W2.alloc (.cells #[.string x.id, .int .i64 x.prio, .bool x.crit, .int .i64 x.r0, .int .i64 x.r1, .int .i64 x.r2, .int .i64 x.l0, .int .i64 x.l1, .int .i64 x.l2, .string x.img, .int .i64 x.size] 24)).cell? ⟨W2.heap.size, 5, none⟩ = some (.int .i64 x.r2) := by first | (simp; done) | (rw [World.cell?_alloc_at _ _ _ _ (by simp)]; rfl) | (rw [World.cell?_alloc_past _ _ _ (by simp <;> omega), World.cell?_alloc_at _ _ _ _ (by simp)]; rfl) | (rw [World.cell?_alloc_past _ _ _ (by simp <;> omega), World.cell?_alloc_past _ _ _ (by simp <;> omega), World.cell?_alloc_at _ _ _ _ (by simp)]; rfl)
        have x6 : (W2.alloc (.cells #[.string x.id, .int .i64 x.prio, .bool x.crit, .int .i64 x.r0, .int .i64 x.r1, .int .i64 x.r2, .int .i64 x.l0, .int .i64 x.l1, .int .i64 x.l2, .string x.img, .int .i64 x.size] 24)).cell? ⟨W2.heap.size, 6, none⟩ = some (.int .i64 x.l0) := by first | (simp; done) | (rw [World.cell?_alloc_at _ _ _ _ (by simp)]; rfl) | (rw [World.cell?_alloc_past _ _ _ (by simp <;> omega), World.cell?_alloc_at _ _ _ _ (by simp)]; rfl) | (rw [World.cell?_alloc_past _ _ _ (by simp <;> omega), World.cell?_alloc_past _ _ _ (by simp <;> omega), World.cell?_alloc_at _ _ _ _ (by simp)]; rfl)
        have x7 : (W2.alloc (.cells #[.string x.id, .int .i64 x.prio, .bool x.crit, .int .i64 x.r0, .int .i64 x.r1, .int .i64 x.r2, .int .i64 x.l0, .int .i64 x.l1, .int .i64 x.l2, .string x.img, .int .i64 x.size] 24)).cell? ⟨W2.heap.size, 7, none⟩ = some (.int .i64 x.l1) := by first | (simp; done) | (rw [World.cell?_alloc_at _ _ _ _ (by simp)]; rfl) | (rw [World.cell?_alloc_past _ _ _ (by simp <;> omega), World.cell?_alloc_at _ _ _ _ (by simp)]; rfl) | (rw [World.cell?_alloc_past _ _ _ (by simp <;> omega), World.cell?_alloc_past _ _ _ (by simp <;> omega), World.cell?_alloc_at _ _ _ _ (by simp)]; rfl)
        have x8 : (W2.alloc (.cells #[.string x.id, .int .i64 x.prio, .bool x.crit, .int .i64 x.r0, .int .i64 x.r1, .int .i64 x.r2, .int .i64 x.l0, .int .i64 x.l1, .int .i64 x.l2, .string x.img, .int .i64 x.size] 24)).cell? ⟨W2.heap.size, 8, none⟩ = some (.int .i64 x.l2) := by first | (simp; done) | (rw [World.cell?_alloc_at _ _ _ _ (by simp)]; rfl) | (rw [World.cell?_alloc_past _ _ _ (by simp <;> omega), World.cell?_alloc_at _ _ _ _ (by simp)]; rfl) | (rw [World.cell?_alloc_past _ _ _ (by simp <;> omega), World.cell?_alloc_past _ _ _ (by simp <;> omega), World.cell?_alloc_at _ _ _ _ (by simp)]; rfl)
        have x9 : (W2.alloc (.cells #[.string x.id, .int .i64 x.prio, .bool x.crit, .int .i64 x.r0, .int .i64 x.r1, .int .i64 x.r2, .int .i64 x.l0, .int .i64 x.l1, .int .i64 x.l2, .string x.img, .int .i64 x.size] 24)).cell? ⟨W2.heap.size, 9, none⟩ = some (.string x.img) := by first | (simp; done) | (rw [World.cell?_alloc_at _ _ _ _ (by simp)]; rfl) | (rw [World.cell?_alloc_past _ _ _ (by simp <;> omega), World.cell?_alloc_at _ _ _ _ (by simp)]; rfl) | (rw [World.cell?_alloc_past _ _ _ (by simp <;> omega), World.cell?_alloc_past _ _ _ (by simp <;> omega), World.cell?_alloc_at _ _ _ _ (by simp)]; rfl)
        have x10 : (W2.alloc (.cells #[.string x.id, .int .i64 x.prio, .bool x.crit, .int .i64 x.r0, .int .i64 x.r1, .int .i64 x.r2, .int .i64 x.l0, .int .i64 x.l1, .int .i64 x.l2, .string x.img, .int .i64 x.size] 24)).cell? ⟨W2.heap.size, 10, none⟩ = some (.int .i64 x.size) := by first | (simp; done) | (rw [World.cell?_alloc_at _ _ _ _ (by simp)]; rfl) | (rw [World.cell?_alloc_past _ _ _ (by simp <;> omega), World.cell?_alloc_at _ _ _ _ (by simp)]; rfl) | (rw [World.cell?_alloc_past _ _ _ (by simp <;> omega), World.cell?_alloc_past _ _ _ (by simp <;> omega), World.cell?_alloc_at _ _ _ _ (by simp)]; rfl)
        have hb2 := (by repeat (first | exact hbel | refine belAlloc ?_ _ | refine belDrew ?_ | refine belSet ?_ _ _ (by simp)) : Below W2.heap.size W2 (W2.alloc (.cells #[.string x.id, .int .i64 x.prio, .bool x.crit, .int .i64 x.r0, .int .i64 x.r1, .int .i64 x.r2, .int .i64 x.l0, .int .i64 x.l1, .int .i64 x.l2, .string x.img, .int .i64 x.size] 24)))
        replace a0 := keepOnP a0 hb2
        replace a1 := keepOnP a1 hb2
        replace a2 := keepOnP a2 hb2
        replace a3 := keepOnP a3 hb2
        replace a4 := keepOnP a4 hb2
        replace a5 := keepOnP a5 hb2
        replace a6 := keepOnP a6 hb2
        replace a7 := keepOnP a7 hb2
        replace a8 := keepOnP a8 hb2
        replace a9 := keepOnP a9 hb2
        replace a10 := keepOnP a10 hb2
        replace c0 := keepOnP c0 hb2
        replace c1 := keepOnP c1 hb2
        replace c2 := keepOnP c2 hb2
        replace c3 := keepOnP c3 hb2
        replace c4 := keepOnP c4 hb2
        replace c5 := keepOnP c5 hb2
        replace c6 := keepOnP c6 hb2
        replace c7 := keepOnP c7 hb2
        replace c8 := keepOnP c8 hb2
        replace c9 := keepOnP c9 hb2
        replace c10 := keepOnP c10 hb2
        replace hw := belStep hw hb2
        clear hb2 hbel
        generalize W2.alloc (.cells #[.string x.id, .int .i64 x.prio, .bool x.crit, .int .i64 x.r0, .int .i64 x.r1, .int .i64 x.r2, .int .i64 x.l0, .int .i64 x.l1, .int .i64 x.l2, .string x.img, .int .i64 x.size] 24) = W3 at *
        replace x0 := keep x0
        replace x1 := keep x1
        replace x2 := keep x2
        replace x3 := keep x3
        replace x4 := keep x4
        replace x5 := keep x5
        replace x6 := keep x6
        replace x7 := keep x7
        replace x8 := keep x8
        replace x9 := keep x9
        replace x10 := keep x10
        have hbel : Below W3.heap.size W3 W3 := Below.refl _ _
        skip
        go_wp2_with (first | (go_at_call 27; (with_reducible refine (CM.out _).mono ?_); rintro e w1 ⟨rfl, hb1⟩; replace hbel := belStep hbel hb1; clear hb1; have HM := Lib.hid ((OwnR.later hM hbel).alloc (.cells #[.string x.id, .int .i64 x.prio, .bool x.crit, .int .i64 x.r0, .int .i64 x.r1, .int .i64 x.r2, .int .i64 x.l0, .int .i64 x.l1, .int .i64 x.l2, .string x.img, .int .i64 x.size] 24)); have HS := Lib.hid ((OwnR.later hS hbel).alloc (.cells #[.string x.id, .int .i64 x.prio, .bool x.crit, .int .i64 x.r0, .int .i64 x.r1, .int .i64 x.r2, .int .i64 x.l0, .int .i64 x.l1, .int .i64 x.l2, .string x.img, .int .i64 x.size] 24)); have HRX := Lib.hid (row_new w1 x.cells 24 1 11 rfl (by unfold maxLen; omega)); clear hM hS) | (at_builtin; refine wpList_app_sep rfl _ _ 51 rfl W1.heap.size 24 _ 11 104 Try.underlying51 info_pod rfl (by decide) _ _ _ rfl HS.out _ 1 1 x.cells rfl HRX.out (pod_one x) ?c1 ?c2 ?c3 ?_))
        case c1 => simp only [maxLen]; omega
        case c2 => omega
        case c3 => have h1 := hw.size; have h2 := hbel.size; simp; omega
        intro v' w2 ho' hb' hg' hmv'
        have HO2 := Lib.hid ho'
        have HG2 := Lib.hid hg'
        have HMV := Lib.hid hmv'
        have HB2 := Lib.hid ((belAlloc (belStep hw hbel) (.cells #[.string x.id, .int .i64 x.prio, .bool x.crit, .int .i64 x.r0, .int .i64 x.r1, .int .i64 x.r2, .int .i64 x.l0, .int .i64 x.l1, .int .i64 x.l2, .string x.img, .int .i64 x.size] 24)).trans hb')
        clear ho' hb' hg' hmv' hw hbel
        go_wp2
        go_roundw
        case rel => exact ⟨k + 1, by omega, by push_cast; rfl, by rw [HN1.out]; exact OwnR.sep HM.out HG2.out hsep.symm, by rw [HN2.out]; exact own_snoc HO2.out, (Moved.sep HMV.out HM.out hsep.symm).symm, HB2.out⟩
        case measure => simp [intOf] <;> omega
    · obtain rfl : k = L.length := by omega
      rw [List.take_length] at hM hS
      have hf1 : (mayF L p).length ≤ L.length := List.length_filter_le _ _
      have CS := Lib.hid (sort_may (L := mayF L p) (HDI.out.sub List.filter_sublist) (by omega) hM rfl)
      have HS := Lib.hid hS
      have HLT := Lib.hid (fun q hq => World.ownsRow.lt hM q hq)
      have HSP := Lib.hid hsep
      have HBR := Lib.hid hbr
      clear hM hS hsep hbel hbr
      go_wp2_with (go_at_call 28; (with_reducible refine CS.out.mono ?_); rintro e w2 ⟨rfl, hO2, hg2⟩)
      have hS2 := OwnR.sep HS.out hg2 HSP.out
      have hb2 : Below W1.heap.size wr w2 := (Below.refl _ _).grown hg2 HBR.out.size fun q hq => (HLT.out q hq).1
      go_ret2
      exact ⟨_, _, rfl, hO2.mono hsz1, hS2.mono hsz1, HSP.out, HW1.out.trans ((HBR.out.trans hb2).mono hsz1)⟩
end Go.Proofs.Ytbifmmdiekodjaa
