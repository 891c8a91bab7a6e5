/- VictimMinimal holds for every room, list of pods and pod. No conditions. -/
import Derived.Test.YtnnmganjlhojfaaVicMZ
import Derived.Test.YtnnmganjlhojfaaAppG
namespace Go.Proofs.Ytnnmganjlhojfaa.victimMinimal
open Go.ChangeShapes Go.WideShapes Go.ChangeAt Go.RowKit
open Go.ChangeMaps (open_string shut_string)
set_option linter.unusedVariables false
set_option linter.unusedSimpArgs false

set_option maxRecDepth 100000 in
set_option maxHeartbeats 16000000 in
theorem walk (R : Room) (a : Option Addr) (len cap : Nat) (L : List PodV) (p : PodV) (w : World) (hra : InI R.a) (hrb : InI R.b) (hrc : InI R.c) (hl : L.length = len) (hok : ∀ x ∈ L, x.ok) (hR : Row w a len cap 11 (L.flatMap PodV.cells)) (hp : p.ok) :
    Calls Try.prog 5 #[.agg #[.int .i64 R.a, .int .i64 R.b, .int .i64 R.c], .slice a len cap, p.v] w fun e w' => e = .returned (.bool true) ∧ Below w.heap.size w w' := by
  unfold PodV.v
  have hw : Below w.heap.size w w := Below.refl _ _
  have hbel := hw
  have HR := Lib.hid hR
  have HOK := Lib.hid hok
  have HPO := Lib.hid hp
  have hbd : len ≤ cap ∧ cap ≤ 9223372036854775807 := by obtain ⟨_, h1, h2, _⟩ := hR; unfold maxLen at h2; exact ⟨h1, h2⟩
  obtain ⟨hbd1, hbd2⟩ := hbd
  obtain ⟨c, hc⟩ : ∃ c, chooseF R L p = c := ⟨_, rfl⟩
  have CF := Lib.hid (fun v (hv : Below w.heap.size w v) => vref_Fit R p a len cap L v hl hok (HR.out.later hv) hp)
  have CX := Lib.hid (fun (hf : FitOK R L p) v (hv : Below w.heap.size w v) => choose_call R p c a len cap L v hl hok (HR.out.later hv) hf.dist (by have := hf.len; omega) hp hc)
  have HC := Lib.hid hc
  subst hl
  clear hra hrb hrc hok hR hp hc
  go_enter Try.func5, Try.ntmps5
  go_upto_region 1 with fail
  have rm0 : ((w.alloc (.cells #[.int .i64 R.a, .int .i64 R.b, .int .i64 R.c] 22)).alloc (.cells #[.string p.id, .int .i64 p.prio, .bool p.crit, .int .i64 p.r0, .int .i64 p.r1, .int .i64 p.r2, .int .i64 p.l0, .int .i64 p.l1, .int .i64 p.l2, .string p.img, .int .i64 p.size] 25)).cell? ⟨w.heap.size, 0, none⟩ = some (.int .i64 R.a) := by first | (simp; done) | (rw [World.cell?_alloc_at _ _ _ _ (by simp)]; rfl) | (rw [World.cell?_alloc_past _ _ _ (by simp <;> omega), World.cell?_alloc_at _ _ _ _ (by simp)]; rfl) | (rw [World.cell?_alloc_past _ _ _ (by simp <;> omega), World.cell?_alloc_past _ _ _ (by simp <;> omega), World.cell?_alloc_at _ _ _ _ (by simp)]; rfl)
  have rm1 : ((w.alloc (.cells #[.int .i64 R.a, .int .i64 R.b, .int .i64 R.c] 22)).alloc (.cells #[.string p.id, .int .i64 p.prio, .bool p.crit, .int .i64 p.r0, .int .i64 p.r1, .int .i64 p.r2, .int .i64 p.l0, .int .i64 p.l1, .int .i64 p.l2, .string p.img, .int .i64 p.size] 25)).cell? ⟨w.heap.size, 1, none⟩ = some (.int .i64 R.b) := by first | (simp; done) | (rw [World.cell?_alloc_at _ _ _ _ (by simp)]; rfl) | (rw [World.cell?_alloc_past _ _ _ (by simp <;> omega), World.cell?_alloc_at _ _ _ _ (by simp)]; rfl) | (rw [World.cell?_alloc_past _ _ _ (by simp <;> omega), World.cell?_alloc_past _ _ _ (by simp <;> omega), World.cell?_alloc_at _ _ _ _ (by simp)]; rfl)
  have rm2 : ((w.alloc (.cells #[.int .i64 R.a, .int .i64 R.b, .int .i64 R.c] 22)).alloc (.cells #[.string p.id, .int .i64 p.prio, .bool p.crit, .int .i64 p.r0, .int .i64 p.r1, .int .i64 p.r2, .int .i64 p.l0, .int .i64 p.l1, .int .i64 p.l2, .string p.img, .int .i64 p.size] 25)).cell? ⟨w.heap.size, 2, none⟩ = some (.int .i64 R.c) := by first | (simp; done) | (rw [World.cell?_alloc_at _ _ _ _ (by simp)]; rfl) | (rw [World.cell?_alloc_past _ _ _ (by simp <;> omega), World.cell?_alloc_at _ _ _ _ (by simp)]; rfl) | (rw [World.cell?_alloc_past _ _ _ (by simp <;> omega), World.cell?_alloc_past _ _ _ (by simp <;> omega), World.cell?_alloc_at _ _ _ _ (by simp)]; rfl)
  have pp0 : ((w.alloc (.cells #[.int .i64 R.a, .int .i64 R.b, .int .i64 R.c] 22)).alloc (.cells #[.string p.id, .int .i64 p.prio, .bool p.crit, .int .i64 p.r0, .int .i64 p.r1, .int .i64 p.r2, .int .i64 p.l0, .int .i64 p.l1, .int .i64 p.l2, .string p.img, .int .i64 p.size] 25)).cell? ⟨w.heap.size + 1, 0, none⟩ = some (.string p.id) := by first | (simp; done) | (rw [World.cell?_alloc_at _ _ _ _ (by simp)]; rfl) | (rw [World.cell?_alloc_past _ _ _ (by simp <;> omega), World.cell?_alloc_at _ _ _ _ (by simp)]; rfl) | (rw [World.cell?_alloc_past _ _ _ (by simp <;> omega), World.cell?_alloc_past _ _ _ (by simp <;> omega), World.cell?_alloc_at _ _ _ _ (by simp)]; rfl)
  have pp1 : ((w.alloc (.cells #[.int .i64 R.a, .int .i64 R.b, .int .i64 R.c] 22)).alloc (.cells #[.string p.id, .int .i64 p.prio, .bool p.crit, .int .i64 p.r0, .int .i64 p.r1, .int .i64 p.r2, .int .i64 p.l0, .int .i64 p.l1, .int .i64 p.l2, .string p.img, .int .i64 p.size] 25)).cell? ⟨w.heap.size + 1, 1, none⟩ = some (.int .i64 p.prio) := by first | (simp; done) | (rw [World.cell?_alloc_at _ _ _ _ (by simp)]; rfl) | (rw [World.cell?_alloc_past _ _ _ (by simp <;> omega), World.cell?_alloc_at _ _ _ _ (by simp)]; rfl) | (rw [World.cell?_alloc_past _ _ _ (by simp <;> omega), World.cell?_alloc_past _ _ _ (by simp <;> omega), World.cell?_alloc_at _ _ _ _ (by simp)]; rfl)
  have pp2 : ((w.alloc (.cells #[.int .i64 R.a, .int .i64 R.b, .int .i64 R.c] 22)).alloc (.cells #[.string p.id, .int .i64 p.prio, .bool p.crit, .int .i64 p.r0, .int .i64 p.r1, .int .i64 p.r2, .int .i64 p.l0, .int .i64 p.l1, .int .i64 p.l2, .string p.img, .int .i64 p.size] 25)).cell? ⟨w.heap.size + 1, 2, none⟩ = some (.bool p.crit) := by first | (simp; done) | (rw [World.cell?_alloc_at _ _ _ _ (by simp)]; rfl) | (rw [World.cell?_alloc_past _ _ _ (by simp <;> omega), World.cell?_alloc_at _ _ _ _ (by simp)]; rfl) | (rw [World.cell?_alloc_past _ _ _ (by simp <;> omega), World.cell?_alloc_past _ _ _ (by simp <;> omega), World.cell?_alloc_at _ _ _ _ (by simp)]; rfl)
  have pp3 : ((w.alloc (.cells #[.int .i64 R.a, .int .i64 R.b, .int .i64 R.c] 22)).alloc (.cells #[.string p.id, .int .i64 p.prio, .bool p.crit, .int .i64 p.r0, .int .i64 p.r1, .int .i64 p.r2, .int .i64 p.l0, .int .i64 p.l1, .int .i64 p.l2, .string p.img, .int .i64 p.size] 25)).cell? ⟨w.heap.size + 1, 3, none⟩ = some (.int .i64 p.r0) := by first | (simp; done) | (rw [World.cell?_alloc_at _ _ _ _ (by simp)]; rfl) | (rw [World.cell?_alloc_past _ _ _ (by simp <;> omega), World.cell?_alloc_at _ _ _ _ (by simp)]; rfl) | (rw [World.cell?_alloc_past _ _ _ (by simp <;> omega), World.cell?_alloc_past _ _ _ (by simp <;> omega), World.cell?_alloc_at _ _ _ _ (by simp)]; rfl)
  have pp4 : ((w.alloc (.cells #[.int .i64 R.a, .int .i64 R.b, .int .i64 R.c] 22)).alloc (.cells #[.string p.id, .int .i64 p.prio, .bool p.crit, .int .i64 p.r0, .int .i64 p.r1, .int .i64 p.r2, .int .i64 p.l0, .int .i64 p.l1, .int .i64 p.l2, .string p.img, .int .i64 p.size] 25)).cell? ⟨w.heap.size + 1, 4, none⟩ = some (.int .i64 p.r1) := by first | (simp; done) | (rw [World.cell?_alloc_at _ _ _ _ (by simp)]; rfl) | (rw [World.cell?_alloc_past _ _ _ (by simp <;> omega), World.cell?_alloc_at _ _ _ _ (by simp)]; rfl) | (rw [World.cell?_alloc_past _ _ _ (by simp <;> omega), World.cell?_alloc_past _ _ _ (by simp <;> omega), World.cell?_alloc_at _ _ _ _ (by simp)]; rfl)
  have pp5 : ((w.alloc (.cells #[.int .i64 R.a, .int .i64 R.b, .int .i64 R.c] 22)).alloc (.cells #[.string p.id, .int .i64 p.prio, .bool p.crit, .int .i64 p.r0, .int .i64 p.r1, .int .i64 p.r2, .int .i64 p.l0, .int .i64 p.l1, .int .i64 p.l2, .string p.img, .int .i64 p.size] 25)).cell? ⟨w.heap.size + 1, 5, none⟩ = some (.int .i64 p.r2) := by first | (simp; done) | (rw [World.cell?_alloc_at _ _ _ _ (by simp)]; rfl) | (rw [World.cell?_alloc_past _ _ _ (by simp <;> omega), World.cell?_alloc_at _ _ _ _ (by simp)]; rfl) | (rw [World.cell?_alloc_past _ _ _ (by simp <;> omega), World.cell?_alloc_past _ _ _ (by simp <;> omega), World.cell?_alloc_at _ _ _ _ (by simp)]; rfl)
  have pp6 : ((w.alloc (.cells #[.int .i64 R.a, .int .i64 R.b, .int .i64 R.c] 22)).alloc (.cells #[.string p.id, .int .i64 p.prio, .bool p.crit, .int .i64 p.r0, .int .i64 p.r1, .int .i64 p.r2, .int .i64 p.l0, .int .i64 p.l1, .int .i64 p.l2, .string p.img, .int .i64 p.size] 25)).cell? ⟨w.heap.size + 1, 6, none⟩ = some (.int .i64 p.l0) := by first | (simp; done) | (rw [World.cell?_alloc_at _ _ _ _ (by simp)]; rfl) | (rw [World.cell?_alloc_past _ _ _ (by simp <;> omega), World.cell?_alloc_at _ _ _ _ (by simp)]; rfl) | (rw [World.cell?_alloc_past _ _ _ (by simp <;> omega), World.cell?_alloc_past _ _ _ (by simp <;> omega), World.cell?_alloc_at _ _ _ _ (by simp)]; rfl)
  have pp7 : ((w.alloc (.cells #[.int .i64 R.a, .int .i64 R.b, .int .i64 R.c] 22)).alloc (.cells #[.string p.id, .int .i64 p.prio, .bool p.crit, .int .i64 p.r0, .int .i64 p.r1, .int .i64 p.r2, .int .i64 p.l0, .int .i64 p.l1, .int .i64 p.l2, .string p.img, .int .i64 p.size] 25)).cell? ⟨w.heap.size + 1, 7, none⟩ = some (.int .i64 p.l1) := by first | (simp; done) | (rw [World.cell?_alloc_at _ _ _ _ (by simp)]; rfl) | (rw [World.cell?_alloc_past _ _ _ (by simp <;> omega), World.cell?_alloc_at _ _ _ _ (by simp)]; rfl) | (rw [World.cell?_alloc_past _ _ _ (by simp <;> omega), World.cell?_alloc_past _ _ _ (by simp <;> omega), World.cell?_alloc_at _ _ _ _ (by simp)]; rfl)
  have pp8 : ((w.alloc (.cells #[.int .i64 R.a, .int .i64 R.b, .int .i64 R.c] 22)).alloc (.cells #[.string p.id, .int .i64 p.prio, .bool p.crit, .int .i64 p.r0, .int .i64 p.r1, .int .i64 p.r2, .int .i64 p.l0, .int .i64 p.l1, .int .i64 p.l2, .string p.img, .int .i64 p.size] 25)).cell? ⟨w.heap.size + 1, 8, none⟩ = some (.int .i64 p.l2) := by first | (simp; done) | (rw [World.cell?_alloc_at _ _ _ _ (by simp)]; rfl) | (rw [World.cell?_alloc_past _ _ _ (by simp <;> omega), World.cell?_alloc_at _ _ _ _ (by simp)]; rfl) | (rw [World.cell?_alloc_past _ _ _ (by simp <;> omega), World.cell?_alloc_past _ _ _ (by simp <;> omega), World.cell?_alloc_at _ _ _ _ (by simp)]; rfl)
  have pp9 : ((w.alloc (.cells #[.int .i64 R.a, .int .i64 R.b, .int .i64 R.c] 22)).alloc (.cells #[.string p.id, .int .i64 p.prio, .bool p.crit, .int .i64 p.r0, .int .i64 p.r1, .int .i64 p.r2, .int .i64 p.l0, .int .i64 p.l1, .int .i64 p.l2, .string p.img, .int .i64 p.size] 25)).cell? ⟨w.heap.size + 1, 9, none⟩ = some (.string p.img) := by first | (simp; done) | (rw [World.cell?_alloc_at _ _ _ _ (by simp)]; rfl) | (rw [World.cell?_alloc_past _ _ _ (by simp <;> omega), World.cell?_alloc_at _ _ _ _ (by simp)]; rfl) | (rw [World.cell?_alloc_past _ _ _ (by simp <;> omega), World.cell?_alloc_past _ _ _ (by simp <;> omega), World.cell?_alloc_at _ _ _ _ (by simp)]; rfl)
  have pp10 : ((w.alloc (.cells #[.int .i64 R.a, .int .i64 R.b, .int .i64 R.c] 22)).alloc (.cells #[.string p.id, .int .i64 p.prio, .bool p.crit, .int .i64 p.r0, .int .i64 p.r1, .int .i64 p.r2, .int .i64 p.l0, .int .i64 p.l1, .int .i64 p.l2, .string p.img, .int .i64 p.size] 25)).cell? ⟨w.heap.size + 1, 10, none⟩ = some (.int .i64 p.size) := by first | (simp; done) | (rw [World.cell?_alloc_at _ _ _ _ (by simp)]; rfl) | (rw [World.cell?_alloc_past _ _ _ (by simp <;> omega), World.cell?_alloc_at _ _ _ _ (by simp)]; rfl) | (rw [World.cell?_alloc_past _ _ _ (by simp <;> omega), World.cell?_alloc_past _ _ _ (by simp <;> omega), World.cell?_alloc_at _ _ _ _ (by simp)]; rfl)
  have hb2 := (by repeat (first | exact hbel | refine belAlloc ?_ _ | refine belDrew ?_ | refine belSet ?_ _ _ (by simp)) : Below w.heap.size w ((w.alloc (.cells #[.int .i64 R.a, .int .i64 R.b, .int .i64 R.c] 22)).alloc (.cells #[.string p.id, .int .i64 p.prio, .bool p.crit, .int .i64 p.r0, .int .i64 p.r1, .int .i64 p.r2, .int .i64 p.l0, .int .i64 p.l1, .int .i64 p.l2, .string p.img, .int .i64 p.size] 25)))
  replace hw := belStep hw hb2
  clear hb2 hbel
  generalize (w.alloc (.cells #[.int .i64 R.a, .int .i64 R.b, .int .i64 R.c] 22)).alloc (.cells #[.string p.id, .int .i64 p.prio, .bool p.crit, .int .i64 p.r0, .int .i64 p.r1, .int .i64 p.r2, .int .i64 p.l0, .int .i64 p.l1, .int .i64 p.l2, .string p.img, .int .i64 p.size] 25) = W1 at *
  replace rm0 := keep rm0
  replace rm1 := keep rm1
  replace rm2 := keep rm2
  replace pp0 := keep pp0
  replace pp1 := keep pp1
  replace pp2 := keep pp2
  replace pp3 := keep pp3
  replace pp4 := keep pp4
  replace pp5 := keep pp5
  replace pp6 := keep pp6
  replace pp7 := keep pp7
  replace pp8 := keep pp8
  replace pp9 := keep pp9
  replace pp10 := keep pp10
  have hbel : Below W1.heap.size W1 W1 := Below.refl _ _
  skip
  go_upto_region 3 with (first | (go_at_call 12; (with_reducible refine (awake21 _).mono ?_); rintro e w1 ⟨rfl, hb1⟩; replace hbel := belStep hbel hb1; clear hb1) | (go_at_call 13; (with_reducible refine (CF.out _ (belStep hw hbel)).mono ?_); rintro e w3 ⟨⟨b, rfl, hfit⟩, hb3⟩; replace hbel := belStep hbel hb3; clear hb3; have HF := Lib.hid hfit; clear hfit; rcases b with _ | _))
  · go_ret
    exact ⟨rfl, belStep hw hbel⟩
  replace HF := Lib.hid (HF.out (by trivial))
  go_upto_region 4 with (go_at_call 16; (with_reducible refine (CX.out HF.out _ (belStep hw hbel)).mono ?_); rintro e w4 ⟨⟨bx, nx, rfl, hrx⟩, hb4⟩; replace hbel := belStep hbel hb4; clear hb4)
  have HX := Lib.hid hrx
  clear hrx CX CF
  rcases c with _ | G
  · simp only [Option.getD_none, List.length_nil, Option.isSome_none]
    go_wp2
    go_ret
    exact ⟨rfl, belStep hw hbel⟩
  · simp only [Option.getD_some, Option.isSome_some] at HX ⊢
    have HM := Lib.hid (min_ok HF.out HC.out)
    have hgl : G.length ≤ L.length + 1 := by have := HM.out.len; omega
    have hlen : L.length ≤ 64 := HF.out.len
    go_upto_region 6 with fail
    replace rm0 := keepOnP rm0 hbel
    replace rm1 := keepOnP rm1 hbel
    replace rm2 := keepOnP rm2 hbel
    replace pp0 := keepOnP pp0 hbel
    replace pp1 := keepOnP pp1 hbel
    replace pp2 := keepOnP pp2 hbel
    replace pp3 := keepOnP pp3 hbel
    replace pp4 := keepOnP pp4 hbel
    replace pp5 := keepOnP pp5 hbel
    replace pp6 := keepOnP pp6 hbel
    replace pp7 := keepOnP pp7 hbel
    replace pp8 := keepOnP pp8 hbel
    replace pp9 := keepOnP pp9 hbel
    replace pp10 := keepOnP pp10 hbel
    replace hw := belStep hw hbel
    clear hbel
    generalize w4 = W2 at *
    have hbel : Below W2.heap.size W2 W2 := Below.refl _ _
    have hz2 := hw.size
    have HRL := Lib.hid (fun u (hu : Below W2.heap.size W2 u) => HR.out.later (belStep hw hu))
    have HXX := Lib.hid (fun u (hu : Below W2.heap.size W2 u) => HX.out.later hu)
    have hbx : G.length ≤ nx ∧ nx ≤ 9223372036854775807 := by obtain ⟨_, h1, h2, _⟩ := HX.out; unfold maxLen at h2; exact ⟨h1, h2⟩
    obtain ⟨hbx1, hbx2⟩ := hbx
    have CWO := Lib.hid (fun u (hu : Below W2.heap.size W2 u) => vref_Without a L.length cap L bx G.length nx G u rfl rfl (HRL.out u hu) (HXX.out u hu) (by omega))
    obtain ⟨KQ, hK⟩ : ∃ KQ, L.filter (fun x => !hasB G x.id) = KQ := ⟨_, rfl⟩
    have hKL : KQ.length ≤ L.length := by rw [← hK]; exact List.length_filter_le _ _
    have HKK := Lib.hid (show keptF L G p = KQ ++ [p] by unfold keptF; rw [hK])
    have HOKK := Lib.hid (show ∀ x ∈ KQ, x.ok from fun x hx => HOK.out x (by rw [← hK] at hx; exact (List.mem_filter.1 hx).1))
    rw [hK] at CWO
    clear hK
    refine wp_region_held_drew (S := fun u => Below W2.heap.size W2 u) (by kernel_rfl) (by exact (show Below W2.heap.size W2 _ by repeat (first | assumption | exact Below.refl _ _ | refine belDrew ?_ | refine belAlloc ?_ _ | refine belStep ?_ (by assumption)))) (fun hHeld => ?_)
    refine wpAnyH_take (i := 0) (oi := ?oi_k36) (v := ?v_k36) ?hi_k36 (by kernel_rfl) ?hf_k36 ?hr_k36 ?hQ_k36 (Or.inl ⟨?hw_k36, ?hy_k36⟩) (by assumption) ?rest_k36
    case hi_k36 => ((simp only [List.getElem?_toArray, List.getElem?_cons_succ, List.getElem?_cons_zero]); rfl)
    case hf_k36 => kernel_rfl
    case hr_k36 => kernel_rfl
    case hQ_k36 => exact fun _ _ _ h => h
    case hw_k36 => rfl
    case hy_k36 => ((intro w hSw; (try dsimp only at hSw); go_simp); all_goals (with_reducible rfl))
    try simp only [Act.put, List.setIfInBounds_toArray, List.set_cons_zero, List.set_cons_succ]
    refine wpAnyH_take (i := 1) (oi := ?oi_k37) (v := ?v_k37) ?hi_k37 (by kernel_rfl) ?hf_k37 ?hr_k37 ?hQ_k37 (Or.inl ⟨?hw_k37, ?hy_k37⟩) (by assumption) ?rest_k37
    case hi_k37 => ((simp only [List.getElem?_toArray, List.getElem?_cons_succ, List.getElem?_cons_zero]); rfl)
    case hf_k37 => kernel_rfl
    case hr_k37 => kernel_rfl
    case hQ_k37 => exact fun _ _ _ h => h
    case hw_k37 => rfl
    case hy_k37 => ((intro w hSw; (try dsimp only at hSw); go_simp); all_goals (with_reducible rfl))
    try simp only [Act.put, List.setIfInBounds_toArray, List.set_cons_zero, List.set_cons_succ]
    refine wpAnyH_take (i := 3) (oi := ?oi_k38) (v := ?v_k38) ?hi_k38 (by kernel_rfl) ?hf_k38 ?hr_k38 ?hQ_k38 (Or.inl ⟨?hw_k38, ?hy_k38⟩) (by assumption) ?rest_k38
    case hi_k38 => ((simp only [List.getElem?_toArray, List.getElem?_cons_succ, List.getElem?_cons_zero]); rfl)
    case hf_k38 => kernel_rfl
    case hr_k38 => kernel_rfl
    case hQ_k38 => exact fun _ _ _ h => h
    case hw_k38 => rfl
    case hy_k38 => ((intro w hSw; (try dsimp only at hSw); go_simp); all_goals (with_reducible rfl))
    try simp only [Act.put, List.setIfInBounds_toArray, List.set_cons_zero, List.set_cons_succ]
    refine krip (fun u u' => Below u.heap.size u u') [37, 39] [[], [], [], [], [], [2, 4], [2, 4]] [[], [], [37], [], [39], [], []] [2, 4] (krF [(2, fun t u => OwnR u (W2.heap.size) 25 11 (t 37) (KQ.length) (KQ.flatMap PodV.cells)), (4, fun t u => ∃ g : Nat, t 39 = .slice (some ⟨g, 0, none⟩) 1 1 ∧ Row u (some ⟨g, 0, none⟩) 1 1 11 (p.cells))]) 2 #[true, true, true, true, true, false, false] (by kernel_rfl) (by kernel_rfl) (by kernel_rfl) (by assumption) (AllL.cons ?s_2_q39 (AllL.cons ?s_4_q39 AllL.nil)) (AllL.cons ?o_2_q39 (AllL.cons ?o_4_q39 AllL.nil)) ?e_q39
    case s_2_q39 => exact fun t u u' hle h => OwnR.later h hle
    case s_4_q39 => exact fun t u u' hle ⟨g, e, h⟩ => ⟨g, e, Row.later h hle⟩
    case o_2_q39 =>
      refine KrOp.of (o := ?oo_2_q39) ?hi_2_q39 (fun t u hHeld hF K hK => ?rr_2_q39)
      case hi_2_q39 => ((simp only [List.getElem?_toArray, List.getElem?_cons_succ, List.getElem?_cons_zero]); rfl)
      case rr_2_q39 =>
        clear hF
        simp only [setl, List.foldl_cons, List.foldl_nil, Act.put, List.setIfInBounds_toArray, List.set_cons_zero, List.set_cons_succ] at hK ⊢
        go_simp
        (go_at_call 22; (with_reducible refine (CWO.out _ hHeld).mono ?_); rintro e wq ⟨vq, rfl, hoq, hbq⟩)
        try go_simp
        refine hK.out _ _ (by exact (by repeat (first | assumption | exact Below.refl _ _ | refine belDrew ?_ | refine belAlloc ?_ _ | refine belStep ?_ (by assumption)))) (by exact (show Below W2.heap.size W2 _ by repeat (first | assumption | exact Below.refl _ _ | refine belDrew ?_ | refine belAlloc ?_ _ | refine belStep ?_ (by assumption)))) ?_
        exact OwnR.mono hoq (Below.size hHeld)
    case o_4_q39 =>
      refine KrOp.of (o := ?oo_4_q39) ?hi_4_q39 (fun t u hHeld hF K hK => ?rr_4_q39)
      case hi_4_q39 => ((simp only [List.getElem?_toArray, List.getElem?_cons_succ, List.getElem?_cons_zero]); rfl)
      case rr_4_q39 =>
        clear hF
        simp only [setl, List.foldl_cons, List.foldl_nil, Act.put, List.setIfInBounds_toArray, List.set_cons_zero, List.set_cons_succ] at hK ⊢
        go_simp
        refine hK.out _ _ (by exact (by repeat (first | assumption | exact Below.refl _ _ | refine belDrew ?_ | refine belAlloc ?_ _ | refine belStep ?_ (by assumption)))) (by exact (show Below W2.heap.size W2 _ by repeat (first | assumption | exact Below.refl _ _ | refine belDrew ?_ | refine belAlloc ?_ _ | refine belStep ?_ (by assumption)))) ?_
        exact ⟨_, rfl, row_new _ (p.cells) 25 1 11 rfl (by unfold maxLen; omega)⟩
    case e_q39 =>
      intro t u hHeld hF
      have h2 : OwnR u (W2.heap.size) 25 11 (t 37) (KQ.length) (KQ.flatMap PodV.cells) := hF 2 rfl
      have h4 : ∃ g : Nat, t 39 = .slice (some ⟨g, 0, none⟩) 1 1 ∧ Row u (some ⟨g, 0, none⟩) 1 1 11 (p.cells) := hF 4 rfl
      clear hF
      simp only [setl, List.foldl_cons, List.foldl_nil, Act.put, List.setIfInBounds_toArray, List.set_cons_zero, List.set_cons_succ]
      generalize t 37 = x37 at *
      generalize t 39 = x39 at *
      obtain ⟨g4, rfl, hr4⟩ := h4
      refine wpAnyH_ready (rs := [5]) (by kernel_rfl) (by simp) ?_
      refine AllReadyH.cons (o := ?o1_ta1) ?hi_ta1 (fun K hK => ?rest_ta1) AllReadyH.nil
      case hi_ta1 => ((simp only [List.getElem?_toArray, List.getElem?_cons_succ, List.getElem?_cons_zero]); rfl)
      refine op_appR rfl _ _ 23 rfl (W2.heap.size) 25 _ 11 104 Try.underlying23 info_pod rfl (by decide) _ (KQ.length) _ (by rfl) h2 _ 1 1 (p.cells) (by rfl) hr4 (pod_one _) (by have := hKL; unfold maxLen; omega) (by have := hKL; omega) (Below.size hHeld) ?_
      intro v5 u5 ho5 hb5
      have hu5 : Below W2.heap.size W2 u5 := hHeld.trans hb5
      refine hK.out _ _ (by exact hu5) (fun hHeld => ?_)
      clear hK K hb5
      try simp only [Act.put, List.setIfInBounds_toArray, List.set_cons_zero, List.set_cons_succ]
      refine wpAnyH_take (i := 6) (oi := ?oi_k2) (v := ?v_k2) ?hi_k2 (by kernel_rfl) ?hf_k2 ?hr_k2 ?hQ_k2 (Or.inl ⟨?hw_k2, ?hy_k2⟩) (by assumption) ?rest_k2
      case hi_k2 => ((simp only [List.getElem?_toArray, List.getElem?_cons_succ, List.getElem?_cons_zero]); rfl)
      case hf_k2 => kernel_rfl
      case hr_k2 => kernel_rfl
      case hQ_k2 => exact fun _ _ _ h => h
      case hw_k2 => rfl
      case hy_k2 => ((intro w hSw; (try dsimp only at hSw); go_simp); all_goals (with_reducible rfl))
      try simp only [Act.put, List.setIfInBounds_toArray, List.set_cons_zero, List.set_cons_succ]
      refine wpAnyH_done (by kernel_rfl) ?_ _
      clear hHeld h2 hr4
      have HS := Lib.hid (own_snoc ho5)
      clear ho5
      obtain ⟨SL, hSL⟩ : ∃ s, KQ ++ [p] = s := ⟨_, rfl⟩
      rw [hSL] at HS HKK
      have HOKS := Lib.hid (show ∀ x ∈ SL, x.ok from by rw [← hSL]; exact ok_snoc HOKK.out HPO.out)
      have hSLl : SL.length + G.length = L.length + 1 := by have := HM.out.len; rw [HKK.out] at this; exact this
      have HFS := Lib.hid (show fitsB R SL = true from HKK.out ▸ HM.out.fits)
      have HMAY := Lib.hid (show ∀ (k : Nat) s, G[k]? = some s → ∀ y ∈ L, (y.id.toList == s.toList) = true → (p.crit = true ∧ y.crit = false ∧ y.prio < p.prio) ∧ fitsB R (SL ++ [y]) = false from fun k s h y hy he => HKK.out ▸ HM.out.may k s h y hy he)
      clear hSL hKL HKK
      have hbel : Below W2.heap.size W2 u5 := hu5
      clear hu5
      obtain ⟨ad5, cap5, e5, hr5⟩ := rowR_of_own HS.out
      clear HS
      subst e5
      have hb5 : SL.length ≤ cap5 ∧ cap5 ≤ 9223372036854775807 := by obtain ⟨_, h1, h2, _⟩ := hr5; unfold maxLen at h2; exact ⟨h1, h2⟩
      obtain ⟨hb51, hb52⟩ := hb5
      have CFT := Lib.hid (show Calls Try.prog 18 #[.agg #[.int .i64 R.a, .int .i64 R.b, .int .i64 R.c], .slice ad5 SL.length cap5] u5 fun e w' => e = .returned (.bool true) ∧ Below u5.heap.size u5 w' from by have h := vic_Fits R ad5 SL.length cap5 SL u5 rfl HOKS.out hr5; rw [show fitsB R SL = true from HFS.out] at h; exact h)
      have HS5 := Lib.hid hr5
      clear hr5
      have hq1 : ((SL.length : Int) != (L.length : Int) + 1 - (G.length : Int)) = false := by simp; omega
      have hq2 : ((SL.length : Int) == (L.length : Int) + 1 - (G.length : Int)) = true := by simp; omega
      have hq3 : (SL.length : Int) = (L.length : Int) + 1 - (G.length : Int) := by omega
      go_upto_region 9 with (go_at_call 18; (with_reducible refine CFT.out.mono ?_); rintro e w7 ⟨rfl, hb7⟩)
      clear hq1 hq2 hq3
      replace hbel := belStep hbel hb7
      have HS7 := Lib.hid (HS5.out.later hb7)
      clear HS5 hb7 CFT CWO
      have HB23 := Lib.hid hbel
      replace rm0 := keepOnP rm0 hbel
      replace rm1 := keepOnP rm1 hbel
      replace rm2 := keepOnP rm2 hbel
      replace pp0 := keepOnP pp0 hbel
      replace pp1 := keepOnP pp1 hbel
      replace pp2 := keepOnP pp2 hbel
      replace pp3 := keepOnP pp3 hbel
      replace pp4 := keepOnP pp4 hbel
      replace pp5 := keepOnP pp5 hbel
      replace pp6 := keepOnP pp6 hbel
      replace pp7 := keepOnP pp7 hbel
      replace pp8 := keepOnP pp8 hbel
      replace pp9 := keepOnP pp9 hbel
      replace pp10 := keepOnP pp10 hbel
      replace hw := belStep hw hbel
      clear hbel
      generalize w7 = W3 at *
      have hbel : Below W3.heap.size W3 W3 := Below.refl _ _
      have HSS := Lib.hid (fun u (hu : Below W3.heap.size W3 u) => HS7.out.later hu)
      replace HRL := Lib.hid (fun u (hu : Below W3.heap.size W3 u) => HR.out.later (belStep hw hu))
      replace HXX := Lib.hid (fun u (hu : Below W3.heap.size W3 u) => HXX.out u (belStep HB23.out hu))
      clear HS7 HX
      go_wp2
      clear hbel
      go_loopw [10] (fun i wr => ∃ k : Nat, k ≤ G.length ∧ i = .int .i64 k ∧ Below W3.heap.size W3 wr) (fun i _ => G.length - (intOf i).toNat)
      case atStart => exact ⟨0, Nat.zero_le _, rfl, Below.refl _ _⟩
      case round =>
        obtain ⟨k, hk, rfl, hbel⟩ := hrel
        by_cases hlt : k < G.length
        · obtain ⟨s, hs⟩ : ∃ s, G[k]? = some s := ⟨G[k], List.getElem?_eq_getElem hlt⟩
          obtain ⟨ab, ao, eab, ca⟩ := text_cell (HXX.out _ (Below.refl _ _)) hs
          subst eab
          have x0 := keep ca
          have hd : decide ((k : Int) < (G.length : Int)) = true := decide_eq_true (by omega)
          have HSK := Lib.hid hs
          clear hs ca
          go_upto_region 12 with fail
          rcases k with _ | k
          · simp only [Nat.add_zero] at x0
            have kk := fun d os => belStep hbel (below_regrown _ d os)
            refine wp_region_quiet_below (by kernel_rfl) (by kernel_rfl) ?_
            repeat ((with_reducible refine wpQuiet_step (fun K hK => ?_)); go_simp; (try (rw [if_neg]; rotate_left; · decide)); first | ((with_reducible refine hK _ ?_); clear hK K) | (apply Exists.intro; refine ⟨fun _ => ?_, hK _ ?_⟩; (fail); clear hK K))
            refine wpQuiet_nil (fun w1 hw1 => ?_)
            replace hbel := belStep hbel (bel_of_class hw1)
            clear hw1 kk
            go_wp2
            have HB0 := Lib.hid hbel
            clear hbel hd
            go_loopw [11, 12] (fun d i wi => ∃ (m : Nat) (D : Bool), m ≤ L.length ∧ i = .int .i64 m ∧ d = .bool D ∧ Hid (anyId (L.take m) s = D) ∧ Below W3.heap.size W3 wi) (fun _ i _ => L.length - (intOf i).toNat)
            case atStart => exact ⟨0, false, Nat.zero_le _, rfl, rfl, Lib.hid rfl, HB0.out⟩
            case round =>
              obtain ⟨m, D, hm, rfl, rfl, HE, hbel⟩ := hrel
              by_cases hmt : m < L.length
              · obtain ⟨y, hy⟩ : ∃ y, L[m]? = some y := ⟨L[m], List.getElem?_eq_getElem hmt⟩
                obtain ⟨b, off, rfl, _, hc⟩ := (HRL.out _ (Below.refl _ _)).elem PodV.cells_len (by omega) hy
                have c0 := keep (hc 0 _ rfl)
                have c1 := keep (hc 1 _ rfl)
                have c2 := keep (hc 2 _ rfl)
                have c3 := keep (hc 3 _ rfl)
                have c4 := keep (hc 4 _ rfl)
                have c5 := keep (hc 5 _ rfl)
                have c6 := keep (hc 6 _ rfl)
                have c7 := keep (hc 7 _ rfl)
                have c8 := keep (hc 8 _ rfl)
                have c9 := keep (hc 9 _ rfl)
                have c10 := keep (hc 10 _ rfl)
                rw [Nat.add_zero] at c0
                have hd : decide ((m : Int) < (L.length : Int)) = true := decide_eq_true (by omega)
                have hnx := any_next (s := s) hy
                rw [HE.out] at hnx
                have HNX := Lib.hid hnx
                have HY := Lib.hid hy
                clear hy hc hnx
                cases he : (y.id.toList == s.toList) with
                | false =>
                  rw [he] at HNX
                  go_upto_region 18 with fail
                  have kk := fun d os => belStep hbel (below_regrown _ d os)
                  refine wp_region_quiet_below (by kernel_rfl) (by kernel_rfl) ?_
                  repeat ((with_reducible refine wpQuiet_step (fun K hK => ?_)); go_simp; (try (rw [if_neg]; rotate_left; · decide)); first | ((with_reducible refine hK _ ?_); clear hK K) | (apply Exists.intro; refine ⟨fun _ => ?_, hK _ ?_⟩; (fail); clear hK K))
                  refine wpQuiet_nil (fun w1 hw1 => ?_)
                  replace hbel := belStep hbel (bel_of_class hw1)
                  clear hw1 kk
                  go_wp2
                  go_roundw
                  case rel => exact ⟨m + 1, _, by omega, by push_cast; rfl, rfl, Lib.hid (by rw [HNX.out, Bool.or_false]), hbel⟩
                  case measure => simp [intOf] <;> omega
                | true =>
                  rw [he] at HNX
                  obtain ⟨⟨pc, yc, hlt2⟩, hfn⟩ := HMAY.out _ s HSK.out y (List.mem_of_getElem? HY.out) he
                  have HFN := Lib.hid hfn
                  have HOKY := Lib.hid (ok_snoc HOKS.out (HOK.out y (List.mem_of_getElem? HY.out)))
                  simp only [pc] at pp2
                  simp only [yc] at c2
                  have YC := Lib.hid yc
                  have hdl : decide (y.prio < p.prio) = true := decide_eq_true hlt2
                  clear hfn pc yc
                  have hSB : SL.length ≤ 1000 := by omega
                  go_upto_region 18 with fail
                  have kk := fun d os => belStep hbel (below_regrown _ d os)
                  refine wp_region_quiet_below (by kernel_rfl) (by kernel_rfl) ?_
                  repeat ((with_reducible refine wpQuiet_step (fun K hK => ?_)); go_simp; (try (rw [if_neg]; rotate_left; · decide)); first | ((with_reducible refine hK _ ?_); clear hK K) | (apply Exists.intro; refine ⟨fun _ => ?_, hK _ ?_⟩; (fail); clear hK K))
                  refine wpQuiet_nil (fun w1 hw1 => ?_)
                  replace hbel := belStep hbel (bel_of_class hw1)
                  clear hw1 kk
                  go_upto_region 19 with fail
                  clear he
                  have hbl := hbel
                  clear hbel
                  refine wp_region_held_drew (S := fun u => Below W3.heap.size W3 u) (by kernel_rfl) (by exact (show Below W3.heap.size W3 _ by repeat (first | assumption | exact Below.refl _ _ | refine belDrew ?_ | refine belAlloc ?_ _ | refine belStep ?_ (by assumption)))) (fun hHeld => ?_)
                  refine wpAnyH_take (i := 0) (oi := ?oi_k8) (v := ?v_k8) ?hi_k8 (by kernel_rfl) ?hf_k8 ?hr_k8 ?hQ_k8 (Or.inl ⟨?hw_k8, ?hy_k8⟩) (by assumption) ?rest_k8
                  case hi_k8 => ((simp only [List.getElem?_toArray, List.getElem?_cons_succ, List.getElem?_cons_zero]); rfl)
                  case hf_k8 => kernel_rfl
                  case hr_k8 => kernel_rfl
                  case hQ_k8 => exact fun _ _ _ h => h
                  case hw_k8 => rfl
                  case hy_k8 => ((intro w hSw; (try dsimp only at hSw); go_simp); all_goals (with_reducible rfl))
                  try simp only [Act.put, List.setIfInBounds_toArray, List.set_cons_zero, List.set_cons_succ]
                  refine wpAnyH_take (i := 1) (oi := ?oi_k9) (v := ?v_k9) ?hi_k9 (by kernel_rfl) ?hf_k9 ?hr_k9 ?hQ_k9 (Or.inl ⟨?hw_k9, ?hy_k9⟩) (by assumption) ?rest_k9
                  case hi_k9 => ((simp only [List.getElem?_toArray, List.getElem?_cons_succ, List.getElem?_cons_zero]); rfl)
                  case hf_k9 => kernel_rfl
                  case hr_k9 => kernel_rfl
                  case hQ_k9 => exact fun _ _ _ h => h
                  case hw_k9 => rfl
                  case hy_k9 => ((intro w hSw; (try dsimp only at hSw); go_simp); all_goals (with_reducible rfl))
                  try simp only [Act.put, List.setIfInBounds_toArray, List.set_cons_zero, List.set_cons_succ]
                  refine wpAnyH_take (i := 2) (oi := ?oi_k10) (v := ?v_k10) ?hi_k10 (by kernel_rfl) ?hf_k10 ?hr_k10 ?hQ_k10 (Or.inl ⟨?hw_k10, ?hy_k10⟩) (by assumption) ?rest_k10
                  case hi_k10 => ((simp only [List.getElem?_toArray, List.getElem?_cons_succ, List.getElem?_cons_zero]); rfl)
                  case hf_k10 => kernel_rfl
                  case hr_k10 => kernel_rfl
                  case hQ_k10 => exact fun _ _ _ h => h
                  case hw_k10 => rfl
                  case hy_k10 => ((intro w hSw; (try dsimp only at hSw); go_simp); all_goals (with_reducible rfl))
                  try simp only [Act.put, List.setIfInBounds_toArray, List.set_cons_zero, List.set_cons_succ]
                  refine wpAnyH_take (i := 3) (oi := ?oi_k11) (v := ?v_k11) ?hi_k11 (by kernel_rfl) ?hf_k11 ?hr_k11 ?hQ_k11 (Or.inl ⟨?hw_k11, ?hy_k11⟩) (by assumption) ?rest_k11
                  case hi_k11 => ((simp only [List.getElem?_toArray, List.getElem?_cons_succ, List.getElem?_cons_zero]); rfl)
                  case hf_k11 => kernel_rfl
                  case hr_k11 => kernel_rfl
                  case hQ_k11 => exact fun _ _ _ h => h
                  case hw_k11 => rfl
                  case hy_k11 => ((intro w hSw; (try dsimp only at hSw); go_simp); all_goals (with_reducible rfl))
                  try simp only [Act.put, List.setIfInBounds_toArray, List.set_cons_zero, List.set_cons_succ]
                  refine wpAnyH_take (i := 4) (oi := ?oi_k12) (v := ?v_k12) ?hi_k12 (by kernel_rfl) ?hf_k12 ?hr_k12 ?hQ_k12 (Or.inl ⟨?hw_k12, ?hy_k12⟩) (by assumption) ?rest_k12
                  case hi_k12 => ((simp only [List.getElem?_toArray, List.getElem?_cons_succ, List.getElem?_cons_zero]); rfl)
                  case hf_k12 => kernel_rfl
                  case hr_k12 => kernel_rfl
                  case hQ_k12 => exact fun _ _ _ h => h
                  case hw_k12 => rfl
                  case hy_k12 => ((intro w hSw; (try dsimp only at hSw); go_simp); all_goals (with_reducible rfl))
                  try simp only [Act.put, List.setIfInBounds_toArray, List.set_cons_zero, List.set_cons_succ]
                  refine wpAnyH_take (i := 5) (oi := ?oi_k13) (v := ?v_k13) ?hi_k13 (by kernel_rfl) ?hf_k13 ?hr_k13 ?hQ_k13 (Or.inl ⟨?hw_k13, ?hy_k13⟩) (by assumption) ?rest_k13
                  case hi_k13 => ((simp only [List.getElem?_toArray, List.getElem?_cons_succ, List.getElem?_cons_zero]); rfl)
                  case hf_k13 => kernel_rfl
                  case hr_k13 => kernel_rfl
                  case hQ_k13 => exact fun _ _ _ h => h
                  case hw_k13 => rfl
                  case hy_k13 => ((intro w hSw; (try dsimp only at hSw); go_simp); all_goals (with_reducible rfl))
                  try simp only [Act.put, List.setIfInBounds_toArray, List.set_cons_zero, List.set_cons_succ]
                  refine wpAnyH_take (i := 6) (oi := ?oi_k14) (v := ?v_k14) ?hi_k14 (by kernel_rfl) ?hf_k14 ?hr_k14 ?hQ_k14 (Or.inl ⟨?hw_k14, ?hy_k14⟩) (by assumption) ?rest_k14
                  case hi_k14 => ((simp only [List.getElem?_toArray, List.getElem?_cons_succ, List.getElem?_cons_zero]); rfl)
                  case hf_k14 => kernel_rfl
                  case hr_k14 => kernel_rfl
                  case hQ_k14 => exact fun _ _ _ h => h
                  case hw_k14 => rfl
                  case hy_k14 => ((intro w hSw; (try dsimp only at hSw); go_simp); all_goals (with_reducible rfl))
                  try simp only [Act.put, List.setIfInBounds_toArray, List.set_cons_zero, List.set_cons_succ]
                  refine wpAnyH_take (i := 7) (oi := ?oi_k15) (v := ?v_k15) ?hi_k15 (by kernel_rfl) ?hf_k15 ?hr_k15 ?hQ_k15 (Or.inl ⟨?hw_k15, ?hy_k15⟩) (by assumption) ?rest_k15
                  case hi_k15 => ((simp only [List.getElem?_toArray, List.getElem?_cons_succ, List.getElem?_cons_zero]); rfl)
                  case hf_k15 => kernel_rfl
                  case hr_k15 => kernel_rfl
                  case hQ_k15 => exact fun _ _ _ h => h
                  case hw_k15 => rfl
                  case hy_k15 => ((intro w hSw; (try dsimp only at hSw); go_simp); all_goals (with_reducible rfl))
                  try simp only [Act.put, List.setIfInBounds_toArray, List.set_cons_zero, List.set_cons_succ]
                  refine wpAnyH_take (i := 8) (oi := ?oi_k16) (v := ?v_k16) ?hi_k16 (by kernel_rfl) ?hf_k16 ?hr_k16 ?hQ_k16 (Or.inl ⟨?hw_k16, ?hy_k16⟩) (by assumption) ?rest_k16
                  case hi_k16 => ((simp only [List.getElem?_toArray, List.getElem?_cons_succ, List.getElem?_cons_zero]); rfl)
                  case hf_k16 => kernel_rfl
                  case hr_k16 => kernel_rfl
                  case hQ_k16 => exact fun _ _ _ h => h
                  case hw_k16 => rfl
                  case hy_k16 => ((intro w hSw; (try dsimp only at hSw); go_simp); all_goals (with_reducible rfl))
                  try simp only [Act.put, List.setIfInBounds_toArray, List.set_cons_zero, List.set_cons_succ]
                  refine wpAnyH_take (i := 9) (oi := ?oi_k17) (v := ?v_k17) ?hi_k17 (by kernel_rfl) ?hf_k17 ?hr_k17 ?hQ_k17 (Or.inl ⟨?hw_k17, ?hy_k17⟩) (by assumption) ?rest_k17
                  case hi_k17 => ((simp only [List.getElem?_toArray, List.getElem?_cons_succ, List.getElem?_cons_zero]); rfl)
                  case hf_k17 => kernel_rfl
                  case hr_k17 => kernel_rfl
                  case hQ_k17 => exact fun _ _ _ h => h
                  case hw_k17 => rfl
                  case hy_k17 => ((intro w hSw; (try dsimp only at hSw); go_simp); all_goals (with_reducible rfl))
                  try simp only [Act.put, List.setIfInBounds_toArray, List.set_cons_zero, List.set_cons_succ]
                  refine wpAnyH_take (i := 10) (oi := ?oi_k18) (v := ?v_k18) ?hi_k18 (by kernel_rfl) ?hf_k18 ?hr_k18 ?hQ_k18 (Or.inl ⟨?hw_k18, ?hy_k18⟩) (by assumption) ?rest_k18
                  case hi_k18 => ((simp only [List.getElem?_toArray, List.getElem?_cons_succ, List.getElem?_cons_zero]); rfl)
                  case hf_k18 => kernel_rfl
                  case hr_k18 => kernel_rfl
                  case hQ_k18 => exact fun _ _ _ h => h
                  case hw_k18 => rfl
                  case hy_k18 => ((intro w hSw; (try dsimp only at hSw); go_simp); all_goals (with_reducible rfl))
                  try simp only [Act.put, List.setIfInBounds_toArray, List.set_cons_zero, List.set_cons_succ]
                  refine wpAnyH_take (i := 11) (oi := ?oi_k19) (v := ?v_k19) ?hi_k19 (by kernel_rfl) ?hf_k19 ?hr_k19 ?hQ_k19 (Or.inl ⟨?hw_k19, ?hy_k19⟩) (by assumption) ?rest_k19
                  case hi_k19 => ((simp only [List.getElem?_toArray, List.getElem?_cons_succ, List.getElem?_cons_zero]); rfl)
                  case hf_k19 => kernel_rfl
                  case hr_k19 => kernel_rfl
                  case hQ_k19 => exact fun _ _ _ h => h
                  case hw_k19 => rfl
                  case hy_k19 => ((intro w hSw; (try dsimp only at hSw); go_simp); all_goals (with_reducible rfl))
                  try simp only [Act.put, List.setIfInBounds_toArray, List.set_cons_zero, List.set_cons_succ]
                  refine wpAnyH_take (i := 12) (oi := ?oi_k20) (v := ?v_k20) ?hi_k20 (by kernel_rfl) ?hf_k20 ?hr_k20 ?hQ_k20 (Or.inl ⟨?hw_k20, ?hy_k20⟩) (by assumption) ?rest_k20
                  case hi_k20 => ((simp only [List.getElem?_toArray, List.getElem?_cons_succ, List.getElem?_cons_zero]); rfl)
                  case hf_k20 => kernel_rfl
                  case hr_k20 => kernel_rfl
                  case hQ_k20 => exact fun _ _ _ h => h
                  case hw_k20 => rfl
                  case hy_k20 => ((intro w hSw; (try dsimp only at hSw); go_simp); all_goals (with_reducible rfl))
                  try simp only [Act.put, List.setIfInBounds_toArray, List.set_cons_zero, List.set_cons_succ]
                  refine wpAnyH_take (i := 13) (oi := ?oi_k21) (v := ?v_k21) ?hi_k21 (by kernel_rfl) ?hf_k21 ?hr_k21 ?hQ_k21 (Or.inl ⟨?hw_k21, ?hy_k21⟩) (by assumption) ?rest_k21
                  case hi_k21 => ((simp only [List.getElem?_toArray, List.getElem?_cons_succ, List.getElem?_cons_zero]); rfl)
                  case hf_k21 => kernel_rfl
                  case hr_k21 => kernel_rfl
                  case hQ_k21 => exact fun _ _ _ h => h
                  case hw_k21 => rfl
                  case hy_k21 => ((intro w hSw; (try dsimp only at hSw); go_simp); all_goals (with_reducible rfl))
                  try simp only [Act.put, List.setIfInBounds_toArray, List.set_cons_zero, List.set_cons_succ]
                  refine wpAnyH_take (i := 14) (oi := ?oi_k22) (v := ?v_k22) ?hi_k22 (by kernel_rfl) ?hf_k22 ?hr_k22 ?hQ_k22 (Or.inl ⟨?hw_k22, ?hy_k22⟩) (by assumption) ?rest_k22
                  case hi_k22 => ((simp only [List.getElem?_toArray, List.getElem?_cons_succ, List.getElem?_cons_zero]); rfl)
                  case hf_k22 => kernel_rfl
                  case hr_k22 => kernel_rfl
                  case hQ_k22 => exact fun _ _ _ h => h
                  case hw_k22 => rfl
                  case hy_k22 => ((intro w hSw; (try dsimp only at hSw); go_simp); all_goals (with_reducible rfl))
                  try simp only [Act.put, List.setIfInBounds_toArray, List.set_cons_zero, List.set_cons_succ]
                  refine wpAnyH_take (i := 15) (oi := ?oi_k23) (v := ?v_k23) ?hi_k23 (by kernel_rfl) ?hf_k23 ?hr_k23 ?hQ_k23 (Or.inl ⟨?hw_k23, ?hy_k23⟩) (by assumption) ?rest_k23
                  case hi_k23 => ((simp only [List.getElem?_toArray, List.getElem?_cons_succ, List.getElem?_cons_zero]); rfl)
                  case hf_k23 => kernel_rfl
                  case hr_k23 => kernel_rfl
                  case hQ_k23 => exact fun _ _ _ h => h
                  case hw_k23 => rfl
                  case hy_k23 => ((intro w hSw; (try dsimp only at hSw); go_simp); all_goals (with_reducible rfl))
                  try simp only [Act.put, List.setIfInBounds_toArray, List.set_cons_zero, List.set_cons_succ]
                  refine wpAnyH_take (i := 16) (oi := ?oi_k24) (v := ?v_k24) ?hi_k24 (by kernel_rfl) ?hf_k24 ?hr_k24 ?hQ_k24 (Or.inl ⟨?hw_k24, ?hy_k24⟩) (by assumption) ?rest_k24
                  case hi_k24 => ((simp only [List.getElem?_toArray, List.getElem?_cons_succ, List.getElem?_cons_zero]); rfl)
                  case hf_k24 => kernel_rfl
                  case hr_k24 => kernel_rfl
                  case hQ_k24 => exact fun _ _ _ h => h
                  case hw_k24 => rfl
                  case hy_k24 => ((intro w hSw; (try dsimp only at hSw); go_simp); all_goals (with_reducible rfl))
                  try simp only [Act.put, List.setIfInBounds_toArray, List.set_cons_zero, List.set_cons_succ]
                  refine wpAnyH_take (i := 17) (oi := ?oi_k25) (v := ?v_k25) ?hi_k25 (by kernel_rfl) ?hf_k25 ?hr_k25 ?hQ_k25 (Or.inl ⟨?hw_k25, ?hy_k25⟩) (by assumption) ?rest_k25
                  case hi_k25 => ((simp only [List.getElem?_toArray, List.getElem?_cons_succ, List.getElem?_cons_zero]); rfl)
                  case hf_k25 => kernel_rfl
                  case hr_k25 => kernel_rfl
                  case hQ_k25 => exact fun _ _ _ h => h
                  case hw_k25 => rfl
                  case hy_k25 => ((intro w hSw; (try dsimp only at hSw); go_simp); all_goals (with_reducible rfl))
                  try simp only [Act.put, List.setIfInBounds_toArray, List.set_cons_zero, List.set_cons_succ]
                  refine wpAnyH_take (i := 18) (oi := ?oi_k26) (v := ?v_k26) ?hi_k26 (by kernel_rfl) ?hf_k26 ?hr_k26 ?hQ_k26 (Or.inl ⟨?hw_k26, ?hy_k26⟩) (by assumption) ?rest_k26
                  case hi_k26 => ((simp only [List.getElem?_toArray, List.getElem?_cons_succ, List.getElem?_cons_zero]); rfl)
                  case hf_k26 => kernel_rfl
                  case hr_k26 => kernel_rfl
                  case hQ_k26 => exact fun _ _ _ h => h
                  case hw_k26 => rfl
                  case hy_k26 => ((intro w hSw; (try dsimp only at hSw); go_simp); all_goals (with_reducible rfl))
                  try simp only [Act.put, List.setIfInBounds_toArray, List.set_cons_zero, List.set_cons_succ]
                  refine wpAnyH_take (i := 19) (oi := ?oi_k27) (v := ?v_k27) ?hi_k27 (by kernel_rfl) ?hf_k27 ?hr_k27 ?hQ_k27 (Or.inl ⟨?hw_k27, ?hy_k27⟩) (by assumption) ?rest_k27
                  case hi_k27 => ((simp only [List.getElem?_toArray, List.getElem?_cons_succ, List.getElem?_cons_zero]); rfl)
                  case hf_k27 => kernel_rfl
                  case hr_k27 => kernel_rfl
                  case hQ_k27 => exact fun _ _ _ h => h
                  case hw_k27 => rfl
                  case hy_k27 => ((intro w hSw; (try dsimp only at hSw); go_simp); all_goals (with_reducible rfl))
                  try simp only [Act.put, List.setIfInBounds_toArray, List.set_cons_zero, List.set_cons_succ]
                  refine wpAnyH_take (i := 20) (oi := ?oi_k28) (v := ?v_k28) ?hi_k28 (by kernel_rfl) ?hf_k28 ?hr_k28 ?hQ_k28 (Or.inl ⟨?hw_k28, ?hy_k28⟩) (by assumption) ?rest_k28
                  case hi_k28 => ((simp only [List.getElem?_toArray, List.getElem?_cons_succ, List.getElem?_cons_zero]); rfl)
                  case hf_k28 => kernel_rfl
                  case hr_k28 => kernel_rfl
                  case hQ_k28 => exact fun _ _ _ h => h
                  case hw_k28 => rfl
                  case hy_k28 => ((intro w hSw; (try dsimp only at hSw); go_simp); all_goals (with_reducible rfl))
                  try simp only [Act.put, List.setIfInBounds_toArray, List.set_cons_zero, List.set_cons_succ]
                  refine wpAnyH_take (i := 21) (oi := ?oi_k29) (v := ?v_k29) ?hi_k29 (by kernel_rfl) ?hf_k29 ?hr_k29 ?hQ_k29 (Or.inl ⟨?hw_k29, ?hy_k29⟩) (by assumption) ?rest_k29
                  case hi_k29 => ((simp only [List.getElem?_toArray, List.getElem?_cons_succ, List.getElem?_cons_zero]); rfl)
                  case hf_k29 => kernel_rfl
                  case hr_k29 => kernel_rfl
                  case hQ_k29 => exact fun _ _ _ h => h
                  case hw_k29 => rfl
                  case hy_k29 => ((intro w hSw; (try dsimp only at hSw); go_simp); all_goals (with_reducible rfl))
                  try simp only [Act.put, List.setIfInBounds_toArray, List.set_cons_zero, List.set_cons_succ]
                  refine wpAnyH_take (i := 23) (oi := ?oi_k30) (v := ?v_k30) ?hi_k30 (by kernel_rfl) ?hf_k30 ?hr_k30 ?hQ_k30 (Or.inl ⟨?hw_k30, ?hy_k30⟩) (by assumption) ?rest_k30
                  case hi_k30 => ((simp only [List.getElem?_toArray, List.getElem?_cons_succ, List.getElem?_cons_zero]); rfl)
                  case hf_k30 => kernel_rfl
                  case hr_k30 => kernel_rfl
                  case hQ_k30 => exact fun _ _ _ h => h
                  case hw_k30 => rfl
                  case hy_k30 => ((intro w hSw; (try dsimp only at hSw); go_simp); all_goals (with_reducible rfl))
                  try simp only [Act.put, List.setIfInBounds_toArray, List.set_cons_zero, List.set_cons_succ]
                  refine wpAnyH_take (i := 25) (oi := ?oi_k31) (v := ?v_k31) ?hi_k31 (by kernel_rfl) ?hf_k31 ?hr_k31 ?hQ_k31 (Or.inl ⟨?hw_k31, ?hy_k31⟩) (by assumption) ?rest_k31
                  case hi_k31 => ((simp only [List.getElem?_toArray, List.getElem?_cons_succ, List.getElem?_cons_zero]); rfl)
                  case hf_k31 => kernel_rfl
                  case hr_k31 => kernel_rfl
                  case hQ_k31 => exact fun _ _ _ h => h
                  case hw_k31 => rfl
                  case hy_k31 => ((intro w hSw; (try dsimp only at hSw); go_simp); all_goals (with_reducible rfl))
                  try simp only [Act.put, List.setIfInBounds_toArray, List.set_cons_zero, List.set_cons_succ]
                  refine wpAnyH_take (i := 26) (oi := ?oi_k32) (v := ?v_k32) ?hi_k32 (by kernel_rfl) ?hf_k32 ?hr_k32 ?hQ_k32 (Or.inl ⟨?hw_k32, ?hy_k32⟩) (by assumption) ?rest_k32
                  case hi_k32 => ((simp only [List.getElem?_toArray, List.getElem?_cons_succ, List.getElem?_cons_zero]); rfl)
                  case hf_k32 => kernel_rfl
                  case hr_k32 => kernel_rfl
                  case hQ_k32 => exact fun _ _ _ h => h
                  case hw_k32 => rfl
                  case hy_k32 => ((intro w hSw; (try dsimp only at hSw); go_simp); all_goals (with_reducible rfl))
                  try simp only [Act.put, List.setIfInBounds_toArray, List.set_cons_zero, List.set_cons_succ]
                  refine wpAnyH_take (i := 27) (oi := ?oi_k33) (v := ?v_k33) ?hi_k33 (by kernel_rfl) ?hf_k33 ?hr_k33 ?hQ_k33 (Or.inl ⟨?hw_k33, ?hy_k33⟩) (by assumption) ?rest_k33
                  case hi_k33 => ((simp only [List.getElem?_toArray, List.getElem?_cons_succ, List.getElem?_cons_zero]); rfl)
                  case hf_k33 => kernel_rfl
                  case hr_k33 => kernel_rfl
                  case hQ_k33 => exact fun _ _ _ h => h
                  case hw_k33 => rfl
                  case hy_k33 => ((intro w hSw; (try dsimp only at hSw); go_simp); all_goals (with_reducible rfl))
                  try simp only [Act.put, List.setIfInBounds_toArray, List.set_cons_zero, List.set_cons_succ]
                  refine wpAnyH_take (i := 28) (oi := ?oi_k34) (v := ?v_k34) ?hi_k34 (by kernel_rfl) ?hf_k34 ?hr_k34 ?hQ_k34 (Or.inl ⟨?hw_k34, ?hy_k34⟩) (by assumption) ?rest_k34
                  case hi_k34 => ((simp only [List.getElem?_toArray, List.getElem?_cons_succ, List.getElem?_cons_zero]); rfl)
                  case hf_k34 => kernel_rfl
                  case hr_k34 => kernel_rfl
                  case hQ_k34 => exact fun _ _ _ h => h
                  case hw_k34 => rfl
                  case hy_k34 => ((intro w hSw; (try dsimp only at hSw); go_simp); all_goals (with_reducible rfl))
                  try simp only [Act.put, List.setIfInBounds_toArray, List.set_cons_zero, List.set_cons_succ]
                  refine krip (fun u u' => Below u.heap.size u u') [114, 116, 121] [[], [], [], [], [], [], [], [], [], [], [], [], [], [], [], [], [], [], [], [], [], [], [], [], [22], [], [], [], [], [], [22, 24, 29], [22, 24, 29], [22, 24, 29], [22, 24, 29], [22, 24, 29]] [[], [], [], [], [], [], [], [], [], [], [], [], [], [], [], [], [], [], [], [], [], [], [114], [], [116], [], [], [], [], [121], [], [], [], [], []] [22, 24, 29] (krF [(22, fun t u => ∃ g : Nat, t 114 = .slice (some ⟨g, 0, none⟩) 0 0 ∧ OwnR u (W3.heap.size) 25 11 (.slice (some ⟨g, 0, none⟩) 0 0) 0 []), (24, fun t u => OwnR u (W3.heap.size) 25 11 (t 116) (SL.length) (SL.flatMap PodV.cells)), (29, fun t u => ∃ g : Nat, t 121 = .slice (some ⟨g, 0, none⟩) 1 1 ∧ Row u (some ⟨g, 0, none⟩) 1 1 11 ([.string y.id, .int .i64 y.prio, .bool false, .int .i64 y.r0, .int .i64 y.r1, .int .i64 y.r2, .int .i64 y.l0, .int .i64 y.l1, .int .i64 y.l2, .string y.img, .int .i64 y.size]))]) 5 #[true, true, true, true, true, true, true, true, true, true, true, true, true, true, true, true, true, true, true, true, true, true, true, true, true, true, true, true, true, true, false, false, false, false, false] (by kernel_rfl) (by kernel_rfl) (by kernel_rfl) (by assumption) (AllL.cons ?s_22_q35 (AllL.cons ?s_24_q35 (AllL.cons ?s_29_q35 AllL.nil))) (AllL.cons ?o_22_q35 (AllL.cons ?o_24_q35 (AllL.cons ?o_29_q35 AllL.nil))) ?e_q35
                  case s_22_q35 => exact fun t u u' hle ⟨g, e, h⟩ => ⟨g, e, OwnR.later h hle⟩
                  case s_24_q35 => exact fun t u u' hle h => OwnR.later h hle
                  case s_29_q35 => exact fun t u u' hle ⟨g, e, h⟩ => ⟨g, e, Row.later h hle⟩
                  case o_22_q35 =>
                    refine KrOp.of (o := ?oo_22_q35) ?hi_22_q35 (fun t u hHeld hF K hK => ?rr_22_q35)
                    case hi_22_q35 => ((simp only [List.getElem?_toArray, List.getElem?_cons_succ, List.getElem?_cons_zero]); rfl)
                    case rr_22_q35 =>
                      clear hF
                      simp only [setl, List.foldl_cons, List.foldl_nil, Act.put, List.setIfInBounds_toArray, List.set_cons_zero, List.set_cons_succ] at hK ⊢
                      go_simp
                      refine hK.out _ _ (by exact (by repeat (first | assumption | exact Below.refl _ _ | refine belDrew ?_ | refine belAlloc ?_ _ | refine belStep ?_ (by assumption)))) (by exact (show Below W3.heap.size W3 _ by repeat (first | assumption | exact Below.refl _ _ | refine belDrew ?_ | refine belAlloc ?_ _ | refine belStep ?_ (by assumption)))) ?_
                      exact ⟨_, rfl, OwnR.mono (own_empty _ _ 11) (Below.size hHeld)⟩
                  case o_24_q35 =>
                    refine KrOp.of (o := ?oo_24_q35) ?hi_24_q35 (fun t u hHeld hF K hK => ?rr_24_q35)
                    case hi_24_q35 => ((simp only [List.getElem?_toArray, List.getElem?_cons_succ, List.getElem?_cons_zero]); rfl)
                    case rr_24_q35 =>
                      have h22 : ∃ g : Nat, t 114 = .slice (some ⟨g, 0, none⟩) 0 0 ∧ OwnR u (W3.heap.size) 25 11 (.slice (some ⟨g, 0, none⟩) 0 0) 0 [] := hF 22 rfl rfl
                      clear hF
                      simp only [setl, List.foldl_cons, List.foldl_nil, Act.put, List.setIfInBounds_toArray, List.set_cons_zero, List.set_cons_succ] at hK ⊢
                      generalize t 114 = x114 at *
                      obtain ⟨g22, rfl, ho22⟩ := h22
                      refine op_firstG (by rfl) _ _ 23 rfl (W3.heap.size) 25 _ 11 104 Try.underlying23 info_pod rfl (by decide) g22 (by rfl) ho22 (ad5) (SL.length) (cap5) (SL.flatMap PodV.cells) (by rfl) (HSS.out _ hHeld) (pods_one _) (by have := hSB; unfold maxLen; omega) (by have := hSB; omega) (Below.size hHeld) ?_
                      intro v4 w4 ho4 hb4
                      refine hK.out _ _ (by exact (by repeat (first | assumption | exact Below.refl _ _ | refine belDrew ?_ | refine belAlloc ?_ _ | refine belStep ?_ (by assumption)))) (by exact (show Below W3.heap.size W3 _ by repeat (first | assumption | exact Below.refl _ _ | refine belDrew ?_ | refine belAlloc ?_ _ | refine belStep ?_ (by assumption)))) ?_
                      exact ho4
                  case o_29_q35 =>
                    refine KrOp.of (o := ?oo_29_q35) ?hi_29_q35 (fun t u hHeld hF K hK => ?rr_29_q35)
                    case hi_29_q35 => ((simp only [List.getElem?_toArray, List.getElem?_cons_succ, List.getElem?_cons_zero]); rfl)
                    case rr_29_q35 =>
                      clear hF
                      simp only [setl, List.foldl_cons, List.foldl_nil, Act.put, List.setIfInBounds_toArray, List.set_cons_zero, List.set_cons_succ] at hK ⊢
                      go_simp
                      refine hK.out _ _ (by exact (by repeat (first | assumption | exact Below.refl _ _ | refine belDrew ?_ | refine belAlloc ?_ _ | refine belStep ?_ (by assumption)))) (by exact (show Below W3.heap.size W3 _ by repeat (first | assumption | exact Below.refl _ _ | refine belDrew ?_ | refine belAlloc ?_ _ | refine belStep ?_ (by assumption)))) ?_
                      exact ⟨_, rfl, row_new _ ([.string y.id, .int .i64 y.prio, .bool false, .int .i64 y.r0, .int .i64 y.r1, .int .i64 y.r2, .int .i64 y.l0, .int .i64 y.l1, .int .i64 y.l2, .string y.img, .int .i64 y.size]) 25 1 11 rfl (by unfold maxLen; omega)⟩
                  case e_q35 =>
                    intro t u hHeld hF
                    have h22 : ∃ g : Nat, t 114 = .slice (some ⟨g, 0, none⟩) 0 0 ∧ OwnR u (W3.heap.size) 25 11 (.slice (some ⟨g, 0, none⟩) 0 0) 0 [] := hF 22 rfl
                    have h24 : OwnR u (W3.heap.size) 25 11 (t 116) (SL.length) (SL.flatMap PodV.cells) := hF 24 rfl
                    have h29 : ∃ g : Nat, t 121 = .slice (some ⟨g, 0, none⟩) 1 1 ∧ Row u (some ⟨g, 0, none⟩) 1 1 11 ([.string y.id, .int .i64 y.prio, .bool false, .int .i64 y.r0, .int .i64 y.r1, .int .i64 y.r2, .int .i64 y.l0, .int .i64 y.l1, .int .i64 y.l2, .string y.img, .int .i64 y.size]) := hF 29 rfl
                    clear hF
                    simp only [setl, List.foldl_cons, List.foldl_nil, Act.put, List.setIfInBounds_toArray, List.set_cons_zero, List.set_cons_succ]
                    generalize t 114 = x114 at *
                    generalize t 116 = x116 at *
                    generalize t 121 = x121 at *
                    obtain ⟨g29, rfl, hr29⟩ := h29
                    obtain ⟨g22, rfl, ho22⟩ := h22
                    have HO24 := Lib.hid h24
                    clear h24
                    refine wpAnyH_ready (rs := [30]) (by kernel_rfl) (by simp) ?_
                    refine AllReadyH.cons (o := ?o1_ta3) ?hi_ta3 (fun K hK => ?rest_ta3) AllReadyH.nil
                    case hi_ta3 => ((simp only [List.getElem?_toArray, List.getElem?_cons_succ, List.getElem?_cons_zero]); rfl)
                    refine op_appG (by rfl) _ _ 23 rfl (W3.heap.size) 25 _ 11 104 Try.underlying23 info_pod rfl (by decide) _ (SL.length) _ (by rfl) HO24.out _ 1 1 ([.string y.id, .int .i64 y.prio, .bool false, .int .i64 y.r0, .int .i64 y.r1, .int .i64 y.r2, .int .i64 y.l0, .int .i64 y.l1, .int .i64 y.l2, .string y.img, .int .i64 y.size]) (by rfl) hr29 (fun u hu => pod_one y u (cells_false YC.out ▸ hu)) (by have := hSB; unfold maxLen; omega) (by have := hSB; omega) (Below.size hHeld) ?_
                    intro v9 u9 ho9 hb9
                    have hu9 : Below W3.heap.size W3 u9 := hHeld.trans hb9
                    refine hK.out _ _ (by exact hu9) (fun hHeld => ?_)
                    clear hK K hb9
                    try simp only [Act.put, List.setIfInBounds_toArray, List.set_cons_zero, List.set_cons_succ]
                    rw [cells_false YC.out] at ho9
                    have CF9 := Lib.hid (show Calls Try.prog 18 #[.agg #[.int .i64 R.a, .int .i64 R.b, .int .i64 R.c], v9] u9 fun e w' => e = .returned (.bool false) ∧ Below u9.heap.size u9 w' from by have h := fits_own R (SL ++ [y]) u9 (own_snoc ho9) HOKY.out; rw [show fitsB R (SL ++ [y]) = false from HFN.out] at h; exact h)
                    clear ho9
                    refine wpAnyH_ready (rs := [31]) (by kernel_rfl) (by simp) ?_
                    refine AllReadyH.cons (o := ?o1_k4) ?hi_k4 (fun K hK => ?rest_k4) AllReadyH.nil
                    case hi_k4 => ((simp only [List.getElem?_toArray, List.getElem?_cons_succ, List.getElem?_cons_zero]); rfl)
                    go_simp
                    (go_at_call 18; (with_reducible refine CF9.out.mono ?_); rintro e w10 ⟨rfl, hb10⟩)
                    try go_simp
                    refine hK.out _ _ (by exact (show Below W3.heap.size W3 _ by repeat (first | assumption | exact Below.refl _ _ | refine belDrew ?_ | refine belAlloc ?_ _ | refine belStep ?_ (by assumption)))) (fun hHeld => ?_)
                    clear hK K
                    try simp only [Act.put, List.setIfInBounds_toArray, List.set_cons_zero, List.set_cons_succ]
                    refine wpAnyH_take (i := 32) (oi := ?oi_k5) (v := ?v_k5) ?hi_k5 (by kernel_rfl) ?hf_k5 ?hr_k5 ?hQ_k5 (Or.inl ⟨?hw_k5, ?hy_k5⟩) (by assumption) ?rest_k5
                    case hi_k5 => ((simp only [List.getElem?_toArray, List.getElem?_cons_succ, List.getElem?_cons_zero]); rfl)
                    case hf_k5 => kernel_rfl
                    case hr_k5 => kernel_rfl
                    case hQ_k5 => exact fun _ _ _ h => h
                    case hw_k5 => rfl
                    case hy_k5 => ((intro w hSw; (try dsimp only at hSw); go_simp); all_goals (with_reducible rfl))
                    try simp only [Act.put, List.setIfInBounds_toArray, List.set_cons_zero, List.set_cons_succ]
                    refine wpAnyH_take (i := 33) (oi := ?oi_k6) (v := ?v_k6) ?hi_k6 (by kernel_rfl) ?hf_k6 ?hr_k6 ?hQ_k6 (Or.inl ⟨?hw_k6, ?hy_k6⟩) (by assumption) ?rest_k6
                    case hi_k6 => ((simp only [List.getElem?_toArray, List.getElem?_cons_succ, List.getElem?_cons_zero]); rfl)
                    case hf_k6 => kernel_rfl
                    case hr_k6 => kernel_rfl
                    case hQ_k6 => exact fun _ _ _ h => h
                    case hw_k6 => rfl
                    case hy_k6 => ((intro w hSw; (try dsimp only at hSw); go_simp); all_goals (with_reducible rfl))
                    try simp only [Act.put, List.setIfInBounds_toArray, List.set_cons_zero, List.set_cons_succ]
                    refine wpAnyH_take (i := 34) (oi := ?oi_k7) (v := ?v_k7) ?hi_k7 (by kernel_rfl) ?hf_k7 ?hr_k7 ?hQ_k7 (Or.inl ⟨?hw_k7, ?hy_k7⟩) (by assumption) ?rest_k7
                    case hi_k7 => ((simp only [List.getElem?_toArray, List.getElem?_cons_succ, List.getElem?_cons_zero]); rfl)
                    case hf_k7 => kernel_rfl
                    case hr_k7 => kernel_rfl
                    case hQ_k7 => exact fun _ _ _ h => h
                    case hw_k7 => rfl
                    case hy_k7 => ((intro w hSw; (try dsimp only at hSw); go_simp); all_goals (with_reducible rfl))
                    try simp only [Act.put, List.setIfInBounds_toArray, List.set_cons_zero, List.set_cons_succ]
                    refine wpAnyH_done (by kernel_rfl) ?_ _
                    have hbel : Below W3.heap.size W3 w10 := hHeld
                    clear hHeld hu9
                    go_wp2
                    go_roundw
                    case rel => exact ⟨m + 1, _, by omega, by push_cast; rfl, rfl, Lib.hid (by rw [HNX.out, Bool.or_true]), hbel⟩
                    case measure => simp [intOf] <;> omega
              · obtain rfl : m = L.length := by omega
                rw [List.take_length, HM.out.any _ s HSK.out] at HE
                obtain rfl : true = D := HE.out
                have hd : decide ((L.length : Int) < (L.length : Int)) = false := decide_eq_false (by omega)
                go_wp2
                go_roundw
                case rel => exact ⟨1, by omega, by first | rfl | (push_cast; rfl), hbel⟩
                case measure => simp [intOf] <;> omega
          · obtain ⟨s0, hs0⟩ : ∃ s, G[k]? = some s := ⟨G[k], List.getElem?_eq_getElem (by omega)⟩
            obtain ⟨ab2, ao2, eab2, ca0⟩ := text_cell (HXX.out _ (Below.refl _ _)) hs0
            simp only [Option.some.injEq, Addr.mk.injEq, and_true] at eab2
            obtain ⟨rfl, rfl⟩ := eab2
            have y0 := keep ca0
            have hrise : Op.bytesLess s0.toList s.toList = true := HM.out.rise k s0 s hs0 HSK.out
            clear hs0 ca0
            have u1 : IntKind.i64.wrap (k : Int) = (k : Int) := IntWalk.i64_in _ (by omega)
            have hkk : k < G.length := by omega
            have hk3 : (0 : Int) ≤ (k : Int) + 1 := by omega
            have hk4 : (k : Int) + 1 < (G.length : Int) := by omega
            have hk1 : (0 : Int) < ((k + 1 : Nat) : Int) := by omega
            have hk2 : decide ((0 : Int) < ((k + 1 : Nat) : Int)) = true := decide_eq_true hk1
            have kk := fun d os => belStep hbel (below_regrown _ d os)
            refine wp_region_quiet_below (by kernel_rfl) (by kernel_rfl) ?_
            repeat ((with_reducible refine wpQuiet_step (fun K hK => ?_)); go_simp; (try (rw [if_neg]; rotate_left; · decide)); first | ((with_reducible refine hK _ ?_); clear hK K) | (apply Exists.intro; refine ⟨fun _ => ?_, hK _ ?_⟩; (fail); clear hK K))
            refine wpQuiet_nil (fun w1 hw1 => ?_)
            replace hbel := belStep hbel (bel_of_class hw1)
            clear hw1 kk
            clear hrise u1 hk1 hk2
            go_wp2
            have HB0 := Lib.hid hbel
            clear hbel hd
            go_loopw [11, 12] (fun d i wi => ∃ (m : Nat) (D : Bool), m ≤ L.length ∧ i = .int .i64 m ∧ d = .bool D ∧ Hid (anyId (L.take m) s = D) ∧ Below W3.heap.size W3 wi) (fun _ i _ => L.length - (intOf i).toNat)
            case atStart => exact ⟨0, false, Nat.zero_le _, rfl, rfl, Lib.hid rfl, HB0.out⟩
            case round =>
              obtain ⟨m, D, hm, rfl, rfl, HE, hbel⟩ := hrel
              by_cases hmt : m < L.length
              · obtain ⟨y, hy⟩ : ∃ y, L[m]? = some y := ⟨L[m], List.getElem?_eq_getElem hmt⟩
                obtain ⟨b, off, rfl, _, hc⟩ := (HRL.out _ (Below.refl _ _)).elem PodV.cells_len (by omega) hy
                have c0 := keep (hc 0 _ rfl)
                have c1 := keep (hc 1 _ rfl)
                have c2 := keep (hc 2 _ rfl)
                have c3 := keep (hc 3 _ rfl)
                have c4 := keep (hc 4 _ rfl)
                have c5 := keep (hc 5 _ rfl)
                have c6 := keep (hc 6 _ rfl)
                have c7 := keep (hc 7 _ rfl)
                have c8 := keep (hc 8 _ rfl)
                have c9 := keep (hc 9 _ rfl)
                have c10 := keep (hc 10 _ rfl)
                rw [Nat.add_zero] at c0
                have hd : decide ((m : Int) < (L.length : Int)) = true := decide_eq_true (by omega)
                have hnx := any_next (s := s) hy
                rw [HE.out] at hnx
                have HNX := Lib.hid hnx
                have HY := Lib.hid hy
                clear hy hc hnx
                cases he : (y.id.toList == s.toList) with
                | false =>
                  rw [he] at HNX
                  go_upto_region 18 with fail
                  have kk := fun d os => belStep hbel (below_regrown _ d os)
                  refine wp_region_quiet_below (by kernel_rfl) (by kernel_rfl) ?_
                  repeat ((with_reducible refine wpQuiet_step (fun K hK => ?_)); go_simp; (try (rw [if_neg]; rotate_left; · decide)); first | ((with_reducible refine hK _ ?_); clear hK K) | (apply Exists.intro; refine ⟨fun _ => ?_, hK _ ?_⟩; (fail); clear hK K))
                  refine wpQuiet_nil (fun w1 hw1 => ?_)
                  replace hbel := belStep hbel (bel_of_class hw1)
                  clear hw1 kk
                  go_wp2
                  go_roundw
                  case rel => exact ⟨m + 1, _, by omega, by push_cast; rfl, rfl, Lib.hid (by rw [HNX.out, Bool.or_false]), hbel⟩
                  case measure => simp [intOf] <;> omega
                | true =>
                  rw [he] at HNX
                  obtain ⟨⟨pc, yc, hlt2⟩, hfn⟩ := HMAY.out _ s HSK.out y (List.mem_of_getElem? HY.out) he
                  have HFN := Lib.hid hfn
                  have HOKY := Lib.hid (ok_snoc HOKS.out (HOK.out y (List.mem_of_getElem? HY.out)))
                  simp only [pc] at pp2
                  simp only [yc] at c2
                  have YC := Lib.hid yc
                  have hdl : decide (y.prio < p.prio) = true := decide_eq_true hlt2
                  clear hfn pc yc
                  have hSB : SL.length ≤ 1000 := by omega
                  go_upto_region 18 with fail
                  have kk := fun d os => belStep hbel (below_regrown _ d os)
                  refine wp_region_quiet_below (by kernel_rfl) (by kernel_rfl) ?_
                  repeat ((with_reducible refine wpQuiet_step (fun K hK => ?_)); go_simp; (try (rw [if_neg]; rotate_left; · decide)); first | ((with_reducible refine hK _ ?_); clear hK K) | (apply Exists.intro; refine ⟨fun _ => ?_, hK _ ?_⟩; (fail); clear hK K))
                  refine wpQuiet_nil (fun w1 hw1 => ?_)
                  replace hbel := belStep hbel (bel_of_class hw1)
                  clear hw1 kk
                  go_upto_region 19 with fail
                  clear he
                  have hbl := hbel
                  clear hbel
                  refine wp_region_held_drew (S := fun u => Below W3.heap.size W3 u) (by kernel_rfl) (by exact (show Below W3.heap.size W3 _ by repeat (first | assumption | exact Below.refl _ _ | refine belDrew ?_ | refine belAlloc ?_ _ | refine belStep ?_ (by assumption)))) (fun hHeld => ?_)
                  refine wpAnyH_take (i := 0) (oi := ?oi_kb8) (v := ?v_kb8) ?hi_kb8 (by kernel_rfl) ?hf_kb8 ?hr_kb8 ?hQ_kb8 (Or.inl ⟨?hw_kb8, ?hy_kb8⟩) (by assumption) ?rest_kb8
                  case hi_kb8 => ((simp only [List.getElem?_toArray, List.getElem?_cons_succ, List.getElem?_cons_zero]); rfl)
                  case hf_kb8 => kernel_rfl
                  case hr_kb8 => kernel_rfl
                  case hQ_kb8 => exact fun _ _ _ h => h
                  case hw_kb8 => rfl
                  case hy_kb8 => ((intro w hSw; (try dsimp only at hSw); go_simp); all_goals (with_reducible rfl))
                  try simp only [Act.put, List.setIfInBounds_toArray, List.set_cons_zero, List.set_cons_succ]
                  refine wpAnyH_take (i := 1) (oi := ?oi_kb9) (v := ?v_kb9) ?hi_kb9 (by kernel_rfl) ?hf_kb9 ?hr_kb9 ?hQ_kb9 (Or.inl ⟨?hw_kb9, ?hy_kb9⟩) (by assumption) ?rest_kb9
                  case hi_kb9 => ((simp only [List.getElem?_toArray, List.getElem?_cons_succ, List.getElem?_cons_zero]); rfl)
                  case hf_kb9 => kernel_rfl
                  case hr_kb9 => kernel_rfl
                  case hQ_kb9 => exact fun _ _ _ h => h
                  case hw_kb9 => rfl
                  case hy_kb9 => ((intro w hSw; (try dsimp only at hSw); go_simp); all_goals (with_reducible rfl))
                  try simp only [Act.put, List.setIfInBounds_toArray, List.set_cons_zero, List.set_cons_succ]
                  refine wpAnyH_take (i := 2) (oi := ?oi_kb10) (v := ?v_kb10) ?hi_kb10 (by kernel_rfl) ?hf_kb10 ?hr_kb10 ?hQ_kb10 (Or.inl ⟨?hw_kb10, ?hy_kb10⟩) (by assumption) ?rest_kb10
                  case hi_kb10 => ((simp only [List.getElem?_toArray, List.getElem?_cons_succ, List.getElem?_cons_zero]); rfl)
                  case hf_kb10 => kernel_rfl
                  case hr_kb10 => kernel_rfl
                  case hQ_kb10 => exact fun _ _ _ h => h
                  case hw_kb10 => rfl
                  case hy_kb10 => ((intro w hSw; (try dsimp only at hSw); go_simp); all_goals (with_reducible rfl))
                  try simp only [Act.put, List.setIfInBounds_toArray, List.set_cons_zero, List.set_cons_succ]
                  refine wpAnyH_take (i := 3) (oi := ?oi_kb11) (v := ?v_kb11) ?hi_kb11 (by kernel_rfl) ?hf_kb11 ?hr_kb11 ?hQ_kb11 (Or.inl ⟨?hw_kb11, ?hy_kb11⟩) (by assumption) ?rest_kb11
                  case hi_kb11 => ((simp only [List.getElem?_toArray, List.getElem?_cons_succ, List.getElem?_cons_zero]); rfl)
                  case hf_kb11 => kernel_rfl
                  case hr_kb11 => kernel_rfl
                  case hQ_kb11 => exact fun _ _ _ h => h
                  case hw_kb11 => rfl
                  case hy_kb11 => ((intro w hSw; (try dsimp only at hSw); go_simp); all_goals (with_reducible rfl))
                  try simp only [Act.put, List.setIfInBounds_toArray, List.set_cons_zero, List.set_cons_succ]
                  refine wpAnyH_take (i := 4) (oi := ?oi_kb12) (v := ?v_kb12) ?hi_kb12 (by kernel_rfl) ?hf_kb12 ?hr_kb12 ?hQ_kb12 (Or.inl ⟨?hw_kb12, ?hy_kb12⟩) (by assumption) ?rest_kb12
                  case hi_kb12 => ((simp only [List.getElem?_toArray, List.getElem?_cons_succ, List.getElem?_cons_zero]); rfl)
                  case hf_kb12 => kernel_rfl
                  case hr_kb12 => kernel_rfl
                  case hQ_kb12 => exact fun _ _ _ h => h
                  case hw_kb12 => rfl
                  case hy_kb12 => ((intro w hSw; (try dsimp only at hSw); go_simp); all_goals (with_reducible rfl))
                  try simp only [Act.put, List.setIfInBounds_toArray, List.set_cons_zero, List.set_cons_succ]
                  refine wpAnyH_take (i := 5) (oi := ?oi_kb13) (v := ?v_kb13) ?hi_kb13 (by kernel_rfl) ?hf_kb13 ?hr_kb13 ?hQ_kb13 (Or.inl ⟨?hw_kb13, ?hy_kb13⟩) (by assumption) ?rest_kb13
                  case hi_kb13 => ((simp only [List.getElem?_toArray, List.getElem?_cons_succ, List.getElem?_cons_zero]); rfl)
                  case hf_kb13 => kernel_rfl
                  case hr_kb13 => kernel_rfl
                  case hQ_kb13 => exact fun _ _ _ h => h
                  case hw_kb13 => rfl
                  case hy_kb13 => ((intro w hSw; (try dsimp only at hSw); go_simp); all_goals (with_reducible rfl))
                  try simp only [Act.put, List.setIfInBounds_toArray, List.set_cons_zero, List.set_cons_succ]
                  refine wpAnyH_take (i := 6) (oi := ?oi_kb14) (v := ?v_kb14) ?hi_kb14 (by kernel_rfl) ?hf_kb14 ?hr_kb14 ?hQ_kb14 (Or.inl ⟨?hw_kb14, ?hy_kb14⟩) (by assumption) ?rest_kb14
                  case hi_kb14 => ((simp only [List.getElem?_toArray, List.getElem?_cons_succ, List.getElem?_cons_zero]); rfl)
                  case hf_kb14 => kernel_rfl
                  case hr_kb14 => kernel_rfl
                  case hQ_kb14 => exact fun _ _ _ h => h
                  case hw_kb14 => rfl
                  case hy_kb14 => ((intro w hSw; (try dsimp only at hSw); go_simp); all_goals (with_reducible rfl))
                  try simp only [Act.put, List.setIfInBounds_toArray, List.set_cons_zero, List.set_cons_succ]
                  refine wpAnyH_take (i := 7) (oi := ?oi_kb15) (v := ?v_kb15) ?hi_kb15 (by kernel_rfl) ?hf_kb15 ?hr_kb15 ?hQ_kb15 (Or.inl ⟨?hw_kb15, ?hy_kb15⟩) (by assumption) ?rest_kb15
                  case hi_kb15 => ((simp only [List.getElem?_toArray, List.getElem?_cons_succ, List.getElem?_cons_zero]); rfl)
                  case hf_kb15 => kernel_rfl
                  case hr_kb15 => kernel_rfl
                  case hQ_kb15 => exact fun _ _ _ h => h
                  case hw_kb15 => rfl
                  case hy_kb15 => ((intro w hSw; (try dsimp only at hSw); go_simp); all_goals (with_reducible rfl))
                  try simp only [Act.put, List.setIfInBounds_toArray, List.set_cons_zero, List.set_cons_succ]
                  refine wpAnyH_take (i := 8) (oi := ?oi_kb16) (v := ?v_kb16) ?hi_kb16 (by kernel_rfl) ?hf_kb16 ?hr_kb16 ?hQ_kb16 (Or.inl ⟨?hw_kb16, ?hy_kb16⟩) (by assumption) ?rest_kb16
                  case hi_kb16 => ((simp only [List.getElem?_toArray, List.getElem?_cons_succ, List.getElem?_cons_zero]); rfl)
                  case hf_kb16 => kernel_rfl
                  case hr_kb16 => kernel_rfl
                  case hQ_kb16 => exact fun _ _ _ h => h
                  case hw_kb16 => rfl
                  case hy_kb16 => ((intro w hSw; (try dsimp only at hSw); go_simp); all_goals (with_reducible rfl))
                  try simp only [Act.put, List.setIfInBounds_toArray, List.set_cons_zero, List.set_cons_succ]
                  refine wpAnyH_take (i := 9) (oi := ?oi_kb17) (v := ?v_kb17) ?hi_kb17 (by kernel_rfl) ?hf_kb17 ?hr_kb17 ?hQ_kb17 (Or.inl ⟨?hw_kb17, ?hy_kb17⟩) (by assumption) ?rest_kb17
                  case hi_kb17 => ((simp only [List.getElem?_toArray, List.getElem?_cons_succ, List.getElem?_cons_zero]); rfl)
                  case hf_kb17 => kernel_rfl
                  case hr_kb17 => kernel_rfl
                  case hQ_kb17 => exact fun _ _ _ h => h
                  case hw_kb17 => rfl
                  case hy_kb17 => ((intro w hSw; (try dsimp only at hSw); go_simp); all_goals (with_reducible rfl))
                  try simp only [Act.put, List.setIfInBounds_toArray, List.set_cons_zero, List.set_cons_succ]
                  refine wpAnyH_take (i := 10) (oi := ?oi_kb18) (v := ?v_kb18) ?hi_kb18 (by kernel_rfl) ?hf_kb18 ?hr_kb18 ?hQ_kb18 (Or.inl ⟨?hw_kb18, ?hy_kb18⟩) (by assumption) ?rest_kb18
                  case hi_kb18 => ((simp only [List.getElem?_toArray, List.getElem?_cons_succ, List.getElem?_cons_zero]); rfl)
                  case hf_kb18 => kernel_rfl
                  case hr_kb18 => kernel_rfl
                  case hQ_kb18 => exact fun _ _ _ h => h
                  case hw_kb18 => rfl
                  case hy_kb18 => ((intro w hSw; (try dsimp only at hSw); go_simp); all_goals (with_reducible rfl))
                  try simp only [Act.put, List.setIfInBounds_toArray, List.set_cons_zero, List.set_cons_succ]
                  refine wpAnyH_take (i := 11) (oi := ?oi_kb19) (v := ?v_kb19) ?hi_kb19 (by kernel_rfl) ?hf_kb19 ?hr_kb19 ?hQ_kb19 (Or.inl ⟨?hw_kb19, ?hy_kb19⟩) (by assumption) ?rest_kb19
                  case hi_kb19 => ((simp only [List.getElem?_toArray, List.getElem?_cons_succ, List.getElem?_cons_zero]); rfl)
                  case hf_kb19 => kernel_rfl
                  case hr_kb19 => kernel_rfl
                  case hQ_kb19 => exact fun _ _ _ h => h
                  case hw_kb19 => rfl
                  case hy_kb19 => ((intro w hSw; (try dsimp only at hSw); go_simp); all_goals (with_reducible rfl))
                  try simp only [Act.put, List.setIfInBounds_toArray, List.set_cons_zero, List.set_cons_succ]
                  refine wpAnyH_take (i := 12) (oi := ?oi_kb20) (v := ?v_kb20) ?hi_kb20 (by kernel_rfl) ?hf_kb20 ?hr_kb20 ?hQ_kb20 (Or.inl ⟨?hw_kb20, ?hy_kb20⟩) (by assumption) ?rest_kb20
                  case hi_kb20 => ((simp only [List.getElem?_toArray, List.getElem?_cons_succ, List.getElem?_cons_zero]); rfl)
                  case hf_kb20 => kernel_rfl
                  case hr_kb20 => kernel_rfl
                  case hQ_kb20 => exact fun _ _ _ h => h
                  case hw_kb20 => rfl
                  case hy_kb20 => ((intro w hSw; (try dsimp only at hSw); go_simp); all_goals (with_reducible rfl))
                  try simp only [Act.put, List.setIfInBounds_toArray, List.set_cons_zero, List.set_cons_succ]
                  refine wpAnyH_take (i := 13) (oi := ?oi_kb21) (v := ?v_kb21) ?hi_kb21 (by kernel_rfl) ?hf_kb21 ?hr_kb21 ?hQ_kb21 (Or.inl ⟨?hw_kb21, ?hy_kb21⟩) (by assumption) ?rest_kb21
                  case hi_kb21 => ((simp only [List.getElem?_toArray, List.getElem?_cons_succ, List.getElem?_cons_zero]); rfl)
                  case hf_kb21 => kernel_rfl
                  case hr_kb21 => kernel_rfl
                  case hQ_kb21 => exact fun _ _ _ h => h
                  case hw_kb21 => rfl
                  case hy_kb21 => ((intro w hSw; (try dsimp only at hSw); go_simp); all_goals (with_reducible rfl))
                  try simp only [Act.put, List.setIfInBounds_toArray, List.set_cons_zero, List.set_cons_succ]
                  refine wpAnyH_take (i := 14) (oi := ?oi_kb22) (v := ?v_kb22) ?hi_kb22 (by kernel_rfl) ?hf_kb22 ?hr_kb22 ?hQ_kb22 (Or.inl ⟨?hw_kb22, ?hy_kb22⟩) (by assumption) ?rest_kb22
                  case hi_kb22 => ((simp only [List.getElem?_toArray, List.getElem?_cons_succ, List.getElem?_cons_zero]); rfl)
                  case hf_kb22 => kernel_rfl
                  case hr_kb22 => kernel_rfl
                  case hQ_kb22 => exact fun _ _ _ h => h
                  case hw_kb22 => rfl
                  case hy_kb22 => ((intro w hSw; (try dsimp only at hSw); go_simp); all_goals (with_reducible rfl))
                  try simp only [Act.put, List.setIfInBounds_toArray, List.set_cons_zero, List.set_cons_succ]
                  refine wpAnyH_take (i := 15) (oi := ?oi_kb23) (v := ?v_kb23) ?hi_kb23 (by kernel_rfl) ?hf_kb23 ?hr_kb23 ?hQ_kb23 (Or.inl ⟨?hw_kb23, ?hy_kb23⟩) (by assumption) ?rest_kb23
                  case hi_kb23 => ((simp only [List.getElem?_toArray, List.getElem?_cons_succ, List.getElem?_cons_zero]); rfl)
                  case hf_kb23 => kernel_rfl
                  case hr_kb23 => kernel_rfl
                  case hQ_kb23 => exact fun _ _ _ h => h
                  case hw_kb23 => rfl
                  case hy_kb23 => ((intro w hSw; (try dsimp only at hSw); go_simp); all_goals (with_reducible rfl))
                  try simp only [Act.put, List.setIfInBounds_toArray, List.set_cons_zero, List.set_cons_succ]
                  refine wpAnyH_take (i := 16) (oi := ?oi_kb24) (v := ?v_kb24) ?hi_kb24 (by kernel_rfl) ?hf_kb24 ?hr_kb24 ?hQ_kb24 (Or.inl ⟨?hw_kb24, ?hy_kb24⟩) (by assumption) ?rest_kb24
                  case hi_kb24 => ((simp only [List.getElem?_toArray, List.getElem?_cons_succ, List.getElem?_cons_zero]); rfl)
                  case hf_kb24 => kernel_rfl
                  case hr_kb24 => kernel_rfl
                  case hQ_kb24 => exact fun _ _ _ h => h
                  case hw_kb24 => rfl
                  case hy_kb24 => ((intro w hSw; (try dsimp only at hSw); go_simp); all_goals (with_reducible rfl))
                  try simp only [Act.put, List.setIfInBounds_toArray, List.set_cons_zero, List.set_cons_succ]
                  refine wpAnyH_take (i := 17) (oi := ?oi_kb25) (v := ?v_kb25) ?hi_kb25 (by kernel_rfl) ?hf_kb25 ?hr_kb25 ?hQ_kb25 (Or.inl ⟨?hw_kb25, ?hy_kb25⟩) (by assumption) ?rest_kb25
                  case hi_kb25 => ((simp only [List.getElem?_toArray, List.getElem?_cons_succ, List.getElem?_cons_zero]); rfl)
                  case hf_kb25 => kernel_rfl
                  case hr_kb25 => kernel_rfl
                  case hQ_kb25 => exact fun _ _ _ h => h
                  case hw_kb25 => rfl
                  case hy_kb25 => ((intro w hSw; (try dsimp only at hSw); go_simp); all_goals (with_reducible rfl))
                  try simp only [Act.put, List.setIfInBounds_toArray, List.set_cons_zero, List.set_cons_succ]
                  refine wpAnyH_take (i := 18) (oi := ?oi_kb26) (v := ?v_kb26) ?hi_kb26 (by kernel_rfl) ?hf_kb26 ?hr_kb26 ?hQ_kb26 (Or.inl ⟨?hw_kb26, ?hy_kb26⟩) (by assumption) ?rest_kb26
                  case hi_kb26 => ((simp only [List.getElem?_toArray, List.getElem?_cons_succ, List.getElem?_cons_zero]); rfl)
                  case hf_kb26 => kernel_rfl
                  case hr_kb26 => kernel_rfl
                  case hQ_kb26 => exact fun _ _ _ h => h
                  case hw_kb26 => rfl
                  case hy_kb26 => ((intro w hSw; (try dsimp only at hSw); go_simp); all_goals (with_reducible rfl))
                  try simp only [Act.put, List.setIfInBounds_toArray, List.set_cons_zero, List.set_cons_succ]
                  refine wpAnyH_take (i := 19) (oi := ?oi_kb27) (v := ?v_kb27) ?hi_kb27 (by kernel_rfl) ?hf_kb27 ?hr_kb27 ?hQ_kb27 (Or.inl ⟨?hw_kb27, ?hy_kb27⟩) (by assumption) ?rest_kb27
                  case hi_kb27 => ((simp only [List.getElem?_toArray, List.getElem?_cons_succ, List.getElem?_cons_zero]); rfl)
                  case hf_kb27 => kernel_rfl
                  case hr_kb27 => kernel_rfl
                  case hQ_kb27 => exact fun _ _ _ h => h
                  case hw_kb27 => rfl
                  case hy_kb27 => ((intro w hSw; (try dsimp only at hSw); go_simp); all_goals (with_reducible rfl))
                  try simp only [Act.put, List.setIfInBounds_toArray, List.set_cons_zero, List.set_cons_succ]
                  refine wpAnyH_take (i := 20) (oi := ?oi_kb28) (v := ?v_kb28) ?hi_kb28 (by kernel_rfl) ?hf_kb28 ?hr_kb28 ?hQ_kb28 (Or.inl ⟨?hw_kb28, ?hy_kb28⟩) (by assumption) ?rest_kb28
                  case hi_kb28 => ((simp only [List.getElem?_toArray, List.getElem?_cons_succ, List.getElem?_cons_zero]); rfl)
                  case hf_kb28 => kernel_rfl
                  case hr_kb28 => kernel_rfl
                  case hQ_kb28 => exact fun _ _ _ h => h
                  case hw_kb28 => rfl
                  case hy_kb28 => ((intro w hSw; (try dsimp only at hSw); go_simp); all_goals (with_reducible rfl))
                  try simp only [Act.put, List.setIfInBounds_toArray, List.set_cons_zero, List.set_cons_succ]
                  refine wpAnyH_take (i := 21) (oi := ?oi_kb29) (v := ?v_kb29) ?hi_kb29 (by kernel_rfl) ?hf_kb29 ?hr_kb29 ?hQ_kb29 (Or.inl ⟨?hw_kb29, ?hy_kb29⟩) (by assumption) ?rest_kb29
                  case hi_kb29 => ((simp only [List.getElem?_toArray, List.getElem?_cons_succ, List.getElem?_cons_zero]); rfl)
                  case hf_kb29 => kernel_rfl
                  case hr_kb29 => kernel_rfl
                  case hQ_kb29 => exact fun _ _ _ h => h
                  case hw_kb29 => rfl
                  case hy_kb29 => ((intro w hSw; (try dsimp only at hSw); go_simp); all_goals (with_reducible rfl))
                  try simp only [Act.put, List.setIfInBounds_toArray, List.set_cons_zero, List.set_cons_succ]
                  refine wpAnyH_take (i := 23) (oi := ?oi_kb30) (v := ?v_kb30) ?hi_kb30 (by kernel_rfl) ?hf_kb30 ?hr_kb30 ?hQ_kb30 (Or.inl ⟨?hw_kb30, ?hy_kb30⟩) (by assumption) ?rest_kb30
                  case hi_kb30 => ((simp only [List.getElem?_toArray, List.getElem?_cons_succ, List.getElem?_cons_zero]); rfl)
                  case hf_kb30 => kernel_rfl
                  case hr_kb30 => kernel_rfl
                  case hQ_kb30 => exact fun _ _ _ h => h
                  case hw_kb30 => rfl
                  case hy_kb30 => ((intro w hSw; (try dsimp only at hSw); go_simp); all_goals (with_reducible rfl))
                  try simp only [Act.put, List.setIfInBounds_toArray, List.set_cons_zero, List.set_cons_succ]
                  refine wpAnyH_take (i := 25) (oi := ?oi_kb31) (v := ?v_kb31) ?hi_kb31 (by kernel_rfl) ?hf_kb31 ?hr_kb31 ?hQ_kb31 (Or.inl ⟨?hw_kb31, ?hy_kb31⟩) (by assumption) ?rest_kb31
                  case hi_kb31 => ((simp only [List.getElem?_toArray, List.getElem?_cons_succ, List.getElem?_cons_zero]); rfl)
                  case hf_kb31 => kernel_rfl
                  case hr_kb31 => kernel_rfl
                  case hQ_kb31 => exact fun _ _ _ h => h
                  case hw_kb31 => rfl
                  case hy_kb31 => ((intro w hSw; (try dsimp only at hSw); go_simp); all_goals (with_reducible rfl))
                  try simp only [Act.put, List.setIfInBounds_toArray, List.set_cons_zero, List.set_cons_succ]
                  refine wpAnyH_take (i := 26) (oi := ?oi_kb32) (v := ?v_kb32) ?hi_kb32 (by kernel_rfl) ?hf_kb32 ?hr_kb32 ?hQ_kb32 (Or.inl ⟨?hw_kb32, ?hy_kb32⟩) (by assumption) ?rest_kb32
                  case hi_kb32 => ((simp only [List.getElem?_toArray, List.getElem?_cons_succ, List.getElem?_cons_zero]); rfl)
                  case hf_kb32 => kernel_rfl
                  case hr_kb32 => kernel_rfl
                  case hQ_kb32 => exact fun _ _ _ h => h
                  case hw_kb32 => rfl
                  case hy_kb32 => ((intro w hSw; (try dsimp only at hSw); go_simp); all_goals (with_reducible rfl))
                  try simp only [Act.put, List.setIfInBounds_toArray, List.set_cons_zero, List.set_cons_succ]
                  refine wpAnyH_take (i := 27) (oi := ?oi_kb33) (v := ?v_kb33) ?hi_kb33 (by kernel_rfl) ?hf_kb33 ?hr_kb33 ?hQ_kb33 (Or.inl ⟨?hw_kb33, ?hy_kb33⟩) (by assumption) ?rest_kb33
                  case hi_kb33 => ((simp only [List.getElem?_toArray, List.getElem?_cons_succ, List.getElem?_cons_zero]); rfl)
                  case hf_kb33 => kernel_rfl
                  case hr_kb33 => kernel_rfl
                  case hQ_kb33 => exact fun _ _ _ h => h
                  case hw_kb33 => rfl
                  case hy_kb33 => ((intro w hSw; (try dsimp only at hSw); go_simp); all_goals (with_reducible rfl))
                  try simp only [Act.put, List.setIfInBounds_toArray, List.set_cons_zero, List.set_cons_succ]
                  refine wpAnyH_take (i := 28) (oi := ?oi_kb34) (v := ?v_kb34) ?hi_kb34 (by kernel_rfl) ?hf_kb34 ?hr_kb34 ?hQ_kb34 (Or.inl ⟨?hw_kb34, ?hy_kb34⟩) (by assumption) ?rest_kb34
                  case hi_kb34 => ((simp only [List.getElem?_toArray, List.getElem?_cons_succ, List.getElem?_cons_zero]); rfl)
                  case hf_kb34 => kernel_rfl
                  case hr_kb34 => kernel_rfl
                  case hQ_kb34 => exact fun _ _ _ h => h
                  case hw_kb34 => rfl
                  case hy_kb34 => ((intro w hSw; (try dsimp only at hSw); go_simp); all_goals (with_reducible rfl))
                  try simp only [Act.put, List.setIfInBounds_toArray, List.set_cons_zero, List.set_cons_succ]
                  refine krip (fun u u' => Below u.heap.size u u') [114, 116, 121] [[], [], [], [], [], [], [], [], [], [], [], [], [], [], [], [], [], [], [], [], [], [], [], [], [22], [], [], [], [], [], [22, 24, 29], [22, 24, 29], [22, 24, 29], [22, 24, 29], [22, 24, 29]] [[], [], [], [], [], [], [], [], [], [], [], [], [], [], [], [], [], [], [], [], [], [], [114], [], [116], [], [], [], [], [121], [], [], [], [], []] [22, 24, 29] (krF [(22, fun t u => ∃ g : Nat, t 114 = .slice (some ⟨g, 0, none⟩) 0 0 ∧ OwnR u (W3.heap.size) 25 11 (.slice (some ⟨g, 0, none⟩) 0 0) 0 []), (24, fun t u => OwnR u (W3.heap.size) 25 11 (t 116) (SL.length) (SL.flatMap PodV.cells)), (29, fun t u => ∃ g : Nat, t 121 = .slice (some ⟨g, 0, none⟩) 1 1 ∧ Row u (some ⟨g, 0, none⟩) 1 1 11 ([.string y.id, .int .i64 y.prio, .bool false, .int .i64 y.r0, .int .i64 y.r1, .int .i64 y.r2, .int .i64 y.l0, .int .i64 y.l1, .int .i64 y.l2, .string y.img, .int .i64 y.size]))]) 5 #[true, true, true, true, true, true, true, true, true, true, true, true, true, true, true, true, true, true, true, true, true, true, true, true, true, true, true, true, true, true, false, false, false, false, false] (by kernel_rfl) (by kernel_rfl) (by kernel_rfl) (by assumption) (AllL.cons ?s_22_qb35 (AllL.cons ?s_24_qb35 (AllL.cons ?s_29_qb35 AllL.nil))) (AllL.cons ?o_22_qb35 (AllL.cons ?o_24_qb35 (AllL.cons ?o_29_qb35 AllL.nil))) ?e_qb35
                  case s_22_qb35 => exact fun t u u' hle ⟨g, e, h⟩ => ⟨g, e, OwnR.later h hle⟩
                  case s_24_qb35 => exact fun t u u' hle h => OwnR.later h hle
                  case s_29_qb35 => exact fun t u u' hle ⟨g, e, h⟩ => ⟨g, e, Row.later h hle⟩
                  case o_22_qb35 =>
                    refine KrOp.of (o := ?oo_22_qb35) ?hi_22_qb35 (fun t u hHeld hF K hK => ?rr_22_qb35)
                    case hi_22_qb35 => ((simp only [List.getElem?_toArray, List.getElem?_cons_succ, List.getElem?_cons_zero]); rfl)
                    case rr_22_qb35 =>
                      clear hF
                      simp only [setl, List.foldl_cons, List.foldl_nil, Act.put, List.setIfInBounds_toArray, List.set_cons_zero, List.set_cons_succ] at hK ⊢
                      go_simp
                      refine hK.out _ _ (by exact (by repeat (first | assumption | exact Below.refl _ _ | refine belDrew ?_ | refine belAlloc ?_ _ | refine belStep ?_ (by assumption)))) (by exact (show Below W3.heap.size W3 _ by repeat (first | assumption | exact Below.refl _ _ | refine belDrew ?_ | refine belAlloc ?_ _ | refine belStep ?_ (by assumption)))) ?_
                      exact ⟨_, rfl, OwnR.mono (own_empty _ _ 11) (Below.size hHeld)⟩
                  case o_24_qb35 =>
                    refine KrOp.of (o := ?oo_24_qb35) ?hi_24_qb35 (fun t u hHeld hF K hK => ?rr_24_qb35)
                    case hi_24_qb35 => ((simp only [List.getElem?_toArray, List.getElem?_cons_succ, List.getElem?_cons_zero]); rfl)
                    case rr_24_qb35 =>
                      have h22 : ∃ g : Nat, t 114 = .slice (some ⟨g, 0, none⟩) 0 0 ∧ OwnR u (W3.heap.size) 25 11 (.slice (some ⟨g, 0, none⟩) 0 0) 0 [] := hF 22 rfl rfl
                      clear hF
                      simp only [setl, List.foldl_cons, List.foldl_nil, Act.put, List.setIfInBounds_toArray, List.set_cons_zero, List.set_cons_succ] at hK ⊢
                      generalize t 114 = x114 at *
                      obtain ⟨g22, rfl, ho22⟩ := h22
                      refine op_firstG (by rfl) _ _ 23 rfl (W3.heap.size) 25 _ 11 104 Try.underlying23 info_pod rfl (by decide) g22 (by rfl) ho22 (ad5) (SL.length) (cap5) (SL.flatMap PodV.cells) (by rfl) (HSS.out _ hHeld) (pods_one _) (by have := hSB; unfold maxLen; omega) (by have := hSB; omega) (Below.size hHeld) ?_
                      intro v4 w4 ho4 hb4
                      refine hK.out _ _ (by exact (by repeat (first | assumption | exact Below.refl _ _ | refine belDrew ?_ | refine belAlloc ?_ _ | refine belStep ?_ (by assumption)))) (by exact (show Below W3.heap.size W3 _ by repeat (first | assumption | exact Below.refl _ _ | refine belDrew ?_ | refine belAlloc ?_ _ | refine belStep ?_ (by assumption)))) ?_
                      exact ho4
                  case o_29_qb35 =>
                    refine KrOp.of (o := ?oo_29_qb35) ?hi_29_qb35 (fun t u hHeld hF K hK => ?rr_29_qb35)
                    case hi_29_qb35 => ((simp only [List.getElem?_toArray, List.getElem?_cons_succ, List.getElem?_cons_zero]); rfl)
                    case rr_29_qb35 =>
                      clear hF
                      simp only [setl, List.foldl_cons, List.foldl_nil, Act.put, List.setIfInBounds_toArray, List.set_cons_zero, List.set_cons_succ] at hK ⊢
                      go_simp
                      refine hK.out _ _ (by exact (by repeat (first | assumption | exact Below.refl _ _ | refine belDrew ?_ | refine belAlloc ?_ _ | refine belStep ?_ (by assumption)))) (by exact (show Below W3.heap.size W3 _ by repeat (first | assumption | exact Below.refl _ _ | refine belDrew ?_ | refine belAlloc ?_ _ | refine belStep ?_ (by assumption)))) ?_
                      exact ⟨_, rfl, row_new _ ([.string y.id, .int .i64 y.prio, .bool false, .int .i64 y.r0, .int .i64 y.r1, .int .i64 y.r2, .int .i64 y.l0, .int .i64 y.l1, .int .i64 y.l2, .string y.img, .int .i64 y.size]) 25 1 11 rfl (by unfold maxLen; omega)⟩
                  case e_qb35 =>
                    intro t u hHeld hF
                    have h22 : ∃ g : Nat, t 114 = .slice (some ⟨g, 0, none⟩) 0 0 ∧ OwnR u (W3.heap.size) 25 11 (.slice (some ⟨g, 0, none⟩) 0 0) 0 [] := hF 22 rfl
                    have h24 : OwnR u (W3.heap.size) 25 11 (t 116) (SL.length) (SL.flatMap PodV.cells) := hF 24 rfl
                    have h29 : ∃ g : Nat, t 121 = .slice (some ⟨g, 0, none⟩) 1 1 ∧ Row u (some ⟨g, 0, none⟩) 1 1 11 ([.string y.id, .int .i64 y.prio, .bool false, .int .i64 y.r0, .int .i64 y.r1, .int .i64 y.r2, .int .i64 y.l0, .int .i64 y.l1, .int .i64 y.l2, .string y.img, .int .i64 y.size]) := hF 29 rfl
                    clear hF
                    simp only [setl, List.foldl_cons, List.foldl_nil, Act.put, List.setIfInBounds_toArray, List.set_cons_zero, List.set_cons_succ]
                    generalize t 114 = x114 at *
                    generalize t 116 = x116 at *
                    generalize t 121 = x121 at *
                    obtain ⟨g29, rfl, hr29⟩ := h29
                    obtain ⟨g22, rfl, ho22⟩ := h22
                    have HO24 := Lib.hid h24
                    clear h24
                    refine wpAnyH_ready (rs := [30]) (by kernel_rfl) (by simp) ?_
                    refine AllReadyH.cons (o := ?o1_tab3) ?hi_tab3 (fun K hK => ?rest_tab3) AllReadyH.nil
                    case hi_tab3 => ((simp only [List.getElem?_toArray, List.getElem?_cons_succ, List.getElem?_cons_zero]); rfl)
                    refine op_appG (by rfl) _ _ 23 rfl (W3.heap.size) 25 _ 11 104 Try.underlying23 info_pod rfl (by decide) _ (SL.length) _ (by rfl) HO24.out _ 1 1 ([.string y.id, .int .i64 y.prio, .bool false, .int .i64 y.r0, .int .i64 y.r1, .int .i64 y.r2, .int .i64 y.l0, .int .i64 y.l1, .int .i64 y.l2, .string y.img, .int .i64 y.size]) (by rfl) hr29 (fun u hu => pod_one y u (cells_false YC.out ▸ hu)) (by have := hSB; unfold maxLen; omega) (by have := hSB; omega) (Below.size hHeld) ?_
                    intro v9 u9 ho9 hb9
                    have hu9 : Below W3.heap.size W3 u9 := hHeld.trans hb9
                    refine hK.out _ _ (by exact hu9) (fun hHeld => ?_)
                    clear hK K hb9
                    try simp only [Act.put, List.setIfInBounds_toArray, List.set_cons_zero, List.set_cons_succ]
                    rw [cells_false YC.out] at ho9
                    have CF9 := Lib.hid (show Calls Try.prog 18 #[.agg #[.int .i64 R.a, .int .i64 R.b, .int .i64 R.c], v9] u9 fun e w' => e = .returned (.bool false) ∧ Below u9.heap.size u9 w' from by have h := fits_own R (SL ++ [y]) u9 (own_snoc ho9) HOKY.out; rw [show fitsB R (SL ++ [y]) = false from HFN.out] at h; exact h)
                    clear ho9
                    refine wpAnyH_ready (rs := [31]) (by kernel_rfl) (by simp) ?_
                    refine AllReadyH.cons (o := ?o1_kb4) ?hi_kb4 (fun K hK => ?rest_kb4) AllReadyH.nil
                    case hi_kb4 => ((simp only [List.getElem?_toArray, List.getElem?_cons_succ, List.getElem?_cons_zero]); rfl)
                    go_simp
                    (go_at_call 18; (with_reducible refine CF9.out.mono ?_); rintro e w10 ⟨rfl, hb10⟩)
                    try go_simp
                    refine hK.out _ _ (by exact (show Below W3.heap.size W3 _ by repeat (first | assumption | exact Below.refl _ _ | refine belDrew ?_ | refine belAlloc ?_ _ | refine belStep ?_ (by assumption)))) (fun hHeld => ?_)
                    clear hK K
                    try simp only [Act.put, List.setIfInBounds_toArray, List.set_cons_zero, List.set_cons_succ]
                    refine wpAnyH_take (i := 32) (oi := ?oi_kb5) (v := ?v_kb5) ?hi_kb5 (by kernel_rfl) ?hf_kb5 ?hr_kb5 ?hQ_kb5 (Or.inl ⟨?hw_kb5, ?hy_kb5⟩) (by assumption) ?rest_kb5
                    case hi_kb5 => ((simp only [List.getElem?_toArray, List.getElem?_cons_succ, List.getElem?_cons_zero]); rfl)
                    case hf_kb5 => kernel_rfl
                    case hr_kb5 => kernel_rfl
                    case hQ_kb5 => exact fun _ _ _ h => h
                    case hw_kb5 => rfl
                    case hy_kb5 => ((intro w hSw; (try dsimp only at hSw); go_simp); all_goals (with_reducible rfl))
                    try simp only [Act.put, List.setIfInBounds_toArray, List.set_cons_zero, List.set_cons_succ]
                    refine wpAnyH_take (i := 33) (oi := ?oi_kb6) (v := ?v_kb6) ?hi_kb6 (by kernel_rfl) ?hf_kb6 ?hr_kb6 ?hQ_kb6 (Or.inl ⟨?hw_kb6, ?hy_kb6⟩) (by assumption) ?rest_kb6
                    case hi_kb6 => ((simp only [List.getElem?_toArray, List.getElem?_cons_succ, List.getElem?_cons_zero]); rfl)
                    case hf_kb6 => kernel_rfl
                    case hr_kb6 => kernel_rfl
                    case hQ_kb6 => exact fun _ _ _ h => h
                    case hw_kb6 => rfl
                    case hy_kb6 => ((intro w hSw; (try dsimp only at hSw); go_simp); all_goals (with_reducible rfl))
                    try simp only [Act.put, List.setIfInBounds_toArray, List.set_cons_zero, List.set_cons_succ]
                    refine wpAnyH_take (i := 34) (oi := ?oi_kb7) (v := ?v_kb7) ?hi_kb7 (by kernel_rfl) ?hf_kb7 ?hr_kb7 ?hQ_kb7 (Or.inl ⟨?hw_kb7, ?hy_kb7⟩) (by assumption) ?rest_kb7
                    case hi_kb7 => ((simp only [List.getElem?_toArray, List.getElem?_cons_succ, List.getElem?_cons_zero]); rfl)
                    case hf_kb7 => kernel_rfl
                    case hr_kb7 => kernel_rfl
                    case hQ_kb7 => exact fun _ _ _ h => h
                    case hw_kb7 => rfl
                    case hy_kb7 => ((intro w hSw; (try dsimp only at hSw); go_simp); all_goals (with_reducible rfl))
                    try simp only [Act.put, List.setIfInBounds_toArray, List.set_cons_zero, List.set_cons_succ]
                    refine wpAnyH_done (by kernel_rfl) ?_ _
                    have hbel : Below W3.heap.size W3 w10 := hHeld
                    clear hHeld hu9
                    go_wp2
                    go_roundw
                    case rel => exact ⟨m + 1, _, by omega, by push_cast; rfl, rfl, Lib.hid (by rw [HNX.out, Bool.or_true]), hbel⟩
                    case measure => simp [intOf] <;> omega
              · obtain rfl : m = L.length := by omega
                rw [List.take_length, HM.out.any _ s HSK.out] at HE
                obtain rfl : true = D := HE.out
                have hd : decide ((L.length : Int) < (L.length : Int)) = false := decide_eq_false (by omega)
                go_wp2
                go_roundw
                case rel => exact ⟨k + 1 + 1, by omega, by push_cast; rfl, hbel⟩
                case measure => simp [intOf] <;> omega
        · obtain rfl : k = G.length := by omega
          have hd : decide ((G.length : Int) < (G.length : Int)) = false := decide_eq_false (by omega)
          go_wp2
          go_ret
          exact ⟨rfl, belStep hw hbel⟩

set_option maxRecDepth 100000 in
theorem lifted (os : Os) (started : os.Started) (H : Type) (enc : TypeId × Value → H) :
    ReturnsInHanded {} Try.checked os 5 .any (Rows.victimMinimalSpec.pre6 enc Try.prog Try.f5 Rows.victimMinimalRow.domain false) (Rows.victimMinimalSpec.post enc Try.prog Try.f5 false true false false) := by
  refine returnsInHanded_of_change (C := Try.checked) own started (by kernel_rfl) Try.func5
    (ChangeSpec.witness6 (enc := enc) (C := Try.checked) false ⟨#[], #[.agg #[.int .i64 0, .int .i64 0, .int .i64 0], .slice none 0 0, .agg #[.string ByteArray.empty, .int .i64 0, .bool false, .int .i64 0, .int .i64 0, .int .i64 0, .int .i64 0, .int .i64 0, .int .i64 0, .string ByteArray.empty, .int .i64 0]], []⟩ 8 (by kernel_rfl) (by kernel_rfl) (by kernel_rfl) (by kernel_rfl)) ?_
  intro W base args ds gs before hval0 hW hcnd _
  have hval : ∀ (j : Nat) t v, Try.f5.params[j]? = some t → args[j]? = some v → Value.okWide Try.prog W .any base t v := hval0
  have hW' := hW
  obtain ⟨p, q, hA0, hV, rfl, hfz, hnd⟩ := hW
  have hA : DataW.TrodAll enc Try.prog W 0 (fun _ => true) true Try.f5.params.toList args.toList ds p := hA0
  rw [Try.params5] at hA hval
  obtain ⟨v0, vs0, d0, ds0, p0, q0, hargs, rfl, rfl, h0, r0⟩ := trodAll_cons hA
  obtain ⟨v1, vs1, d1, ds1, p1, q1, rfl, rfl, rfl, h1, r1⟩ := trodAll_cons r0
  obtain ⟨v2, vs2, d2, ds2, p2, q2, rfl, rfl, rfl, h2, r2⟩ := trodAll_cons r1
  obtain ⟨rfl, rfl, rfl⟩ := trodAll_nil r2
  obtain rfl : args = #[v0, v1, v2] := by cases args; simp_all
  obtain ⟨rfl, rfl⟩ := trodVars_none hV
  have k0 := h0
  have lt0 : ∀ x ∈ p0, x.block < W.heap.size := by obtain ⟨m, hm⟩ := k0; exact DataW.trod_lt m _ _ _ hm
  have o0 : Value.okWide Try.prog W .any base 22 v0 := hval 0 22 v0 rfl rfl
  obtain ⟨R0, rfl, f0, g0, h0⟩ := open_room o0 h0
  have k1 := h1
  have lt1 : ∀ x ∈ p1, x.block < W.heap.size := by obtain ⟨m, hm⟩ := k1; exact DataW.trod_lt m _ _ _ hm
  have o1 : Value.okWide Try.prog W .any base 23 v1 := hval 1 23 v1 rfl rfl
  obtain ⟨a1, len1, cap1, L1, rfl, f1, g1, i1⟩ := open_pods o1 h1
  have k2 := h2
  have lt2 : ∀ x ∈ p2, x.block < W.heap.size := by obtain ⟨m, hm⟩ := k2; exact DataW.trod_lt m _ _ _ hm
  have o2 : Value.okWide Try.prog W .any base 25 v2 := hval 2 25 v2 rfl rfl
  obtain ⟨p2, rfl, f2⟩ := open_pod o2 h2
  clear hA0 hval0
  refine (walk R0 a1 len1 cap1 L1 p2 W f0 g0 h0 f1 g1 i1 f2).mono fun e W' ⟨he, bel⟩ => ?_
  subst he
  exact ⟨_, rfl, _, _, _, [], _, [], hW', trodAll_mk1 (shut_bool Try.underlying4 _), (trodAll_cons_mk (Below.trod laidOut (by kernel_rfl) (of_decide_eq_true (by kernel_rfl)) k0 bel lt0) (trodAll_cons_mk (Below.trod laidOut (by kernel_rfl) (of_decide_eq_true (by kernel_rfl)) k1 bel lt1) (trodAll_cons_mk (Below.trod laidOut (by kernel_rfl) (of_decide_eq_true (by kernel_rfl)) k2 bel lt2) trodAll_mk0))), rfl, bel.frame _, fun h => by cases h⟩

theorem over : Rows.victimMinimalRow.holds Try.pinned (OpenSpec.ofChange Rows.victimMinimalSpec) :=
  OpenClaim.holds_of_wide 5 Try.f5 rfl rfl rfl rfl rfl rfl rfl ⟨rfl, rfl, rfl, rfl, rfl⟩ rfl rfl rfl rfl rfl (by kernel_rfl) Try.func5 (by kernel_rfl)
    (of_decide_eq_true (by kernel_rfl)) (by unfold Func.isWrapper; first | (rw [if_pos (by decide +kernel)]; kernel_rfl) | (rw [if_neg (by decide +kernel)]; exact ⟨rfl, rfl⟩))
    (fun os started H enc _ => lifted os started H enc)

/-- The statement. -/
theorem proved : Rows.VictimMinimalSaid := over
#print axioms proved

end Go.Proofs.Ytnnmganjlhojfaa.victimMinimal
