/- VictimKeeps holds for every room, list of pods and pod. No conditions. -/
import Derived.Test.YtnnmganjlhojfaaVicRD
namespace Go.Proofs.Ytnnmganjlhojfaa.victimKeeps
open Go.ChangeShapes Go.WideShapes Go.ChangeAt Go.RowKit
open Go.ChangeMaps (open_string shut_string)
set_option linter.unusedVariables false
set_option linter.unusedSimpArgs false
theorem own_of_choose {w w' : World} {c : Option (List ByteArray)} {e : Ending} (h : ChooseR w c e w') : ∃ (v : Value) (ok : Bool) (n : Nat) (cs : List Value), e = .returned (.tuple #[v, .bool ok]) ∧ OwnR w' w.heap.size 9 1 v n cs := by
  rcases h with ⟨_, rfl⟩ | ⟨G, v, _, rfl, h⟩
  · exact ⟨_, _, _, _, rfl, OwnR.nil _ _ _ _⟩
  · exact ⟨_, _, _, _, rfl, h⟩

set_option maxRecDepth 100000 in
set_option maxHeartbeats 16000000 in
theorem walk (R : Room) (a : Option Addr) (len cap : Nat) (L : List PodV) (p : PodV) (w : World) (hra : InI R.a) (hrb : InI R.b) (hrc : InI R.c) (hl : L.length = len) (hok : ∀ x ∈ L, x.ok) (hR : Row w a len cap 11 (L.flatMap PodV.cells)) (hp : p.ok) :
    Calls Try.prog 11 #[.agg #[.int .i64 R.a, .int .i64 R.b, .int .i64 R.c], .slice a len cap, p.v] w fun e w' => e = .returned (.bool true) ∧ Below w.heap.size w w' := by
  unfold PodV.v
  have hw : Below w.heap.size w w := Below.refl _ _
  have hbel := hw
  have HR := Lib.hid hR
  have HOK := Lib.hid hok
  have HPO := Lib.hid hp
  have hbd : len ≤ cap ∧ cap ≤ 9223372036854775807 := by obtain ⟨_, h1, h2, _⟩ := hR; unfold maxLen at h2; exact ⟨h1, h2⟩
  obtain ⟨hbd1, hbd2⟩ := hbd
  obtain ⟨c, hc⟩ : ∃ c, chooseF R L p = c := ⟨_, rfl⟩
  have CF := Lib.hid (fun v (hv : Below w.heap.size w v) => vref_Fit R p a len cap L v hl hok (HR.out.later hv) hp)
  have CX := Lib.hid (fun (hf : FitOK R L p) v (hv : Below w.heap.size w v) => choose_call R p c a len cap L v hl hok (HR.out.later hv) hf.dist (by have := hf.len; omega) hp hc)
  have HC := Lib.hid hc
  subst hl
  clear hra hrb hrc hok hR hp hc
  go_enter Try.func11, Try.ntmps11
  go_upto_region 1 with fail
  have rm0 : ((w.alloc (.cells #[.int .i64 R.a, .int .i64 R.b, .int .i64 R.c] 22)).alloc (.cells #[.string p.id, .int .i64 p.prio, .bool p.crit, .int .i64 p.r0, .int .i64 p.r1, .int .i64 p.r2, .int .i64 p.l0, .int .i64 p.l1, .int .i64 p.l2, .string p.img, .int .i64 p.size] 25)).cell? ⟨w.heap.size, 0, none⟩ = some (.int .i64 R.a) := by first | (simp; done) | (rw [World.cell?_alloc_at _ _ _ _ (by simp)]; rfl) | (rw [World.cell?_alloc_past _ _ _ (by simp <;> omega), World.cell?_alloc_at _ _ _ _ (by simp)]; rfl) | (rw [World.cell?_alloc_past _ _ _ (by simp <;> omega), World.cell?_alloc_past _ _ _ (by simp <;> omega), World.cell?_alloc_at _ _ _ _ (by simp)]; rfl)
  have rm1 : ((w.alloc (.cells #[.int .i64 R.a, .int .i64 R.b, .int .i64 R.c] 22)).alloc (.cells #[.string p.id, .int .i64 p.prio, .bool p.crit, .int .i64 p.r0, .int .i64 p.r1, .int .i64 p.r2, .int .i64 p.l0, .int .i64 p.l1, .int .i64 p.l2, .string p.img, .int .i64 p.size] 25)).cell? ⟨w.heap.size, 1, none⟩ = some (.int .i64 R.b) := by first | (simp; done) | (rw [World.cell?_alloc_at _ _ _ _ (by simp)]; rfl) | (rw [World.cell?_alloc_past _ _ _ (by simp <;> omega), World.cell?_alloc_at _ _ _ _ (by simp)]; rfl) | (rw [World.cell?_alloc_past _ _ _ (by simp <;> omega), World.cell?_alloc_past _ _ _ (by simp <;> omega), World.cell?_alloc_at _ _ _ _ (by simp)]; rfl)
  have rm2 : ((w.alloc (.cells #[.int .i64 R.a, .int .i64 R.b, .int .i64 R.c] 22)).alloc (.cells #[.string p.id, .int .i64 p.prio, .bool p.crit, .int .i64 p.r0, .int .i64 p.r1, .int .i64 p.r2, .int .i64 p.l0, .int .i64 p.l1, .int .i64 p.l2, .string p.img, .int .i64 p.size] 25)).cell? ⟨w.heap.size, 2, none⟩ = some (.int .i64 R.c) := by first | (simp; done) | (rw [World.cell?_alloc_at _ _ _ _ (by simp)]; rfl) | (rw [World.cell?_alloc_past _ _ _ (by simp <;> omega), World.cell?_alloc_at _ _ _ _ (by simp)]; rfl) | (rw [World.cell?_alloc_past _ _ _ (by simp <;> omega), World.cell?_alloc_past _ _ _ (by simp <;> omega), World.cell?_alloc_at _ _ _ _ (by simp)]; rfl)
  have pp0 : ((w.alloc (.cells #[.int .i64 R.a, .int .i64 R.b, .int .i64 R.c] 22)).alloc (.cells #[.string p.id, .int .i64 p.prio, .bool p.crit, .int .i64 p.r0, .int .i64 p.r1, .int .i64 p.r2, .int .i64 p.l0, .int .i64 p.l1, .int .i64 p.l2, .string p.img, .int .i64 p.size] 25)).cell? ⟨w.heap.size + 1, 0, none⟩ = some (.string p.id) := by first | (simp; done) | (rw [World.cell?_alloc_at _ _ _ _ (by simp)]; rfl) | (rw [World.cell?_alloc_past _ _ _ (by simp <;> omega), World.cell?_alloc_at _ _ _ _ (by simp)]; rfl) | (rw [World.cell?_alloc_past _ _ _ (by simp <;> omega), World.cell?_alloc_past _ _ _ (by simp <;> omega), World.cell?_alloc_at _ _ _ _ (by simp)]; rfl)
  have pp1 : ((w.alloc (.cells #[.int .i64 R.a, .int .i64 R.b, .int .i64 R.c] 22)).alloc (.cells #[.string p.id, .int .i64 p.prio, .bool p.crit, .int .i64 p.r0, .int .i64 p.r1, .int .i64 p.r2, .int .i64 p.l0, .int .i64 p.l1, .int .i64 p.l2, .string p.img, .int .i64 p.size] 25)).cell? ⟨w.heap.size + 1, 1, none⟩ = some (.int .i64 p.prio) := by first | (simp; done) | (rw [World.cell?_alloc_at _ _ _ _ (by simp)]; rfl) | (rw [World.cell?_alloc_past _ _ _ (by simp <;> omega), World.cell?_alloc_at _ _ _ _ (by simp)]; rfl) | (rw [World.cell?_alloc_past _ _ _ (by simp <;> omega), World.cell?_alloc_past _ _ _ (by simp <;> omega), World.cell?_alloc_at _ _ _ _ (by simp)]; rfl)
  have pp2 : ((w.alloc (.cells #[.int .i64 R.a, .int .i64 R.b, .int .i64 R.c] 22)).alloc (.cells #[.string p.id, .int .i64 p.prio, .bool p.crit, .int .i64 p.r0, .int .i64 p.r1, .int .i64 p.r2, .int .i64 p.l0, .int .i64 p.l1, .int .i64 p.l2, .string p.img, .int .i64 p.size] 25)).cell? ⟨w.heap.size + 1, 2, none⟩ = some (.bool p.crit) := by first | (simp; done) | (rw [World.cell?_alloc_at _ _ _ _ (by simp)]; rfl) | (rw [World.cell?_alloc_past _ _ _ (by simp <;> omega), World.cell?_alloc_at _ _ _ _ (by simp)]; rfl) | (rw [World.cell?_alloc_past _ _ _ (by simp <;> omega), World.cell?_alloc_past _ _ _ (by simp <;> omega), World.cell?_alloc_at _ _ _ _ (by simp)]; rfl)
  have pp3 : ((w.alloc (.cells #[.int .i64 R.a, .int .i64 R.b, .int .i64 R.c] 22)).alloc (.cells #[.string p.id, .int .i64 p.prio, .bool p.crit, .int .i64 p.r0, .int .i64 p.r1, .int .i64 p.r2, .int .i64 p.l0, .int .i64 p.l1, .int .i64 p.l2, .string p.img, .int .i64 p.size] 25)).cell? ⟨w.heap.size + 1, 3, none⟩ = some (.int .i64 p.r0) := by first | (simp; done) | (rw [World.cell?_alloc_at _ _ _ _ (by simp)]; rfl) | (rw [World.cell?_alloc_past _ _ _ (by simp <;> omega), World.cell?_alloc_at _ _ _ _ (by simp)]; rfl) | (rw [World.cell?_alloc_past _ _ _ (by simp <;> omega), World.cell?_alloc_past _ _ _ (by simp <;> omega), World.cell?_alloc_at _ _ _ _ (by simp)]; rfl)
  have pp4 : ((w.alloc (.cells #[.int .i64 R.a, .int .i64 R.b, .int .i64 R.c] 22)).alloc (.cells #[.string p.id, .int .i64 p.prio, .bool p.crit, .int .i64 p.r0, .int .i64 p.r1, .int .i64 p.r2, .int .i64 p.l0, .int .i64 p.l1, .int .i64 p.l2, .string p.img, .int .i64 p.size] 25)).cell? ⟨w.heap.size + 1, 4, none⟩ = some (.int .i64 p.r1) := by first | (simp; done) | (rw [World.cell?_alloc_at _ _ _ _ (by simp)]; rfl) | (rw [World.cell?_alloc_past _ _ _ (by simp <;> omega), World.cell?_alloc_at _ _ _ _ (by simp)]; rfl) | (rw [World.cell?_alloc_past _ _ _ (by simp <;> omega), World.cell?_alloc_past _ _ _ (by simp <;> omega), World.cell?_alloc_at _ _ _ _ (by simp)]; rfl)
  have pp5 : ((w.alloc (.cells #[.int .i64 R.a, .int .i64 R.b, .int .i64 R.c] 22)).alloc (.cells #[.string p.id, .int .i64 p.prio, .bool p.crit, .int .i64 p.r0, .int .i64 p.r1, .int .i64 p.r2, .int .i64 p.l0, .int .i64 p.l1, .int .i64 p.l2, .string p.img, .int .i64 p.size] 25)).cell? ⟨w.heap.size + 1, 5, none⟩ = some (.int .i64 p.r2) := by first | (simp; done) | (rw [World.cell?_alloc_at _ _ _ _ (by simp)]; rfl) | (rw [World.cell?_alloc_past _ _ _ (by simp <;> omega), World.cell?_alloc_at _ _ _ _ (by simp)]; rfl) | (rw [World.cell?_alloc_past _ _ _ (by simp <;> omega), World.cell?_alloc_past _ _ _ (by simp <;> omega), World.cell?_alloc_at _ _ _ _ (by simp)]; rfl)
  have pp6 : ((w.alloc (.cells #[.int .i64 R.a, .int .i64 R.b, .int .i64 R.c] 22)).alloc (.cells #[.string p.id, .int .i64 p.prio, .bool p.crit, .int .i64 p.r0, .int .i64 p.r1, .int .i64 p.r2, .int .i64 p.l0, .int .i64 p.l1, .int .i64 p.l2, .string p.img, .int .i64 p.size] 25)).cell? ⟨w.heap.size + 1, 6, none⟩ = some (.int .i64 p.l0) := by first | (simp; done) | (rw [World.cell?_alloc_at _ _ _ _ (by simp)]; rfl) | (rw [World.cell?_alloc_past _ _ _ (by simp <;> omega), World.cell?_alloc_at _ _ _ _ (by simp)]; rfl) | (rw [World.cell?_alloc_past _ _ _ (by simp <;> omega), World.cell?_alloc_past _ _ _ (by simp <;> omega), World.cell?_alloc_at _ _ _ _ (by simp)]; rfl)
  have pp7 : ((w.alloc (.cells #[.int .i64 R.a, .int .i64 R.b, .int .i64 R.c] 22)).alloc (.cells #[.string p.id, .int .i64 p.prio, .bool p.crit, .int .i64 p.r0, .int .i64 p.r1, .int .i64 p.r2, .int .i64 p.l0, .int .i64 p.l1, .int .i64 p.l2, .string p.img, .int .i64 p.size] 25)).cell? ⟨w.heap.size + 1, 7, none⟩ = some (.int .i64 p.l1) := by first | (simp; done) | (rw [World.cell?_alloc_at _ _ _ _ (by simp)]; rfl) | (rw [World.cell?_alloc_past _ _ _ (by simp <;> omega), World.cell?_alloc_at _ _ _ _ (by simp)]; rfl) | (rw [World.cell?_alloc_past _ _ _ (by simp <;> omega), World.cell?_alloc_past _ _ _ (by simp <;> omega), World.cell?_alloc_at _ _ _ _ (by simp)]; rfl)
  have pp8 : ((w.alloc (.cells #[.int .i64 R.a, .int .i64 R.b, .int .i64 R.c] 22)).alloc (.cells #[.string p.id, .int .i64 p.prio, .bool p.crit, .int .i64 p.r0, .int .i64 p.r1, .int .i64 p.r2, .int .i64 p.l0, .int .i64 p.l1, .int .i64 p.l2, .string p.img, .int .i64 p.size] 25)).cell? ⟨w.heap.size + 1, 8, none⟩ = some (.int .i64 p.l2) := by first | (simp; done) | (rw [World.cell?_alloc_at _ _ _ _ (by simp)]; rfl) | (rw [World.cell?_alloc_past _ _ _ (by simp <;> omega), World.cell?_alloc_at _ _ _ _ (by simp)]; rfl) | (rw [World.cell?_alloc_past _ _ _ (by simp <;> omega), World.cell?_alloc_past _ _ _ (by simp <;> omega), World.cell?_alloc_at _ _ _ _ (by simp)]; rfl)
  have pp9 : ((w.alloc (.cells #[.int .i64 R.a, .int .i64 R.b, .int .i64 R.c] 22)).alloc (.cells #[.string p.id, .int .i64 p.prio, .bool p.crit, .int .i64 p.r0, .int .i64 p.r1, .int .i64 p.r2, .int .i64 p.l0, .int .i64 p.l1, .int .i64 p.l2, .string p.img, .int .i64 p.size] 25)).cell? ⟨w.heap.size + 1, 9, none⟩ = some (.string p.img) := by first | (simp; done) | (rw [World.cell?_alloc_at _ _ _ _ (by simp)]; rfl) | (rw [World.cell?_alloc_past _ _ _ (by simp <;> omega), World.cell?_alloc_at _ _ _ _ (by simp)]; rfl) | (rw [World.cell?_alloc_past _ _ _ (by simp <;> omega), World.cell?_alloc_past _ _ _ (by simp <;> omega), World.cell?_alloc_at _ _ _ _ (by simp)]; rfl)
  have pp10 : ((w.alloc (.cells #[.int .i64 R.a, .int .i64 R.b, .int .i64 R.c] 22)).alloc (.cells #[.string p.id, .int .i64 p.prio, .bool p.crit, .int .i64 p.r0, .int .i64 p.r1, .int .i64 p.r2, .int .i64 p.l0, .int .i64 p.l1, .int .i64 p.l2, .string p.img, .int .i64 p.size] 25)).cell? ⟨w.heap.size + 1, 10, none⟩ = some (.int .i64 p.size) := by first | (simp; done) | (rw [World.cell?_alloc_at _ _ _ _ (by simp)]; rfl) | (rw [World.cell?_alloc_past _ _ _ (by simp <;> omega), World.cell?_alloc_at _ _ _ _ (by simp)]; rfl) | (rw [World.cell?_alloc_past _ _ _ (by simp <;> omega), World.cell?_alloc_past _ _ _ (by simp <;> omega), World.cell?_alloc_at _ _ _ _ (by simp)]; rfl)
  have hb2 := (by repeat (first | exact hbel | refine belAlloc ?_ _ | refine belDrew ?_ | refine belSet ?_ _ _ (by simp)) : Below w.heap.size w ((w.alloc (.cells #[.int .i64 R.a, .int .i64 R.b, .int .i64 R.c] 22)).alloc (.cells #[.string p.id, .int .i64 p.prio, .bool p.crit, .int .i64 p.r0, .int .i64 p.r1, .int .i64 p.r2, .int .i64 p.l0, .int .i64 p.l1, .int .i64 p.l2, .string p.img, .int .i64 p.size] 25)))
  replace hw := belStep hw hb2
  clear hb2 hbel
  generalize (w.alloc (.cells #[.int .i64 R.a, .int .i64 R.b, .int .i64 R.c] 22)).alloc (.cells #[.string p.id, .int .i64 p.prio, .bool p.crit, .int .i64 p.r0, .int .i64 p.r1, .int .i64 p.r2, .int .i64 p.l0, .int .i64 p.l1, .int .i64 p.l2, .string p.img, .int .i64 p.size] 25) = W1 at *
  replace rm0 := keep rm0
  replace rm1 := keep rm1
  replace rm2 := keep rm2
  replace pp0 := keep pp0
  replace pp1 := keep pp1
  replace pp2 := keep pp2
  replace pp3 := keep pp3
  replace pp4 := keep pp4
  replace pp5 := keep pp5
  replace pp6 := keep pp6
  replace pp7 := keep pp7
  replace pp8 := keep pp8
  replace pp9 := keep pp9
  replace pp10 := keep pp10
  have hbel : Below W1.heap.size W1 W1 := Below.refl _ _
  skip
  go_upto_region 3 with (first | (go_at_call 12; (with_reducible refine (awake21 _).mono ?_); rintro e w1 ⟨rfl, hb1⟩; replace hbel := belStep hbel hb1; clear hb1) | (go_at_call 13; (with_reducible refine (CF.out _ (belStep hw hbel)).mono ?_); rintro e w3 ⟨⟨b, rfl, hfit⟩, hb3⟩; replace hbel := belStep hbel hb3; clear hb3; have HF := Lib.hid hfit; clear hfit; rcases b with _ | _))
  · go_ret
    exact ⟨rfl, belStep hw hbel⟩
  replace HF := Lib.hid (HF.out (by trivial))
  clear CF
  have hlen : L.length ≤ 64 := HF.out.len
  replace rm0 := keepOnP rm0 hbel
  replace rm1 := keepOnP rm1 hbel
  replace rm2 := keepOnP rm2 hbel
  replace pp0 := keepOnP pp0 hbel
  replace pp1 := keepOnP pp1 hbel
  replace pp2 := keepOnP pp2 hbel
  replace pp3 := keepOnP pp3 hbel
  replace pp4 := keepOnP pp4 hbel
  replace pp5 := keepOnP pp5 hbel
  replace pp6 := keepOnP pp6 hbel
  replace pp7 := keepOnP pp7 hbel
  replace pp8 := keepOnP pp8 hbel
  replace pp9 := keepOnP pp9 hbel
  replace pp10 := keepOnP pp10 hbel
  replace hw := belStep hw hbel
  clear hbel
  generalize w3 = W2 at *
  have hbel : Below W2.heap.size W2 W2 := Below.refl _ _
  have HRL := Lib.hid (fun u (hu : Below W2.heap.size W2 u) => HR.out.later (belStep hw hu))
  have HE := Lib.hid (own_empty W2 25 11)
  have HRE := Lib.hid (HRL.out _ (belAlloc (Below.refl _ _) (.cells #[] 25)))
  go_upto_region 4 with (at_builtin; refine wpList_app_row rfl _ _ 23 rfl W2.heap.size 25 _ 11 104 Try.underlying23 info_pod rfl (by decide) _ 0 [] rfl HE.out a L.length cap (L.flatMap PodV.cells) rfl HRE.out (pods_one _) ?c1 ?c2 ?c3 ?_)
  case c1 => simp only [maxLen]; omega
  case c2 => omega
  case c3 => simp
  intro v7 w7 ho7 hb7 _
  have hbel7 : Below W2.heap.size W2 w7 := (belAlloc (Below.refl _ _) _).trans hb7
  obtain ⟨a7, c7, e7, hr7⟩ := rowR_of_own ho7
  subst e7
  clear ho7 hb7 HE HRE
  go_upto_region 4 with fail
  replace hbel := hbel7
  clear hbel7
  have HR7 := Lib.hid hr7
  clear hr7
  replace rm0 := keepOnP rm0 hbel
  replace rm1 := keepOnP rm1 hbel
  replace rm2 := keepOnP rm2 hbel
  replace pp0 := keepOnP pp0 hbel
  replace pp1 := keepOnP pp1 hbel
  replace pp2 := keepOnP pp2 hbel
  replace pp3 := keepOnP pp3 hbel
  replace pp4 := keepOnP pp4 hbel
  replace pp5 := keepOnP pp5 hbel
  replace pp6 := keepOnP pp6 hbel
  replace pp7 := keepOnP pp7 hbel
  replace pp8 := keepOnP pp8 hbel
  replace pp9 := keepOnP pp9 hbel
  replace pp10 := keepOnP pp10 hbel
  replace hw := belStep hw hbel
  clear hbel
  generalize w7 = W3 at *
  have hbel : Below W3.heap.size W3 W3 := Below.refl _ _
  have hb7 : L.length ≤ c7 ∧ c7 ≤ 9223372036854775807 := by obtain ⟨_, h1, h2, _⟩ := HR7.out; unfold maxLen at h2; exact ⟨h1, h2⟩
  obtain ⟨hb71, hb72⟩ := hb7
  have HRM := Lib.hid (fun u (hu : Below W3.heap.size W3 u) => HR.out.later (belStep hw hu))
  have HRO := Lib.hid (fun u (hu : Below W3.heap.size W3 u) => HR7.out.later hu)
  have CX1 := Lib.hid (fun u (hu : Below W3.heap.size W3 u) => vic_Choose R p a7 L.length c7 L u rfl HOK.out (HRO.out u hu) HF.out.dist (by omega) HPO.out)
  have CFT := Lib.hid (fun u (hu : Below W3.heap.size W3 u) => vic_Fits R a7 L.length c7 L u rfl HOK.out (HRO.out u hu))
  go_upto_region 5 with (go_at_call 16; (with_reducible refine (CX1.out _ hbel).mono ?_); rintro e w8 ⟨hch, hb8⟩; have HCH := Lib.hid (own_of_choose hch); clear hch; obtain ⟨v8, ok8, n8, cs8, rfl, ho8⟩ := HCH.out)
  clear HCH
  have HO8 := Lib.hid (OwnR.mono ho8 (Below.size hbel))
  replace hbel := belStep hbel hb8
  clear ho8 hb8
  go_wp2_with (go_at_call 18; (with_reducible refine (CFT.out _ hbel).mono ?_); rintro e w9 ⟨rfl, hb9⟩; replace hbel := belStep hbel hb9; replace HO8 := Lib.hid (HO8.out.later hb9); clear hb9)
  have HB0 := Lib.hid hbel
  have HO9 := Lib.hid HO8.out
  clear hbel HO8
  go_loopw [10] (fun i wr => ∃ k : Nat, k ≤ L.length ∧ i = .int .i64 k ∧ OwnR wr W3.heap.size 9 1 v8 n8 cs8 ∧ Below W3.heap.size W3 wr) (fun i _ => L.length - (intOf i).toNat)
  case atStart => exact ⟨0, Nat.zero_le _, rfl, HO9.out, HB0.out⟩
  case round =>
    obtain ⟨k, hk, rfl, hO, hbel⟩ := hrel
    clear HB0 HO9
    have HO := Lib.hid hO
    have HBW := Lib.hid hbel
    clear hO
    generalize wr = WR at *
    by_cases hlt : k < L.length
    · obtain ⟨x, hx⟩ : ∃ x, L[k]? = some x := ⟨L[k], List.getElem?_eq_getElem hlt⟩
      obtain ⟨b, off, rfl, _, hcc⟩ := (HRM.out _ (Below.refl _ _)).elem PodV.cells_len (by omega) hx
      have c0 := keep (hcc 0 _ rfl)
      have c1 := keep (hcc 1 _ rfl)
      have c2 := keep (hcc 2 _ rfl)
      have c3 := keep (hcc 3 _ rfl)
      have c4 := keep (hcc 4 _ rfl)
      have c5 := keep (hcc 5 _ rfl)
      have c6 := keep (hcc 6 _ rfl)
      have c7 := keep (hcc 7 _ rfl)
      have c8 := keep (hcc 8 _ rfl)
      have c9 := keep (hcc 9 _ rfl)
      have c10 := keep (hcc 10 _ rfl)
      rw [Nat.add_zero] at c0
      obtain ⟨b2, off2, e2, _, hcd⟩ := (HRO.out _ (Below.refl _ _)).elem PodV.cells_len (by omega) hx
      subst e2
      have d0 := keep (hcd 0 _ rfl)
      have d1 := keep (hcd 1 _ rfl)
      have d2 := keep (hcd 2 _ rfl)
      have d3 := keep (hcd 3 _ rfl)
      have d4 := keep (hcd 4 _ rfl)
      have d5 := keep (hcd 5 _ rfl)
      have d6 := keep (hcd 6 _ rfl)
      have d7 := keep (hcd 7 _ rfl)
      have d8 := keep (hcd 8 _ rfl)
      have d9 := keep (hcd 9 _ rfl)
      have d10 := keep (hcd 10 _ rfl)
      rw [Nat.add_zero] at d0
      have hd : decide ((k : Int) < (L.length : Int)) = true := decide_eq_true (by omega)
      clear hx hcc hcd
      go_upto_region 9 with fail
      clear hbel
      replace c0 := keepOnP c0 HBW.out
      replace c1 := keepOnP c1 HBW.out
      replace c2 := keepOnP c2 HBW.out
      replace c3 := keepOnP c3 HBW.out
      replace c4 := keepOnP c4 HBW.out
      replace c5 := keepOnP c5 HBW.out
      replace c6 := keepOnP c6 HBW.out
      replace c7 := keepOnP c7 HBW.out
      replace c8 := keepOnP c8 HBW.out
      replace c9 := keepOnP c9 HBW.out
      replace c10 := keepOnP c10 HBW.out
      replace d0 := keepOnP d0 HBW.out
      replace d1 := keepOnP d1 HBW.out
      replace d2 := keepOnP d2 HBW.out
      replace d3 := keepOnP d3 HBW.out
      replace d4 := keepOnP d4 HBW.out
      replace d5 := keepOnP d5 HBW.out
      replace d6 := keepOnP d6 HBW.out
      replace d7 := keepOnP d7 HBW.out
      replace d8 := keepOnP d8 HBW.out
      replace d9 := keepOnP d9 HBW.out
      replace d10 := keepOnP d10 HBW.out
      have hbel : Below WR.heap.size WR WR := Below.refl _ _
      have heq := fun u => eq_pod_same x u
      have kk := fun d os => belStep hbel (below_regrown _ d os)
      refine wp_region_quiet_below (by kernel_rfl) (by kernel_rfl) ?_
      repeat ((with_reducible refine wpQuiet_step (fun K hK => ?_)); go_simp; (try (rw [if_neg]; rotate_left; · decide)); first | ((with_reducible refine hK _ ?_); clear hK K) | (apply Exists.intro; refine ⟨fun _ => ?_, hK _ ?_⟩; (fail); clear hK K))
      refine wpQuiet_nil (fun w1 hw1 => ?_)
      replace hbel := belStep hbel (bel_of_class hw1)
      clear hw1 kk
      go_wp2
      go_roundw
      case rel => exact ⟨k + 1, by omega, by push_cast; rfl, HO.out.later hbel, belStep HBW.out hbel⟩
      case measure => simp [intOf] <;> omega
    · obtain rfl : k = L.length := by omega
      have hd : decide ((L.length : Int) < (L.length : Int)) = false := decide_eq_false (by omega)
      go_wp2
      clear hbel
      rcases own_shape HO.out with ⟨rfl, rfl⟩ | ⟨g, cp, rfl, hg1, hg2, hcp1, hcp2⟩
      · go_loopw [11] (fun i wr => i = .int .i64 0 ∧ Below W3.heap.size W3 wr) (fun i _ => 0)
        case atStart => exact ⟨rfl, HBW.out⟩
        case round =>
          obtain ⟨rfl, hbel⟩ := hrel
          clear HBW HO
          have CY := Lib.hid (fun u (hu : Below W3.heap.size W3 u) => choose_call R p c a7 L.length c7 L u rfl HOK.out (HRO.out u hu) HF.out.dist (by omega) HPO.out HC.out)
          have CZ := Lib.hid (fun u (hu : Below W3.heap.size W3 u) => rchoose_call R p c a L.length cap L u rfl HOK.out (HRM.out u hu) HF.out.dist (by omega) HPO.out HC.out)
          obtain ⟨ok, hok⟩ : ∃ o, c.isSome = o := ⟨_, rfl⟩
          obtain ⟨G, hG⟩ : ∃ q, c.getD [] = q := ⟨_, rfl⟩
          rw [hok, hG] at CY CZ
          clear hok hG HC CX
          go_upto_region 17 with (first | (go_at_call 16; (with_reducible refine (CY.out _ hbel).mono ?_); rintro e w4 ⟨⟨bx, nx, rfl, hrx⟩, hb4⟩; replace hbel := belStep hbel hb4; have HX := Lib.hid hrx; clear hrx hb4) | (go_at_call 17; (with_reducible refine (CZ.out _ hbel).mono ?_); rintro e w5 ⟨⟨bq, nq, rfl, hrq⟩, hb5⟩; replace hbel := belStep hbel hb5; have HY := Lib.hid hrq; replace HX := Lib.hid (HX.out.later hb5); clear hrq hb5))
          have CS := Lib.hid (same_texts bx bq G.length nx nq G _ rfl HX.out HY.out)
          go_wp2_with (go_at_call 20; (with_reducible refine CS.out.mono ?_); rintro e w6 ⟨rfl, hb6⟩; replace hbel := belStep hbel hb6; clear hb6)
          go_ret
          exact ⟨rfl, belStep hw hbel⟩
      · go_loopw [11] (fun i wr => ∃ (m : Nat) (cs : List Value), m ≤ n8 ∧ i = .int .i64 m ∧ OwnR wr W3.heap.size 9 1 (.slice (some ⟨g, 0, none⟩) n8 cp) n8 cs ∧ Below W3.heap.size W3 wr) (fun i _ => n8 - (intOf i).toNat)
        case atStart => exact ⟨0, _, Nat.zero_le _, rfl, HO.out, HBW.out⟩
        case round =>
          obtain ⟨m, cs, hm, rfl, hQ, hbel⟩ := hrel
          clear HBW HO
          by_cases hmt : m < n8
          · have hd : decide ((m : Int) < (n8 : Int)) = true := decide_eq_true (by omega)
            obtain ⟨⟨u0, hu0⟩, hfr⟩ := owns_at hQ hmt
            have HQ := Lib.hid (owns_set hQ m (.string ⟨#[63]⟩))
            have hgb : W3.heap.size ≤ g := hg1
            have HBS := Lib.hid (belSet hbel ⟨g, m, none⟩ (.string ⟨#[63]⟩) hg1)
            clear hQ
            go_wp2
            go_roundw
            case rel => exact ⟨m + 1, _, by omega, by push_cast; rfl, HQ.out, HBS.out⟩
            case measure => simp [intOf] <;> omega
          · obtain rfl : m = n8 := by omega
            have hd : decide ((m : Int) < (m : Int)) = false := decide_eq_false (by omega)
            clear hQ
            have CY := Lib.hid (fun u (hu : Below W3.heap.size W3 u) => choose_call R p c a7 L.length c7 L u rfl HOK.out (HRO.out u hu) HF.out.dist (by omega) HPO.out HC.out)
            have CZ := Lib.hid (fun u (hu : Below W3.heap.size W3 u) => rchoose_call R p c a L.length cap L u rfl HOK.out (HRM.out u hu) HF.out.dist (by omega) HPO.out HC.out)
            obtain ⟨ok, hok⟩ : ∃ o, c.isSome = o := ⟨_, rfl⟩
            obtain ⟨G, hG⟩ : ∃ q, c.getD [] = q := ⟨_, rfl⟩
            rw [hok, hG] at CY CZ
            clear hok hG HC CX
            go_upto_region 17 with (first | (go_at_call 16; (with_reducible refine (CY.out _ hbel).mono ?_); rintro e w4 ⟨⟨bx, nx, rfl, hrx⟩, hb4⟩; replace hbel := belStep hbel hb4; have HX := Lib.hid hrx; clear hrx hb4) | (go_at_call 17; (with_reducible refine (CZ.out _ hbel).mono ?_); rintro e w5 ⟨⟨bq, nq, rfl, hrq⟩, hb5⟩; replace hbel := belStep hbel hb5; have HY := Lib.hid hrq; replace HX := Lib.hid (HX.out.later hb5); clear hrq hb5))
            have CS := Lib.hid (same_texts bx bq G.length nx nq G _ rfl HX.out HY.out)
            go_wp2_with (go_at_call 20; (with_reducible refine CS.out.mono ?_); rintro e w6 ⟨rfl, hb6⟩; replace hbel := belStep hbel hb6; clear hb6)
            go_ret
            exact ⟨rfl, belStep hw hbel⟩

set_option maxRecDepth 100000 in
theorem lifted (os : Os) (started : os.Started) (H : Type) (enc : TypeId × Value → H) :
    ReturnsInHanded {} Try.checked os 11 .any (Rows.victimKeepsSpec.pre6 enc Try.prog Try.f11 Rows.victimKeepsRow.domain false) (Rows.victimKeepsSpec.post enc Try.prog Try.f11 false true false false) := by
  refine returnsInHanded_of_change (C := Try.checked) own started (by kernel_rfl) Try.func11
    (ChangeSpec.witness6 (enc := enc) (C := Try.checked) false ⟨#[], #[.agg #[.int .i64 0, .int .i64 0, .int .i64 0], .slice none 0 0, .agg #[.string ByteArray.empty, .int .i64 0, .bool false, .int .i64 0, .int .i64 0, .int .i64 0, .int .i64 0, .int .i64 0, .int .i64 0, .string ByteArray.empty, .int .i64 0]], []⟩ 8 (by kernel_rfl) (by kernel_rfl) (by kernel_rfl) (by kernel_rfl)) ?_
  intro W base args ds gs before hval0 hW hcnd _
  have hval : ∀ (j : Nat) t v, Try.f11.params[j]? = some t → args[j]? = some v → Value.okWide Try.prog W .any base t v := hval0
  have hW' := hW
  obtain ⟨p, q, hA0, hV, rfl, hfz, hnd⟩ := hW
  have hA : DataW.TrodAll enc Try.prog W 0 (fun _ => true) true Try.f11.params.toList args.toList ds p := hA0
  rw [Try.params11] at hA hval
  obtain ⟨v0, vs0, d0, ds0, p0, q0, hargs, rfl, rfl, h0, r0⟩ := trodAll_cons hA
  obtain ⟨v1, vs1, d1, ds1, p1, q1, rfl, rfl, rfl, h1, r1⟩ := trodAll_cons r0
  obtain ⟨v2, vs2, d2, ds2, p2, q2, rfl, rfl, rfl, h2, r2⟩ := trodAll_cons r1
  obtain ⟨rfl, rfl, rfl⟩ := trodAll_nil r2
  obtain rfl : args = #[v0, v1, v2] := by cases args; simp_all
  obtain ⟨rfl, rfl⟩ := trodVars_none hV
  have k0 := h0
  have lt0 : ∀ x ∈ p0, x.block < W.heap.size := by obtain ⟨m, hm⟩ := k0; exact DataW.trod_lt m _ _ _ hm
  have o0 : Value.okWide Try.prog W .any base 22 v0 := hval 0 22 v0 rfl rfl
  obtain ⟨R0, rfl, f0, g0, h0⟩ := open_room o0 h0
  have k1 := h1
  have lt1 : ∀ x ∈ p1, x.block < W.heap.size := by obtain ⟨m, hm⟩ := k1; exact DataW.trod_lt m _ _ _ hm
  have o1 : Value.okWide Try.prog W .any base 23 v1 := hval 1 23 v1 rfl rfl
  obtain ⟨a1, len1, cap1, L1, rfl, f1, g1, i1⟩ := open_pods o1 h1
  have k2 := h2
  have lt2 : ∀ x ∈ p2, x.block < W.heap.size := by obtain ⟨m, hm⟩ := k2; exact DataW.trod_lt m _ _ _ hm
  have o2 : Value.okWide Try.prog W .any base 25 v2 := hval 2 25 v2 rfl rfl
  obtain ⟨p2, rfl, f2⟩ := open_pod o2 h2
  clear hA0 hval0
  refine (walk R0 a1 len1 cap1 L1 p2 W f0 g0 h0 f1 g1 i1 f2).mono fun e W' ⟨he, bel⟩ => ?_
  subst he
  exact ⟨_, rfl, _, _, _, [], _, [], hW', trodAll_mk1 (shut_bool Try.underlying4 _), (trodAll_cons_mk (Below.trod laidOut (by kernel_rfl) (of_decide_eq_true (by kernel_rfl)) k0 bel lt0) (trodAll_cons_mk (Below.trod laidOut (by kernel_rfl) (of_decide_eq_true (by kernel_rfl)) k1 bel lt1) (trodAll_cons_mk (Below.trod laidOut (by kernel_rfl) (of_decide_eq_true (by kernel_rfl)) k2 bel lt2) trodAll_mk0))), rfl, bel.frame _, fun h => by cases h⟩

theorem over : Rows.victimKeepsRow.holds Try.pinned (OpenSpec.ofChange Rows.victimKeepsSpec) :=
  OpenClaim.holds_of_wide 11 Try.f11 rfl rfl rfl rfl rfl rfl rfl ⟨rfl, rfl, rfl, rfl, rfl⟩ rfl rfl rfl rfl rfl (by kernel_rfl) Try.func11 (by kernel_rfl)
    (of_decide_eq_true (by kernel_rfl)) (by unfold Func.isWrapper; first | (rw [if_pos (by decide +kernel)]; kernel_rfl) | (rw [if_neg (by decide +kernel)]; exact ⟨rfl, rfl⟩))
    (fun os started H enc _ => lifted os started H enc)

/-- The statement. -/
theorem proved : Rows.VictimKeepsSaid := over
#print axioms proved

end Go.Proofs.Ytnnmganjlhojfaa.victimKeeps
