/- VictimExact holds for every room, list of pods and pod. No conditions. -/
import Derived.Test.YtnnmganjlhojfaaVicX
namespace Go.Proofs.Ytnnmganjlhojfaa.victimExact
open Go.ChangeShapes Go.WideShapes Go.ChangeAt Go.RowKit
open Go.ChangeMaps (open_string shut_string)
set_option linter.unusedVariables false
set_option linter.unusedSimpArgs false

set_option maxRecDepth 100000 in
set_option maxHeartbeats 16000000 in
theorem walk (R : Room) (a : Option Addr) (len cap : Nat) (L : List PodV) (p : PodV) (w : World) (hra : InI R.a) (hrb : InI R.b) (hrc : InI R.c) (hl : L.length = len) (hok : ∀ x ∈ L, x.ok) (hR : Row w a len cap 11 (L.flatMap PodV.cells)) (hp : p.ok) :
    Calls Try.prog 4 #[.agg #[.int .i64 R.a, .int .i64 R.b, .int .i64 R.c], .slice a len cap, p.v] w fun e w' => e = .returned (.bool true) ∧ Below w.heap.size w w' := by
  unfold PodV.v
  have hw : Below w.heap.size w w := Below.refl _ _
  have hbel := hw
  have HR := Lib.hid hR
  have HOK := Lib.hid hok
  have HL := Lib.hid hl
  have HRA := Lib.hid hra
  have HRB := Lib.hid hrb
  have HRC := Lib.hid hrc
  have CF := Lib.hid (fun v (hv : Below w.heap.size w v) => vref_Fit R p a len cap L v hl hok (HR.out.later hv) hp)
  clear hra hrb hrc hl hok hR hp
  go_enter Try.func4, Try.ntmps4
  go_upto_region 1 with fail
  have rm0 : ((w.alloc (.cells #[.int .i64 R.a, .int .i64 R.b, .int .i64 R.c] 22)).alloc (.cells #[.string p.id, .int .i64 p.prio, .bool p.crit, .int .i64 p.r0, .int .i64 p.r1, .int .i64 p.r2, .int .i64 p.l0, .int .i64 p.l1, .int .i64 p.l2, .string p.img, .int .i64 p.size] 25)).cell? ⟨w.heap.size, 0, none⟩ = some (.int .i64 R.a) := by first | (simp; done) | (rw [World.cell?_alloc_at _ _ _ _ (by simp)]; rfl) | (rw [World.cell?_alloc_past _ _ _ (by simp <;> omega), World.cell?_alloc_at _ _ _ _ (by simp)]; rfl) | (rw [World.cell?_alloc_past _ _ _ (by simp <;> omega), World.cell?_alloc_past _ _ _ (by simp <;> omega), World.cell?_alloc_at _ _ _ _ (by simp)]; rfl)
  have rm1 : ((w.alloc (.cells #[.int .i64 R.a, .int .i64 R.b, .int .i64 R.c] 22)).alloc (.cells #[.string p.id, .int .i64 p.prio, .bool p.crit, .int .i64 p.r0, .int .i64 p.r1, .int .i64 p.r2, .int .i64 p.l0, .int .i64 p.l1, .int .i64 p.l2, .string p.img, .int .i64 p.size] 25)).cell? ⟨w.heap.size, 1, none⟩ = some (.int .i64 R.b) := by first | (simp; done) | (rw [World.cell?_alloc_at _ _ _ _ (by simp)]; rfl) | (rw [World.cell?_alloc_past _ _ _ (by simp <;> omega), World.cell?_alloc_at _ _ _ _ (by simp)]; rfl) | (rw [World.cell?_alloc_past _ _ _ (by simp <;> omega), World.cell?_alloc_past _ _ _ (by simp <;> omega), World.cell?_alloc_at _ _ _ _ (by simp)]; rfl)
  have rm2 : ((w.alloc (.cells #[.int .i64 R.a, .int .i64 R.b, .int .i64 R.c] 22)).alloc (.cells #[.string p.id, .int .i64 p.prio, .bool p.crit, .int .i64 p.r0, .int .i64 p.r1, .int .i64 p.r2, .int .i64 p.l0, .int .i64 p.l1, .int .i64 p.l2, .string p.img, .int .i64 p.size] 25)).cell? ⟨w.heap.size, 2, none⟩ = some (.int .i64 R.c) := by first | (simp; done) | (rw [World.cell?_alloc_at _ _ _ _ (by simp)]; rfl) | (rw [World.cell?_alloc_past _ _ _ (by simp <;> omega), World.cell?_alloc_at _ _ _ _ (by simp)]; rfl) | (rw [World.cell?_alloc_past _ _ _ (by simp <;> omega), World.cell?_alloc_past _ _ _ (by simp <;> omega), World.cell?_alloc_at _ _ _ _ (by simp)]; rfl)
  have pp0 : ((w.alloc (.cells #[.int .i64 R.a, .int .i64 R.b, .int .i64 R.c] 22)).alloc (.cells #[.string p.id, .int .i64 p.prio, .bool p.crit, .int .i64 p.r0, .int .i64 p.r1, .int .i64 p.r2, .int .i64 p.l0, .int .i64 p.l1, .int .i64 p.l2, .string p.img, .int .i64 p.size] 25)).cell? ⟨w.heap.size + 1, 0, none⟩ = some (.string p.id) := by first | (simp; done) | (rw [World.cell?_alloc_at _ _ _ _ (by simp)]; rfl) | (rw [World.cell?_alloc_past _ _ _ (by simp <;> omega), World.cell?_alloc_at _ _ _ _ (by simp)]; rfl) | (rw [World.cell?_alloc_past _ _ _ (by simp <;> omega), World.cell?_alloc_past _ _ _ (by simp <;> omega), World.cell?_alloc_at _ _ _ _ (by simp)]; rfl)
  have pp1 : ((w.alloc (.cells #[.int .i64 R.a, .int .i64 R.b, .int .i64 R.c] 22)).alloc (.cells #[.string p.id, .int .i64 p.prio, .bool p.crit, .int .i64 p.r0, .int .i64 p.r1, .int .i64 p.r2, .int .i64 p.l0, .int .i64 p.l1, .int .i64 p.l2, .string p.img, .int .i64 p.size] 25)).cell? ⟨w.heap.size + 1, 1, none⟩ = some (.int .i64 p.prio) := by first | (simp; done) | (rw [World.cell?_alloc_at _ _ _ _ (by simp)]; rfl) | (rw [World.cell?_alloc_past _ _ _ (by simp <;> omega), World.cell?_alloc_at _ _ _ _ (by simp)]; rfl) | (rw [World.cell?_alloc_past _ _ _ (by simp <;> omega), World.cell?_alloc_past _ _ _ (by simp <;> omega), World.cell?_alloc_at _ _ _ _ (by simp)]; rfl)
  have pp2 : ((w.alloc (.cells #[.int .i64 R.a, .int .i64 R.b, .int .i64 R.c] 22)).alloc (.cells #[.string p.id, .int .i64 p.prio, .bool p.crit, .int .i64 p.r0, .int .i64 p.r1, .int .i64 p.r2, .int .i64 p.l0, .int .i64 p.l1, .int .i64 p.l2, .string p.img, .int .i64 p.size] 25)).cell? ⟨w.heap.size + 1, 2, none⟩ = some (.bool p.crit) := by first | (simp; done) | (rw [World.cell?_alloc_at _ _ _ _ (by simp)]; rfl) | (rw [World.cell?_alloc_past _ _ _ (by simp <;> omega), World.cell?_alloc_at _ _ _ _ (by simp)]; rfl) | (rw [World.cell?_alloc_past _ _ _ (by simp <;> omega), World.cell?_alloc_past _ _ _ (by simp <;> omega), World.cell?_alloc_at _ _ _ _ (by simp)]; rfl)
  have pp3 : ((w.alloc (.cells #[.int .i64 R.a, .int .i64 R.b, .int .i64 R.c] 22)).alloc (.cells #[.string p.id, .int .i64 p.prio, .bool p.crit, .int .i64 p.r0, .int .i64 p.r1, .int .i64 p.r2, .int .i64 p.l0, .int .i64 p.l1, .int .i64 p.l2, .string p.img, .int .i64 p.size] 25)).cell? ⟨w.heap.size + 1, 3, none⟩ = some (.int .i64 p.r0) := by first | (simp; done) | (rw [World.cell?_alloc_at _ _ _ _ (by simp)]; rfl) | (rw [World.cell?_alloc_past _ _ _ (by simp <;> omega), World.cell?_alloc_at _ _ _ _ (by simp)]; rfl) | (rw [World.cell?_alloc_past _ _ _ (by simp <;> omega), World.cell?_alloc_past _ _ _ (by simp <;> omega), World.cell?_alloc_at _ _ _ _ (by simp)]; rfl)
  have pp4 : ((w.alloc (.cells #[.int .i64 R.a, .int .i64 R.b, .int .i64 R.c] 22)).alloc (.cells #[.string p.id, .int .i64 p.prio, .bool p.crit, .int .i64 p.r0, .int .i64 p.r1, .int .i64 p.r2, .int .i64 p.l0, .int .i64 p.l1, .int .i64 p.l2, .string p.img, .int .i64 p.size] 25)).cell? ⟨w.heap.size + 1, 4, none⟩ = some (.int .i64 p.r1) := by first | (simp; done) | (rw [World.cell?_alloc_at _ _ _ _ (by simp)]; rfl) | (rw [World.cell?_alloc_past _ _ _ (by simp <;> omega), World.cell?_alloc_at _ _ _ _ (by simp)]; rfl) | (rw [World.cell?_alloc_past _ _ _ (by simp <;> omega), World.cell?_alloc_past _ _ _ (by simp <;> omega), World.cell?_alloc_at _ _ _ _ (by simp)]; rfl)
  have pp5 : ((w.alloc (.cells #[.int .i64 R.a, .int .i64 R.b, .int .i64 R.c] 22)).alloc (.cells #[.string p.id, .int .i64 p.prio, .bool p.crit, .int .i64 p.r0, .int .i64 p.r1, .int .i64 p.r2, .int .i64 p.l0, .int .i64 p.l1, .int .i64 p.l2, .string p.img, .int .i64 p.size] 25)).cell? ⟨w.heap.size + 1, 5, none⟩ = some (.int .i64 p.r2) := by first | (simp; done) | (rw [World.cell?_alloc_at _ _ _ _ (by simp)]; rfl) | (rw [World.cell?_alloc_past _ _ _ (by simp <;> omega), World.cell?_alloc_at _ _ _ _ (by simp)]; rfl) | (rw [World.cell?_alloc_past _ _ _ (by simp <;> omega), World.cell?_alloc_past _ _ _ (by simp <;> omega), World.cell?_alloc_at _ _ _ _ (by simp)]; rfl)
  have pp6 : ((w.alloc (.cells #[.int .i64 R.a, .int .i64 R.b, .int .i64 R.c] 22)).alloc (.cells #[.string p.id, .int .i64 p.prio, .bool p.crit, .int .i64 p.r0, .int .i64 p.r1, .int .i64 p.r2, .int .i64 p.l0, .int .i64 p.l1, .int .i64 p.l2, .string p.img, .int .i64 p.size] 25)).cell? ⟨w.heap.size + 1, 6, none⟩ = some (.int .i64 p.l0) := by first | (simp; done) | (rw [World.cell?_alloc_at _ _ _ _ (by simp)]; rfl) | (rw [World.cell?_alloc_past _ _ _ (by simp <;> omega), World.cell?_alloc_at _ _ _ _ (by simp)]; rfl) | (rw [World.cell?_alloc_past _ _ _ (by simp <;> omega), World.cell?_alloc_past _ _ _ (by simp <;> omega), World.cell?_alloc_at _ _ _ _ (by simp)]; rfl)
  have pp7 : ((w.alloc (.cells #[.int .i64 R.a, .int .i64 R.b, .int .i64 R.c] 22)).alloc (.cells #[.string p.id, .int .i64 p.prio, .bool p.crit, .int .i64 p.r0, .int .i64 p.r1, .int .i64 p.r2, .int .i64 p.l0, .int .i64 p.l1, .int .i64 p.l2, .string p.img, .int .i64 p.size] 25)).cell? ⟨w.heap.size + 1, 7, none⟩ = some (.int .i64 p.l1) := by first | (simp; done) | (rw [World.cell?_alloc_at _ _ _ _ (by simp)]; rfl) | (rw [World.cell?_alloc_past _ _ _ (by simp <;> omega), World.cell?_alloc_at _ _ _ _ (by simp)]; rfl) | (rw [World.cell?_alloc_past _ _ _ (by simp <;> omega), World.cell?_alloc_past _ _ _ (by simp <;> omega), World.cell?_alloc_at _ _ _ _ (by simp)]; rfl)
  have pp8 : ((w.alloc (.cells #[.int .i64 R.a, .int .i64 R.b, .int .i64 R.c] 22)).alloc (.cells #[.string p.id, .int .i64 p.prio, .bool p.crit, .int .i64 p.r0, .int .i64 p.r1, .int .i64 p.r2, .int .i64 p.l0, .int .i64 p.l1, .int .i64 p.l2, .string p.img, .int .i64 p.size] 25)).cell? ⟨w.heap.size + 1, 8, none⟩ = some (.int .i64 p.l2) := by first | (simp; done) | (rw [World.cell?_alloc_at _ _ _ _ (by simp)]; rfl) | (rw [World.cell?_alloc_past _ _ _ (by simp <;> omega), World.cell?_alloc_at _ _ _ _ (by simp)]; rfl) | (rw [World.cell?_alloc_past _ _ _ (by simp <;> omega), World.cell?_alloc_past _ _ _ (by simp <;> omega), World.cell?_alloc_at _ _ _ _ (by simp)]; rfl)
  have pp9 : ((w.alloc (.cells #[.int .i64 R.a, .int .i64 R.b, .int .i64 R.c] 22)).alloc (.cells #[.string p.id, .int .i64 p.prio, .bool p.crit, .int .i64 p.r0, .int .i64 p.r1, .int .i64 p.r2, .int .i64 p.l0, .int .i64 p.l1, .int .i64 p.l2, .string p.img, .int .i64 p.size] 25)).cell? ⟨w.heap.size + 1, 9, none⟩ = some (.string p.img) := by first | (simp; done) | (rw [World.cell?_alloc_at _ _ _ _ (by simp)]; rfl) | (rw [World.cell?_alloc_past _ _ _ (by simp <;> omega), World.cell?_alloc_at _ _ _ _ (by simp)]; rfl) | (rw [World.cell?_alloc_past _ _ _ (by simp <;> omega), World.cell?_alloc_past _ _ _ (by simp <;> omega), World.cell?_alloc_at _ _ _ _ (by simp)]; rfl)
  have pp10 : ((w.alloc (.cells #[.int .i64 R.a, .int .i64 R.b, .int .i64 R.c] 22)).alloc (.cells #[.string p.id, .int .i64 p.prio, .bool p.crit, .int .i64 p.r0, .int .i64 p.r1, .int .i64 p.r2, .int .i64 p.l0, .int .i64 p.l1, .int .i64 p.l2, .string p.img, .int .i64 p.size] 25)).cell? ⟨w.heap.size + 1, 10, none⟩ = some (.int .i64 p.size) := by first | (simp; done) | (rw [World.cell?_alloc_at _ _ _ _ (by simp)]; rfl) | (rw [World.cell?_alloc_past _ _ _ (by simp <;> omega), World.cell?_alloc_at _ _ _ _ (by simp)]; rfl) | (rw [World.cell?_alloc_past _ _ _ (by simp <;> omega), World.cell?_alloc_past _ _ _ (by simp <;> omega), World.cell?_alloc_at _ _ _ _ (by simp)]; rfl)
  have hb2 := (by repeat (first | exact hbel | refine belAlloc ?_ _ | refine belDrew ?_ | refine belSet ?_ _ _ (by simp)) : Below w.heap.size w ((w.alloc (.cells #[.int .i64 R.a, .int .i64 R.b, .int .i64 R.c] 22)).alloc (.cells #[.string p.id, .int .i64 p.prio, .bool p.crit, .int .i64 p.r0, .int .i64 p.r1, .int .i64 p.r2, .int .i64 p.l0, .int .i64 p.l1, .int .i64 p.l2, .string p.img, .int .i64 p.size] 25)))
  replace hw := belStep hw hb2
  clear hb2 hbel
  generalize (w.alloc (.cells #[.int .i64 R.a, .int .i64 R.b, .int .i64 R.c] 22)).alloc (.cells #[.string p.id, .int .i64 p.prio, .bool p.crit, .int .i64 p.r0, .int .i64 p.r1, .int .i64 p.r2, .int .i64 p.l0, .int .i64 p.l1, .int .i64 p.l2, .string p.img, .int .i64 p.size] 25) = W1 at *
  replace rm0 := keep rm0
  replace rm1 := keep rm1
  replace rm2 := keep rm2
  replace pp0 := keep pp0
  replace pp1 := keep pp1
  replace pp2 := keep pp2
  replace pp3 := keep pp3
  replace pp4 := keep pp4
  replace pp5 := keep pp5
  replace pp6 := keep pp6
  replace pp7 := keep pp7
  replace pp8 := keep pp8
  replace pp9 := keep pp9
  replace pp10 := keep pp10
  have hbel : Below W1.heap.size W1 W1 := Below.refl _ _
  skip
  go_upto_region 3 with (first | (go_at_call 12; (with_reducible refine (awake21 _).mono ?_); rintro e w1 ⟨rfl, hb1⟩; replace hbel := belStep hbel hb1; clear hb1) | (go_at_call 13; (with_reducible refine (CF.out _ (belStep hw hbel)).mono ?_); rintro e w3 ⟨⟨b, rfl, hfit⟩, hb3⟩; replace hbel := belStep hbel hb3; clear hb3; have HF := Lib.hid hfit; clear hfit; rcases b with _ | _))
  · go_ret
    exact ⟨rfl, belStep hw hbel⟩
  replace HF := Lib.hid (HF.out (by trivial))
  have HP0 := Lib.hid (fun x (hx : x ∈ L) => PodV.right_pos x (HF.out.rl x hx).1)
  have CX := fun v (hv : Below w.heap.size w v) => vic_Fits R a len cap L v HL.out HOK.out (HR.out.later hv)
  rw [fits_X R L (fun x hx => (HF.out.rl x hx).1)] at CX
  have CT := Lib.hid CX
  clear CX
  have S0 := (sumF_X PodV.r0 L (fun x hx => (HP0.out x hx).1)).2
  have CE0 := Lib.hid (fun v (hv : Below w.heap.size w v) => ref_Exact0 a len cap L v HL.out (fun x hx => ⟨(HP0.out x hx).1, (HOK.out x hx).2.2.2.1.2⟩) (HR.out.later hv))
  have S1 := (sumF_X PodV.r1 L (fun x hx => (HP0.out x hx).2.1)).2
  have CE1 := Lib.hid (fun v (hv : Below w.heap.size w v) => ref_Exact1 a len cap L v HL.out (fun x hx => ⟨(HP0.out x hx).2.1, (HOK.out x hx).2.2.2.2.1.2⟩) (HR.out.later hv))
  have S2 := (sumF_X PodV.r2 L (fun x hx => (HP0.out x hx).2.2)).2
  have CE2 := Lib.hid (fun v (hv : Below w.heap.size w v) => ref_Exact2 a len cap L v HL.out (fun x hx => ⟨(HP0.out x hx).2.2, (HOK.out x hx).2.2.2.2.2.1.2⟩) (HR.out.later hv))
  have u0 : IntKind.u64.wrap R.a = R.a := IntWalk.u64_in _ (by have := HF.out.ra; have := HRA.out; unfold InI at this; omega)
  have u1 : IntKind.u64.wrap R.b = R.b := IntWalk.u64_in _ (by have := HF.out.rb; have := HRB.out; unfold InI at this; omega)
  have u2 : IntKind.u64.wrap R.c = R.c := IntWalk.u64_in _ (by have := HF.out.rc; have := HRC.out; unfold InI at this; omega)
  have HW := Lib.hid hw
  have HB3 := Lib.hid hbel
  clear hw hbel pp0 pp1 pp2 pp3 pp4 pp5 pp6 pp7 pp8 pp9 pp10
  go_wp2
  go_loopw [7, 8] (fun g i wr => ∃ k : Nat, k ≤ 3 ∧ i = .int .i64 k ∧ g = .bool (exB R L k) ∧ Below W1.heap.size W1 wr) (fun _ i _ => 3 - (intOf i).toNat)
  case atStart => exact ⟨0, by omega, rfl, rfl, HB3.out⟩
  case round =>
    obtain ⟨k, hk, rfl, rfl, hbel⟩ := hrel
    have hw := HW.out
    have key : k = 0 ∨ k = 1 ∨ k = 2 ∨ k = 3 := by omega
    clear hk HB3
    rcases key with rfl | rfl | rfl | rfl
    · have q1 := ex_cases (room := R.a) S0
      have q2 := CE0
      generalize sumX PodV.r0 L / 18446744073709551616 = H at q1 q2
      generalize sumX PodV.r0 L % 18446744073709551616 = N at q1 q2
      have HB0 : exB R L 1 = exG R.a (sumX PodV.r0 L) := rfl
      have HB1 := Lib.hid HB0
      clear HB0 S0 S1 S2
      generalize hg0 : exB R L 0 = g0 at *
      have HG0 := Lib.hid hg0
      clear hg0
      rcases q1 with ⟨k0, k1, k2, k3⟩ | ⟨k0, k1 | ⟨k1, k2⟩ | ⟨k1, k2, k3⟩⟩
      · have HB2 := Lib.hid (show exB R L 1 = true by rw [HB1.out, k0])
        clear k0 HB1
        go_wp2_with (go_at_call 21; (with_reducible refine (q2.out _ (belStep hw hbel)).mono ?_); rintro e w5 ⟨rfl, rfl⟩)
        go_roundw
        case rel => exact ⟨1, by omega, rfl, by rw [HB2.out]; rw [← HG0.out]; rfl, hbel⟩
        case measure => simp [intOf]
      · have HB2 := Lib.hid (show exB R L 1 = false by rw [HB1.out, k0])
        clear k0 HB1
        go_wp2_with (go_at_call 21; (with_reducible refine (q2.out _ (belStep hw hbel)).mono ?_); rintro e w5 ⟨rfl, rfl⟩)
        go_roundw
        case rel => exact ⟨1, by omega, rfl, by rw [HB2.out], hbel⟩
        case measure => simp [intOf]
      · have HB2 := Lib.hid (show exB R L 1 = false by rw [HB1.out, k0])
        clear k0 HB1
        go_wp2_with (go_at_call 21; (with_reducible refine (q2.out _ (belStep hw hbel)).mono ?_); rintro e w5 ⟨rfl, rfl⟩)
        go_roundw
        case rel => exact ⟨1, by omega, rfl, by rw [HB2.out], hbel⟩
        case measure => simp [intOf]
      · have HB2 := Lib.hid (show exB R L 1 = false by rw [HB1.out, k0])
        clear k0 HB1
        go_wp2_with (go_at_call 21; (with_reducible refine (q2.out _ (belStep hw hbel)).mono ?_); rintro e w5 ⟨rfl, rfl⟩)
        go_roundw
        case rel => exact ⟨1, by omega, rfl, by rw [HB2.out], hbel⟩
        case measure => simp [intOf]
    · have q1 := ex_cases (room := R.b) S1
      have q2 := CE1
      generalize sumX PodV.r1 L / 18446744073709551616 = H at q1 q2
      generalize sumX PodV.r1 L % 18446744073709551616 = N at q1 q2
      have HB0 : exB R L 2 = (exB R L 1 && exG R.b (sumX PodV.r1 L)) := rfl
      have HB1 := Lib.hid HB0
      clear HB0 S0 S1 S2
      generalize exB R L 1 = g0 at *
      rcases q1 with ⟨k0, k1, k2, k3⟩ | ⟨k0, k1 | ⟨k1, k2⟩ | ⟨k1, k2, k3⟩⟩
      · have HB2 := Lib.hid (show exB R L 2 = g0 by rw [HB1.out, k0]; simp)
        clear k0 HB1
        go_wp2_with (go_at_call 21; (with_reducible refine (q2.out _ (belStep hw hbel)).mono ?_); rintro e w5 ⟨rfl, rfl⟩)
        go_roundw
        case rel => exact ⟨2, by omega, rfl, by rw [HB2.out], hbel⟩
        case measure => simp [intOf]
      · have HB2 := Lib.hid (show exB R L 2 = false by rw [HB1.out, k0]; simp)
        clear k0 HB1
        go_wp2_with (go_at_call 21; (with_reducible refine (q2.out _ (belStep hw hbel)).mono ?_); rintro e w5 ⟨rfl, rfl⟩)
        go_roundw
        case rel => exact ⟨2, by omega, rfl, by rw [HB2.out], hbel⟩
        case measure => simp [intOf]
      · have HB2 := Lib.hid (show exB R L 2 = false by rw [HB1.out, k0]; simp)
        clear k0 HB1
        go_wp2_with (go_at_call 21; (with_reducible refine (q2.out _ (belStep hw hbel)).mono ?_); rintro e w5 ⟨rfl, rfl⟩)
        go_roundw
        case rel => exact ⟨2, by omega, rfl, by rw [HB2.out], hbel⟩
        case measure => simp [intOf]
      · have HB2 := Lib.hid (show exB R L 2 = false by rw [HB1.out, k0]; simp)
        clear k0 HB1
        go_wp2_with (go_at_call 21; (with_reducible refine (q2.out _ (belStep hw hbel)).mono ?_); rintro e w5 ⟨rfl, rfl⟩)
        go_roundw
        case rel => exact ⟨2, by omega, rfl, by rw [HB2.out], hbel⟩
        case measure => simp [intOf]
    · have q1 := ex_cases (room := R.c) S2
      have q2 := CE2
      generalize sumX PodV.r2 L / 18446744073709551616 = H at q1 q2
      generalize sumX PodV.r2 L % 18446744073709551616 = N at q1 q2
      have HB0 : exB R L 3 = (exB R L 2 && exG R.c (sumX PodV.r2 L)) := rfl
      have HB1 := Lib.hid HB0
      clear HB0 S0 S1 S2
      generalize exB R L 2 = g0 at *
      rcases q1 with ⟨k0, k1, k2, k3⟩ | ⟨k0, k1 | ⟨k1, k2⟩ | ⟨k1, k2, k3⟩⟩
      · have HB2 := Lib.hid (show exB R L 3 = g0 by rw [HB1.out, k0]; simp)
        clear k0 HB1
        go_wp2_with (go_at_call 21; (with_reducible refine (q2.out _ (belStep hw hbel)).mono ?_); rintro e w5 ⟨rfl, rfl⟩)
        go_roundw
        case rel => exact ⟨3, by omega, rfl, by rw [HB2.out], hbel⟩
        case measure => simp [intOf]
      · have HB2 := Lib.hid (show exB R L 3 = false by rw [HB1.out, k0]; simp)
        clear k0 HB1
        go_wp2_with (go_at_call 21; (with_reducible refine (q2.out _ (belStep hw hbel)).mono ?_); rintro e w5 ⟨rfl, rfl⟩)
        go_roundw
        case rel => exact ⟨3, by omega, rfl, by rw [HB2.out], hbel⟩
        case measure => simp [intOf]
      · have HB2 := Lib.hid (show exB R L 3 = false by rw [HB1.out, k0]; simp)
        clear k0 HB1
        go_wp2_with (go_at_call 21; (with_reducible refine (q2.out _ (belStep hw hbel)).mono ?_); rintro e w5 ⟨rfl, rfl⟩)
        go_roundw
        case rel => exact ⟨3, by omega, rfl, by rw [HB2.out], hbel⟩
        case measure => simp [intOf]
      · have HB2 := Lib.hid (show exB R L 3 = false by rw [HB1.out, k0]; simp)
        clear k0 HB1
        go_wp2_with (go_at_call 21; (with_reducible refine (q2.out _ (belStep hw hbel)).mono ?_); rintro e w5 ⟨rfl, rfl⟩)
        go_roundw
        case rel => exact ⟨3, by omega, rfl, by rw [HB2.out], hbel⟩
        case measure => simp [intOf]
    · clear CE0 CE1 CE2 S0 S1 S2
      generalize exB R L 3 = g0 at *
      go_wp2_with (first | (go_at_call 18; (with_reducible refine (CT.out _ (belStep hw hbel)).mono ?_); rintro e w1 ⟨rfl, hb1⟩; replace hbel := belStep hbel hb1; clear hb1))
      go_ret
      exact ⟨rfl, belStep hw hbel⟩

set_option maxRecDepth 100000 in
theorem lifted (os : Os) (started : os.Started) (H : Type) (enc : TypeId × Value → H) :
    ReturnsInHanded {} Try.checked os 4 .any (Rows.victimExactSpec.pre6 enc Try.prog Try.f4 Rows.victimExactRow.domain false) (Rows.victimExactSpec.post enc Try.prog Try.f4 false true false false) := by
  refine returnsInHanded_of_change (C := Try.checked) own started (by kernel_rfl) Try.func4
    (ChangeSpec.witness6 (enc := enc) (C := Try.checked) false ⟨#[], #[.agg #[.int .i64 0, .int .i64 0, .int .i64 0], .slice none 0 0, .agg #[.string ByteArray.empty, .int .i64 0, .bool false, .int .i64 0, .int .i64 0, .int .i64 0, .int .i64 0, .int .i64 0, .int .i64 0, .string ByteArray.empty, .int .i64 0]], []⟩ 8 (by kernel_rfl) (by kernel_rfl) (by kernel_rfl) (by kernel_rfl)) ?_
  intro W base args ds gs before hval0 hW hcnd _
  have hval : ∀ (j : Nat) t v, Try.f4.params[j]? = some t → args[j]? = some v → Value.okWide Try.prog W .any base t v := hval0
  have hW' := hW
  obtain ⟨p, q, hA0, hV, rfl, hfz, hnd⟩ := hW
  have hA : DataW.TrodAll enc Try.prog W 0 (fun _ => true) true Try.f4.params.toList args.toList ds p := hA0
  rw [Try.params4] at hA hval
  obtain ⟨v0, vs0, d0, ds0, p0, q0, hargs, rfl, rfl, h0, r0⟩ := trodAll_cons hA
  obtain ⟨v1, vs1, d1, ds1, p1, q1, rfl, rfl, rfl, h1, r1⟩ := trodAll_cons r0
  obtain ⟨v2, vs2, d2, ds2, p2, q2, rfl, rfl, rfl, h2, r2⟩ := trodAll_cons r1
  obtain ⟨rfl, rfl, rfl⟩ := trodAll_nil r2
  obtain rfl : args = #[v0, v1, v2] := by cases args; simp_all
  obtain ⟨rfl, rfl⟩ := trodVars_none hV
  have k0 := h0
  have lt0 : ∀ x ∈ p0, x.block < W.heap.size := by obtain ⟨m, hm⟩ := k0; exact DataW.trod_lt m _ _ _ hm
  have o0 : Value.okWide Try.prog W .any base 22 v0 := hval 0 22 v0 rfl rfl
  obtain ⟨R0, rfl, f0, g0, h0⟩ := open_room o0 h0
  have k1 := h1
  have lt1 : ∀ x ∈ p1, x.block < W.heap.size := by obtain ⟨m, hm⟩ := k1; exact DataW.trod_lt m _ _ _ hm
  have o1 : Value.okWide Try.prog W .any base 23 v1 := hval 1 23 v1 rfl rfl
  obtain ⟨a1, len1, cap1, L1, rfl, f1, g1, i1⟩ := open_pods o1 h1
  have k2 := h2
  have lt2 : ∀ x ∈ p2, x.block < W.heap.size := by obtain ⟨m, hm⟩ := k2; exact DataW.trod_lt m _ _ _ hm
  have o2 : Value.okWide Try.prog W .any base 25 v2 := hval 2 25 v2 rfl rfl
  obtain ⟨p2, rfl, f2⟩ := open_pod o2 h2
  clear hA0 hval0
  refine (walk R0 a1 len1 cap1 L1 p2 W f0 g0 h0 f1 g1 i1 f2).mono fun e W' ⟨he, bel⟩ => ?_
  subst he
  exact ⟨_, rfl, _, _, _, [], _, [], hW', trodAll_mk1 (shut_bool Try.underlying4 _), (trodAll_cons_mk (Below.trod laidOut (by kernel_rfl) (of_decide_eq_true (by kernel_rfl)) k0 bel lt0) (trodAll_cons_mk (Below.trod laidOut (by kernel_rfl) (of_decide_eq_true (by kernel_rfl)) k1 bel lt1) (trodAll_cons_mk (Below.trod laidOut (by kernel_rfl) (of_decide_eq_true (by kernel_rfl)) k2 bel lt2) trodAll_mk0))), rfl, bel.frame _, fun h => by cases h⟩

theorem over : Rows.victimExactRow.holds Try.pinned (OpenSpec.ofChange Rows.victimExactSpec) :=
  OpenClaim.holds_of_wide 4 Try.f4 rfl rfl rfl rfl rfl rfl rfl ⟨rfl, rfl, rfl, rfl, rfl⟩ rfl rfl rfl rfl rfl (by kernel_rfl) Try.func4 (by kernel_rfl)
    (of_decide_eq_true (by kernel_rfl)) (by unfold Func.isWrapper; first | (rw [if_pos (by decide +kernel)]; kernel_rfl) | (rw [if_neg (by decide +kernel)]; exact ⟨rfl, rfl⟩))
    (fun os started H enc _ => lifted os started H enc)

/-- The statement. -/
theorem proved : Rows.VictimExactSaid := over
#print axioms proved

end Go.Proofs.Ytnnmganjlhojfaa.victimExact
