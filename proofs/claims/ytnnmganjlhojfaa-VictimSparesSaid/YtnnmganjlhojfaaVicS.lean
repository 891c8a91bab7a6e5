/- VictimSpares holds for every room, list of pods and pod. No conditions. -/
import Derived.Test.YtnnmganjlhojfaaVicNext
namespace Go.Proofs.Ytnnmganjlhojfaa.victimSpares
open Go.ChangeShapes Go.WideShapes Go.ChangeAt Go.RowKit
open Go.ChangeMaps (open_string shut_string)
set_option linter.unusedVariables false
set_option linter.unusedSimpArgs false

set_option maxRecDepth 100000 in
set_option maxHeartbeats 16000000 in
theorem walk (R : Room) (a : Option Addr) (len cap : Nat) (L : List PodV) (p : PodV) (w : World) (hra : InI R.a) (hrb : InI R.b) (hrc : InI R.c) (hl : L.length = len) (hok : ∀ x ∈ L, x.ok) (hR : Row w a len cap 11 (L.flatMap PodV.cells)) (hp : p.ok) :
    Calls Try.prog 9 #[.agg #[.int .i64 R.a, .int .i64 R.b, .int .i64 R.c], .slice a len cap, p.v] w fun e w' => e = .returned (.bool true) ∧ Below w.heap.size w w' := by
  unfold PodV.v
  have hw : Below w.heap.size w w := Below.refl _ _
  have hbel := hw
  have HR := Lib.hid hR
  have HOK := Lib.hid hok
  have HPO := Lib.hid hp
  have hbd : len ≤ cap ∧ cap ≤ 9223372036854775807 := by obtain ⟨_, h1, h2, _⟩ := hR; unfold maxLen at h2; exact ⟨h1, h2⟩
  obtain ⟨hbd1, hbd2⟩ := hbd
  obtain ⟨c, hc⟩ : ∃ c, chooseF R L p = c := ⟨_, rfl⟩
  have CF := Lib.hid (fun v (hv : Below w.heap.size w v) => vref_Fit R p a len cap L v hl hok (HR.out.later hv) hp)
  have CX := Lib.hid (fun (hf : FitOK R L p) v (hv : Below w.heap.size w v) => choose_call R p c a len cap L v hl hok (HR.out.later hv) hf.dist (by have := hf.len; omega) hp hc)
  have HC := Lib.hid hc
  subst hl
  clear hra hrb hrc hok hR hp hc
  go_enter Try.func9, Try.ntmps9
  go_upto_region 1 with fail
  have rm0 : ((w.alloc (.cells #[.int .i64 R.a, .int .i64 R.b, .int .i64 R.c] 22)).alloc (.cells #[.string p.id, .int .i64 p.prio, .bool p.crit, .int .i64 p.r0, .int .i64 p.r1, .int .i64 p.r2, .int .i64 p.l0, .int .i64 p.l1, .int .i64 p.l2, .string p.img, .int .i64 p.size] 25)).cell? ⟨w.heap.size, 0, none⟩ = some (.int .i64 R.a) := by first | (simp; done) | (rw [World.cell?_alloc_at _ _ _ _ (by simp)]; rfl) | (rw [World.cell?_alloc_past _ _ _ (by simp <;> omega), World.cell?_alloc_at _ _ _ _ (by simp)]; rfl) | (rw [World.cell?_alloc_past _ _ _ (by simp <;> omega), World.cell?_alloc_past _ _ _ (by simp <;> omega), World.cell?_alloc_at _ _ _ _ (by simp)]; rfl)
  have rm1 : ((w.alloc (.cells #[.int .i64 R.a, .int .i64 R.b, .int .i64 R.c] 22)).alloc (.cells #[.string p.id, .int .i64 p.prio, .bool p.crit, .int .i64 p.r0, .int .i64 p.r1, .int .i64 p.r2, .int .i64 p.l0, .int .i64 p.l1, .int .i64 p.l2, .string p.img, .int .i64 p.size] 25)).cell? ⟨w.heap.size, 1, none⟩ = some (.int .i64 R.b) := by first | (simp; done) | (rw [World.cell?_alloc_at _ _ _ _ (by simp)]; rfl) | (rw [World.cell?_alloc_past _ _ _ (by simp <;> omega), World.cell?_alloc_at _ _ _ _ (by simp)]; rfl) | (rw [World.cell?_alloc_past _ _ _ (by simp <;> omega), World.cell?_alloc_past _ _ _ (by simp <;> omega), World.cell?_alloc_at _ _ _ _ (by simp)]; rfl)
  have rm2 : ((w.alloc (.cells #[.int .i64 R.a, .int .i64 R.b, .int .i64 R.c] 22)).alloc (.cells #[.string p.id, .int .i64 p.prio, .bool p.crit, .int .i64 p.r0, .int .i64 p.r1, .int .i64 p.r2, .int .i64 p.l0, .int .i64 p.l1, .int .i64 p.l2, .string p.img, .int .i64 p.size] 25)).cell? ⟨w.heap.size, 2, none⟩ = some (.int .i64 R.c) := by first | (simp; done) | (rw [World.cell?_alloc_at _ _ _ _ (by simp)]; rfl) | (rw [World.cell?_alloc_past _ _ _ (by simp <;> omega), World.cell?_alloc_at _ _ _ _ (by simp)]; rfl) | (rw [World.cell?_alloc_past _ _ _ (by simp <;> omega), World.cell?_alloc_past _ _ _ (by simp <;> omega), World.cell?_alloc_at _ _ _ _ (by simp)]; rfl)
  have pp0 : ((w.alloc (.cells #[.int .i64 R.a, .int .i64 R.b, .int .i64 R.c] 22)).alloc (.cells #[.string p.id, .int .i64 p.prio, .bool p.crit, .int .i64 p.r0, .int .i64 p.r1, .int .i64 p.r2, .int .i64 p.l0, .int .i64 p.l1, .int .i64 p.l2, .string p.img, .int .i64 p.size] 25)).cell? ⟨w.heap.size + 1, 0, none⟩ = some (.string p.id) := by first | (simp; done) | (rw [World.cell?_alloc_at _ _ _ _ (by simp)]; rfl) | (rw [World.cell?_alloc_past _ _ _ (by simp <;> omega), World.cell?_alloc_at _ _ _ _ (by simp)]; rfl) | (rw [World.cell?_alloc_past _ _ _ (by simp <;> omega), World.cell?_alloc_past _ _ _ (by simp <;> omega), World.cell?_alloc_at _ _ _ _ (by simp)]; rfl)
  have pp1 : ((w.alloc (.cells #[.int .i64 R.a, .int .i64 R.b, .int .i64 R.c] 22)).alloc (.cells #[.string p.id, .int .i64 p.prio, .bool p.crit, .int .i64 p.r0, .int .i64 p.r1, .int .i64 p.r2, .int .i64 p.l0, .int .i64 p.l1, .int .i64 p.l2, .string p.img, .int .i64 p.size] 25)).cell? ⟨w.heap.size + 1, 1, none⟩ = some (.int .i64 p.prio) := by first | (simp; done) | (rw [World.cell?_alloc_at _ _ _ _ (by simp)]; rfl) | (rw [World.cell?_alloc_past _ _ _ (by simp <;> omega), World.cell?_alloc_at _ _ _ _ (by simp)]; rfl) | (rw [World.cell?_alloc_past _ _ _ (by simp <;> omega), World.cell?_alloc_past _ _ _ (by simp <;> omega), World.cell?_alloc_at _ _ _ _ (by simp)]; rfl)
  have pp2 : ((w.alloc (.cells #[.int .i64 R.a, .int .i64 R.b, .int .i64 R.c] 22)).alloc (.cells #[.string p.id, .int .i64 p.prio, .bool p.crit, .int .i64 p.r0, .int .i64 p.r1, .int .i64 p.r2, .int .i64 p.l0, .int .i64 p.l1, .int .i64 p.l2, .string p.img, .int .i64 p.size] 25)).cell? ⟨w.heap.size + 1, 2, none⟩ = some (.bool p.crit) := by first | (simp; done) | (rw [World.cell?_alloc_at _ _ _ _ (by simp)]; rfl) | (rw [World.cell?_alloc_past _ _ _ (by simp <;> omega), World.cell?_alloc_at _ _ _ _ (by simp)]; rfl) | (rw [World.cell?_alloc_past _ _ _ (by simp <;> omega), World.cell?_alloc_past _ _ _ (by simp <;> omega), World.cell?_alloc_at _ _ _ _ (by simp)]; rfl)
  have pp3 : ((w.alloc (.cells #[.int .i64 R.a, .int .i64 R.b, .int .i64 R.c] 22)).alloc (.cells #[.string p.id, .int .i64 p.prio, .bool p.crit, .int .i64 p.r0, .int .i64 p.r1, .int .i64 p.r2, .int .i64 p.l0, .int .i64 p.l1, .int .i64 p.l2, .string p.img, .int .i64 p.size] 25)).cell? ⟨w.heap.size + 1, 3, none⟩ = some (.int .i64 p.r0) := by first | (simp; done) | (rw [World.cell?_alloc_at _ _ _ _ (by simp)]; rfl) | (rw [World.cell?_alloc_past _ _ _ (by simp <;> omega), World.cell?_alloc_at _ _ _ _ (by simp)]; rfl) | (rw [World.cell?_alloc_past _ _ _ (by simp <;> omega), World.cell?_alloc_past _ _ _ (by simp <;> omega), World.cell?_alloc_at _ _ _ _ (by simp)]; rfl)
  have pp4 : ((w.alloc (.cells #[.int .i64 R.a, .int .i64 R.b, .int .i64 R.c] 22)).alloc (.cells #[.string p.id, .int .i64 p.prio, .bool p.crit, .int .i64 p.r0, .int .i64 p.r1, .int .i64 p.r2, .int .i64 p.l0, .int .i64 p.l1, .int .i64 p.l2, .string p.img, .int .i64 p.size] 25)).cell? ⟨w.heap.size + 1, 4, none⟩ = some (.int .i64 p.r1) := by first | (simp; done) | (rw [World.cell?_alloc_at _ _ _ _ (by simp)]; rfl) | (rw [World.cell?_alloc_past _ _ _ (by simp <;> omega), World.cell?_alloc_at _ _ _ _ (by simp)]; rfl) | (rw [World.cell?_alloc_past _ _ _ (by simp <;> omega), World.cell?_alloc_past _ _ _ (by simp <;> omega), World.cell?_alloc_at _ _ _ _ (by simp)]; rfl)
  have pp5 : ((w.alloc (.cells #[.int .i64 R.a, .int .i64 R.b, .int .i64 R.c] 22)).alloc (.cells #[.string p.id, .int .i64 p.prio, .bool p.crit, .int .i64 p.r0, .int .i64 p.r1, .int .i64 p.r2, .int .i64 p.l0, .int .i64 p.l1, .int .i64 p.l2, .string p.img, .int .i64 p.size] 25)).cell? ⟨w.heap.size + 1, 5, none⟩ = some (.int .i64 p.r2) := by first | (simp; done) | (rw [World.cell?_alloc_at _ _ _ _ (by simp)]; rfl) | (rw [World.cell?_alloc_past _ _ _ (by simp <;> omega), World.cell?_alloc_at _ _ _ _ (by simp)]; rfl) | (rw [World.cell?_alloc_past _ _ _ (by simp <;> omega), World.cell?_alloc_past _ _ _ (by simp <;> omega), World.cell?_alloc_at _ _ _ _ (by simp)]; rfl)
  have pp6 : ((w.alloc (.cells #[.int .i64 R.a, .int .i64 R.b, .int .i64 R.c] 22)).alloc (.cells #[.string p.id, .int .i64 p.prio, .bool p.crit, .int .i64 p.r0, .int .i64 p.r1, .int .i64 p.r2, .int .i64 p.l0, .int .i64 p.l1, .int .i64 p.l2, .string p.img, .int .i64 p.size] 25)).cell? ⟨w.heap.size + 1, 6, none⟩ = some (.int .i64 p.l0) := by first | (simp; done) | (rw [World.cell?_alloc_at _ _ _ _ (by simp)]; rfl) | (rw [World.cell?_alloc_past _ _ _ (by simp <;> omega), World.cell?_alloc_at _ _ _ _ (by simp)]; rfl) | (rw [World.cell?_alloc_past _ _ _ (by simp <;> omega), World.cell?_alloc_past _ _ _ (by simp <;> omega), World.cell?_alloc_at _ _ _ _ (by simp)]; rfl)
  have pp7 : ((w.alloc (.cells #[.int .i64 R.a, .int .i64 R.b, .int .i64 R.c] 22)).alloc (.cells #[.string p.id, .int .i64 p.prio, .bool p.crit, .int .i64 p.r0, .int .i64 p.r1, .int .i64 p.r2, .int .i64 p.l0, .int .i64 p.l1, .int .i64 p.l2, .string p.img, .int .i64 p.size] 25)).cell? ⟨w.heap.size + 1, 7, none⟩ = some (.int .i64 p.l1) := by first | (simp; done) | (rw [World.cell?_alloc_at _ _ _ _ (by simp)]; rfl) | (rw [World.cell?_alloc_past _ _ _ (by simp <;> omega), World.cell?_alloc_at _ _ _ _ (by simp)]; rfl) | (rw [World.cell?_alloc_past _ _ _ (by simp <;> omega), World.cell?_alloc_past _ _ _ (by simp <;> omega), World.cell?_alloc_at _ _ _ _ (by simp)]; rfl)
  have pp8 : ((w.alloc (.cells #[.int .i64 R.a, .int .i64 R.b, .int .i64 R.c] 22)).alloc (.cells #[.string p.id, .int .i64 p.prio, .bool p.crit, .int .i64 p.r0, .int .i64 p.r1, .int .i64 p.r2, .int .i64 p.l0, .int .i64 p.l1, .int .i64 p.l2, .string p.img, .int .i64 p.size] 25)).cell? ⟨w.heap.size + 1, 8, none⟩ = some (.int .i64 p.l2) := by first | (simp; done) | (rw [World.cell?_alloc_at _ _ _ _ (by simp)]; rfl) | (rw [World.cell?_alloc_past _ _ _ (by simp <;> omega), World.cell?_alloc_at _ _ _ _ (by simp)]; rfl) | (rw [World.cell?_alloc_past _ _ _ (by simp <;> omega), World.cell?_alloc_past _ _ _ (by simp <;> omega), World.cell?_alloc_at _ _ _ _ (by simp)]; rfl)
  have pp9 : ((w.alloc (.cells #[.int .i64 R.a, .int .i64 R.b, .int .i64 R.c] 22)).alloc (.cells #[.string p.id, .int .i64 p.prio, .bool p.crit, .int .i64 p.r0, .int .i64 p.r1, .int .i64 p.r2, .int .i64 p.l0, .int .i64 p.l1, .int .i64 p.l2, .string p.img, .int .i64 p.size] 25)).cell? ⟨w.heap.size + 1, 9, none⟩ = some (.string p.img) := by first | (simp; done) | (rw [World.cell?_alloc_at _ _ _ _ (by simp)]; rfl) | (rw [World.cell?_alloc_past _ _ _ (by simp <;> omega), World.cell?_alloc_at _ _ _ _ (by simp)]; rfl) | (rw [World.cell?_alloc_past _ _ _ (by simp <;> omega), World.cell?_alloc_past _ _ _ (by simp <;> omega), World.cell?_alloc_at _ _ _ _ (by simp)]; rfl)
  have pp10 : ((w.alloc (.cells #[.int .i64 R.a, .int .i64 R.b, .int .i64 R.c] 22)).alloc (.cells #[.string p.id, .int .i64 p.prio, .bool p.crit, .int .i64 p.r0, .int .i64 p.r1, .int .i64 p.r2, .int .i64 p.l0, .int .i64 p.l1, .int .i64 p.l2, .string p.img, .int .i64 p.size] 25)).cell? ⟨w.heap.size + 1, 10, none⟩ = some (.int .i64 p.size) := by first | (simp; done) | (rw [World.cell?_alloc_at _ _ _ _ (by simp)]; rfl) | (rw [World.cell?_alloc_past _ _ _ (by simp <;> omega), World.cell?_alloc_at _ _ _ _ (by simp)]; rfl) | (rw [World.cell?_alloc_past _ _ _ (by simp <;> omega), World.cell?_alloc_past _ _ _ (by simp <;> omega), World.cell?_alloc_at _ _ _ _ (by simp)]; rfl)
  have hb2 := (by repeat (first | exact hbel | refine belAlloc ?_ _ | refine belDrew ?_ | refine belSet ?_ _ _ (by simp)) : Below w.heap.size w ((w.alloc (.cells #[.int .i64 R.a, .int .i64 R.b, .int .i64 R.c] 22)).alloc (.cells #[.string p.id, .int .i64 p.prio, .bool p.crit, .int .i64 p.r0, .int .i64 p.r1, .int .i64 p.r2, .int .i64 p.l0, .int .i64 p.l1, .int .i64 p.l2, .string p.img, .int .i64 p.size] 25)))
  replace hw := belStep hw hb2
  clear hb2 hbel
  generalize (w.alloc (.cells #[.int .i64 R.a, .int .i64 R.b, .int .i64 R.c] 22)).alloc (.cells #[.string p.id, .int .i64 p.prio, .bool p.crit, .int .i64 p.r0, .int .i64 p.r1, .int .i64 p.r2, .int .i64 p.l0, .int .i64 p.l1, .int .i64 p.l2, .string p.img, .int .i64 p.size] 25) = W1 at *
  replace rm0 := keep rm0
  replace rm1 := keep rm1
  replace rm2 := keep rm2
  replace pp0 := keep pp0
  replace pp1 := keep pp1
  replace pp2 := keep pp2
  replace pp3 := keep pp3
  replace pp4 := keep pp4
  replace pp5 := keep pp5
  replace pp6 := keep pp6
  replace pp7 := keep pp7
  replace pp8 := keep pp8
  replace pp9 := keep pp9
  replace pp10 := keep pp10
  have hbel : Below W1.heap.size W1 W1 := Below.refl _ _
  skip
  go_upto_region 3 with (first | (go_at_call 12; (with_reducible refine (awake21 _).mono ?_); rintro e w1 ⟨rfl, hb1⟩; replace hbel := belStep hbel hb1; clear hb1) | (go_at_call 13; (with_reducible refine (CF.out _ (belStep hw hbel)).mono ?_); rintro e w3 ⟨⟨b, rfl, hfit⟩, hb3⟩; replace hbel := belStep hbel hb3; clear hb3; have HF := Lib.hid hfit; clear hfit; rcases b with _ | _))
  · go_ret
    exact ⟨rfl, belStep hw hbel⟩
  replace HF := Lib.hid (HF.out (by trivial))
  clear CF
  have hlen : L.length ≤ 64 := HF.out.len
  replace rm0 := keepOnP rm0 hbel
  replace rm1 := keepOnP rm1 hbel
  replace rm2 := keepOnP rm2 hbel
  replace pp0 := keepOnP pp0 hbel
  replace pp1 := keepOnP pp1 hbel
  replace pp2 := keepOnP pp2 hbel
  replace pp3 := keepOnP pp3 hbel
  replace pp4 := keepOnP pp4 hbel
  replace pp5 := keepOnP pp5 hbel
  replace pp6 := keepOnP pp6 hbel
  replace pp7 := keepOnP pp7 hbel
  replace pp8 := keepOnP pp8 hbel
  replace pp9 := keepOnP pp9 hbel
  replace pp10 := keepOnP pp10 hbel
  replace hw := belStep hw hbel
  clear hbel
  generalize w3 = W2 at *
  have hbel : Below W2.heap.size W2 W2 := Below.refl _ _
  have HRL := Lib.hid (fun u (hu : Below W2.heap.size W2 u) => HR.out.later (belStep hw hu))
  have HB0 := Lib.hid hbel
  clear hbel
  go_wp2
  go_loopw [7, 8] (fun v i wr => ∃ k : Nat, k ≤ L.length ∧ i = .int .i64 k ∧ BestR (mayB p) L k v ∧ Below W2.heap.size W2 wr) (fun _ i _ => L.length - (intOf i).toNat)
  case atStart => exact ⟨0, Nat.zero_le _, rfl, .inl ⟨rfl, rfl⟩, HB0.out⟩
  case round =>
    obtain ⟨k, hk, rfl, hbest, hbel⟩ := hrel
    clear HB0
    by_cases hlt : k < L.length
    · obtain ⟨x, hx⟩ : ∃ x, L[k]? = some x := ⟨L[k], List.getElem?_eq_getElem hlt⟩
      obtain ⟨b, off, rfl, _, hcc⟩ := (HRL.out _ (Below.refl _ _)).elem PodV.cells_len (by omega) hx
      have c0 := keep (hcc 0 _ rfl)
      have c1 := keep (hcc 1 _ rfl)
      have c2 := keep (hcc 2 _ rfl)
      have c3 := keep (hcc 3 _ rfl)
      have c4 := keep (hcc 4 _ rfl)
      have c5 := keep (hcc 5 _ rfl)
      have c6 := keep (hcc 6 _ rfl)
      have c7 := keep (hcc 7 _ rfl)
      have c8 := keep (hcc 8 _ rfl)
      have c9 := keep (hcc 9 _ rfl)
      have c10 := keep (hcc 10 _ rfl)
      rw [Nat.add_zero] at c0
      have HX := Lib.hid hx
      have hd : decide ((k : Int) < (L.length : Int)) = true := decide_eq_true (by omega)
      clear hx hcc
      rcases Bool.eq_false_or_eq_true (mayB p x) with hm | hm
      · have HFX := Lib.hid hm
        have CM := Lib.hid (fun v => hm ▸ vref_May p x v)
        clear hm
        rcases hbest with ⟨hn, rfl⟩ | ⟨j, y, hs, hy, rfl⟩
        · have HN := Lib.hid ((best_next HX.out hn).trans (step_new HFX.out))
          clear hn
          go_upto_region 7 with fail
          have kk := fun d os => belStep hbel (below_regrown _ d os)
          refine wp_region_quiet_below (by kernel_rfl) (by kernel_rfl) ?_
          repeat ((with_reducible refine wpQuiet_step (fun K hK => ?_)); go_simp; (try (rw [if_neg]; rotate_left; · decide)); first | ((with_reducible refine hK _ ?_); clear hK K) | (apply Exists.intro; refine ⟨fun _ => ?_, hK _ ?_⟩; (first | (go_at_call 15; with_reducible exact Calls.regrown_of (CM.out _))); clear hK K))
          refine wpQuiet_nil (fun w1 hw1 => ?_)
          replace hbel := belStep hbel (bel_of_class hw1)
          clear hw1 kk
          go_wp2
          go_roundw
          case rel => exact ⟨k + 1, by omega, by push_cast; rfl, .inr ⟨k, x, HN.out, HX.out, rfl⟩, hbel⟩
          case measure => simp [intOf] <;> omega
        · have hjl : j < L.length := (List.getElem?_eq_some_iff.1 hy).1
          obtain ⟨b2, off2, eb, _, hcd⟩ := (HRL.out _ (Below.refl _ _)).elem PodV.cells_len (by omega) hy
          simp only [Option.some.injEq, Addr.mk.injEq, and_true] at eb
          obtain ⟨rfl, rfl⟩ := eb
          have d0 := keep (hcd 0 _ rfl)
          have d1 := keep (hcd 1 _ rfl)
          rw [Nat.add_zero] at d0
          have HY := Lib.hid hy
          have HB := Lib.hid (best_next HX.out hs)
          clear hs hy hcd
          have hj0 : ¬ ((j : Int) < 0) := by omega
          have hj1 : decide ((j : Int) < 0) = false := decide_eq_false hj0
          rcases Int.lt_trichotomy y.prio x.prio with hg | hg | hg
          · have HN := Lib.hid (HB.out.trans (step_gt HFX.out hg))
            have hg1 : decide (y.prio < x.prio) = true := decide_eq_true hg
            go_upto_region 7 with fail
            have kk := fun d os => belStep hbel (below_regrown _ d os)
            refine wp_region_quiet_below (by kernel_rfl) (by kernel_rfl) ?_
            repeat ((with_reducible refine wpQuiet_step (fun K hK => ?_)); go_simp; (try (rw [if_neg]; rotate_left; · decide)); first | ((with_reducible refine hK _ ?_); clear hK K) | (apply Exists.intro; refine ⟨fun _ => ?_, hK _ ?_⟩; (first | (go_at_call 15; with_reducible exact Calls.regrown_of (CM.out _))); clear hK K))
            refine wpQuiet_nil (fun w1 hw1 => ?_)
            replace hbel := belStep hbel (bel_of_class hw1)
            clear hw1 kk
            go_wp2
            go_roundw
            case rel => exact ⟨k + 1, by omega, by push_cast; rfl, .inr ⟨k, x, HN.out, HX.out, rfl⟩, hbel⟩
            case measure => simp [intOf] <;> omega
          · have hg0 : ¬ (y.prio < x.prio) := by omega
            have hg1 : decide (y.prio < x.prio) = false := decide_eq_false hg0
            have hg2 : (x.prio == y.prio) = true := by simp [hg]
            have HG := Lib.hid hg.symm
            clear hg
            cases hi : Op.bytesLess x.id.toList y.id.toList with
            | true =>
              have HN := Lib.hid (HB.out.trans (step_id HFX.out HG.out hi))
              go_upto_region 7 with fail
              have kk := fun d os => belStep hbel (below_regrown _ d os)
              refine wp_region_quiet_below (by kernel_rfl) (by kernel_rfl) ?_
              repeat ((with_reducible refine wpQuiet_step (fun K hK => ?_)); go_simp; (try (rw [if_neg]; rotate_left; · decide)); first | ((with_reducible refine hK _ ?_); clear hK K) | (apply Exists.intro; refine ⟨fun _ => ?_, hK _ ?_⟩; (first | (go_at_call 15; with_reducible exact Calls.regrown_of (CM.out _))); clear hK K))
              refine wpQuiet_nil (fun w1 hw1 => ?_)
              replace hbel := belStep hbel (bel_of_class hw1)
              clear hw1 kk
              go_wp2
              go_roundw
              case rel => exact ⟨k + 1, by omega, by push_cast; rfl, .inr ⟨k, x, HN.out, HX.out, rfl⟩, hbel⟩
              case measure => simp [intOf] <;> omega
            | false =>
              have HN := Lib.hid (HB.out.trans (step_noid HG.out hi))
              go_upto_region 7 with fail
              have kk := fun d os => belStep hbel (below_regrown _ d os)
              refine wp_region_quiet_below (by kernel_rfl) (by kernel_rfl) ?_
              repeat ((with_reducible refine wpQuiet_step (fun K hK => ?_)); go_simp; (try (rw [if_neg]; rotate_left; · decide)); first | ((with_reducible refine hK _ ?_); clear hK K) | (apply Exists.intro; refine ⟨fun _ => ?_, hK _ ?_⟩; (first | (go_at_call 15; with_reducible exact Calls.regrown_of (CM.out _))); clear hK K))
              refine wpQuiet_nil (fun w1 hw1 => ?_)
              replace hbel := belStep hbel (bel_of_class hw1)
              clear hw1 kk
              go_wp2
              have HNY := HY
              go_roundw
              case rel => exact ⟨k + 1, by omega, by push_cast; rfl, .inr ⟨j, y, HN.out, HY.out, rfl⟩, hbel⟩
              case measure => simp [intOf] <;> omega
          · have HN := Lib.hid (HB.out.trans (step_lt hg))
            have hg0 : ¬ (y.prio < x.prio) := by omega
            have hg1 : decide (y.prio < x.prio) = false := decide_eq_false hg0
            have hg2 : (x.prio == y.prio) = false := by simp; omega
            go_upto_region 7 with fail
            have kk := fun d os => belStep hbel (below_regrown _ d os)
            refine wp_region_quiet_below (by kernel_rfl) (by kernel_rfl) ?_
            repeat ((with_reducible refine wpQuiet_step (fun K hK => ?_)); go_simp; (try (rw [if_neg]; rotate_left; · decide)); first | ((with_reducible refine hK _ ?_); clear hK K) | (apply Exists.intro; refine ⟨fun _ => ?_, hK _ ?_⟩; (first | (go_at_call 15; with_reducible exact Calls.regrown_of (CM.out _))); clear hK K))
            refine wpQuiet_nil (fun w1 hw1 => ?_)
            replace hbel := belStep hbel (bel_of_class hw1)
            clear hw1 kk
            go_wp2
            go_roundw
            case rel => exact ⟨k + 1, by omega, by push_cast; rfl, .inr ⟨j, y, HN.out, HY.out, rfl⟩, hbel⟩
            case measure => simp [intOf] <;> omega
      · have HFX := Lib.hid hm
        have CM := Lib.hid (fun v => hm ▸ vref_May p x v)
        clear hm
        go_upto_region 7 with fail
        have kk := fun d os => belStep hbel (below_regrown _ d os)
        refine wp_region_quiet_below (by kernel_rfl) (by kernel_rfl) ?_
        repeat ((with_reducible refine wpQuiet_step (fun K hK => ?_)); go_simp; (try (rw [if_neg]; rotate_left; · decide)); first | ((with_reducible refine hK _ ?_); clear hK K) | (apply Exists.intro; refine ⟨fun _ => ?_, hK _ ?_⟩; (first | (go_at_call 15; with_reducible exact Calls.regrown_of (CM.out _))); clear hK K))
        refine wpQuiet_nil (fun w1 hw1 => ?_)
        replace hbel := belStep hbel (bel_of_class hw1)
        clear hw1 kk
        go_wp2
        go_roundw
        case rel => exact ⟨k + 1, by omega, by push_cast; rfl, best_skip HX.out HFX.out hbest, hbel⟩
        case measure => simp [intOf] <;> omega
    · obtain rfl : k = L.length := by omega
      have hd : decide ((L.length : Int) < (L.length : Int)) = false := decide_eq_false (by omega)
      unfold BestR at hbest
      rw [List.take_length] at hbest
      have CXL := Lib.hid (fun u (hu : Below W2.heap.size W2 u) => CX.out HF.out u (belStep hw hu))
      go_upto_region 10 with (go_at_call 16; (with_reducible refine (CXL.out _ hbel).mono ?_); rintro e w4 ⟨⟨bx, nx, rfl, hrx⟩, hb4⟩; replace hbel := belStep hbel hb4; clear hb4)
      have HX := Lib.hid hrx
      clear hrx CX CXL
      rcases hbest with ⟨hn, rfl⟩ | ⟨j, y, hs, hy, rfl⟩
      · have hcl : (c.getD []).length = 0 := by
          cases c with
          | none => rfl
          | some G => rw [spares_none HF.out.dist hn HC.out]; rfl
        rw [hcl]
        clear hn
        go_wp2
        go_ret
        exact ⟨rfl, belStep hw hbel⟩
      · have hjl : j < L.length := (List.getElem?_eq_some_iff.1 hy).1
        have hj0 : ¬ ((j : Int) < 0) := by omega
        have hj1 : decide ((j : Int) < 0) = false := decide_eq_false hj0
        rcases c with _ | G
        · simp only [Option.getD_none, List.length_nil, Option.isSome_none]
          clear hs hy
          go_wp2
          go_ret
          exact ⟨rfl, belStep hw hbel⟩
        · simp only [Option.getD_some, Option.isSome_some] at HX ⊢
          have HSP := Lib.hid (spares HF.out HC.out hs)
          have HOKY := Lib.hid (HOK.out y (List.mem_of_getElem? hy))
          clear hs
          go_upto_region 12 with fail
          have HB24 := Lib.hid hbel
          replace rm0 := keepOnP rm0 hbel
          replace rm1 := keepOnP rm1 hbel
          replace rm2 := keepOnP rm2 hbel
          replace pp0 := keepOnP pp0 hbel
          replace pp1 := keepOnP pp1 hbel
          replace pp2 := keepOnP pp2 hbel
          replace pp3 := keepOnP pp3 hbel
          replace pp4 := keepOnP pp4 hbel
          replace pp5 := keepOnP pp5 hbel
          replace pp6 := keepOnP pp6 hbel
          replace pp7 := keepOnP pp7 hbel
          replace pp8 := keepOnP pp8 hbel
          replace pp9 := keepOnP pp9 hbel
          replace pp10 := keepOnP pp10 hbel
          replace hw := belStep hw hbel
          clear hbel
          generalize w4 = W3 at *
          have hbel : Below W3.heap.size W3 W3 := Below.refl _ _
          have hz3 := hw.size
          have HRM := Lib.hid (fun u (hu : Below W3.heap.size W3 u) => HR.out.later (belStep hw hu))
          obtain ⟨b, off, rfl, _, hcc⟩ := (HRM.out _ (Below.refl _ _)).elem PodV.cells_len (by omega) hy
          have c0 := keep (hcc 0 _ rfl)
          have c1 := keep (hcc 1 _ rfl)
          have c2 := keep (hcc 2 _ rfl)
          have c3 := keep (hcc 3 _ rfl)
          have c4 := keep (hcc 4 _ rfl)
          have c5 := keep (hcc 5 _ rfl)
          have c6 := keep (hcc 6 _ rfl)
          have c7 := keep (hcc 7 _ rfl)
          have c8 := keep (hcc 8 _ rfl)
          have c9 := keep (hcc 9 _ rfl)
          have c10 := keep (hcc 10 _ rfl)
          rw [Nat.add_zero] at c0
          clear hy hcc
          have CHAS := Lib.hid (fun u (hu : Below W3.heap.size W3 u) => vref_Has bx G.length nx G y.id u rfl (HX.out.later hu))
          have CFX := Lib.hid (fun u (hu : Below W3.heap.size W3 u) => vref_Fixed p (some ⟨b, off, none⟩) L.length cap L u rfl (HRM.out u hu) (by omega))
          obtain ⟨KQ, hK⟩ : ∃ KQ, stF L p ++ [p] = KQ := ⟨_, rfl⟩
          have hKL : KQ.length ≤ 1000 := by rw [← hK, List.length_append]; have := List.length_filter_le (fun v => !mayB p v) L; unfold stF; simp only [List.length_cons, List.length_nil]; omega
          have HOKK := Lib.hid (show ∀ x ∈ KQ ++ [y], x.ok from by rw [← hK]; exact ok_snoc (ok_snoc (fun x hx => HOK.out x (List.mem_filter.1 hx).1) HPO.out) HOKY.out)
          rw [hK] at HSP CFX
          clear hK
          obtain ⟨hv, ehv⟩ : ∃ h, hasB G y.id = h := ⟨_, rfl⟩
          rw [ehv] at HSP CHAS
          clear ehv
          refine wp_region_held_drew (S := fun u => Below W3.heap.size W3 u) (by kernel_rfl) (by exact (show Below W3.heap.size W3 _ by repeat (first | assumption | exact Below.refl _ _ | refine belDrew ?_ | refine belAlloc ?_ _ | refine belStep ?_ (by assumption)))) (fun hHeld => ?_)
          refine wpAnyH_take (i := 0) (oi := ?oi_k5) (v := ?v_k5) ?hi_k5 (by kernel_rfl) ?hf_k5 ?hr_k5 ?hQ_k5 (Or.inl ⟨?hw_k5, ?hy_k5⟩) (by assumption) ?rest_k5
          case hi_k5 => ((simp only [List.getElem?_toArray, List.getElem?_cons_succ, List.getElem?_cons_zero]); rfl)
          case hf_k5 => kernel_rfl
          case hr_k5 => kernel_rfl
          case hQ_k5 => exact fun _ _ _ h => h
          case hw_k5 => rfl
          case hy_k5 => ((intro w hSw; (try dsimp only at hSw); go_simp); all_goals (with_reducible rfl))
          try simp only [Act.put, List.setIfInBounds_toArray, List.set_cons_zero, List.set_cons_succ]
          refine wpAnyH_take (i := 1) (oi := ?oi_k6) (v := ?v_k6) ?hi_k6 (by kernel_rfl) ?hf_k6 ?hr_k6 ?hQ_k6 (Or.inl ⟨?hw_k6, ?hy_k6⟩) (by assumption) ?rest_k6
          case hi_k6 => ((simp only [List.getElem?_toArray, List.getElem?_cons_succ, List.getElem?_cons_zero]); rfl)
          case hf_k6 => kernel_rfl
          case hr_k6 => kernel_rfl
          case hQ_k6 => exact fun _ _ _ h => h
          case hw_k6 => rfl
          case hy_k6 => ((intro w hSw; (try dsimp only at hSw); go_simp); all_goals (with_reducible rfl))
          try simp only [Act.put, List.setIfInBounds_toArray, List.set_cons_zero, List.set_cons_succ]
          refine wpAnyH_take (i := 2) (oi := ?oi_k7) (v := ?v_k7) ?hi_k7 (by kernel_rfl) ?hf_k7 ?hr_k7 ?hQ_k7 (Or.inl ⟨?hw_k7, ?hy_k7⟩) (by assumption) ?rest_k7
          case hi_k7 => ((simp only [List.getElem?_toArray, List.getElem?_cons_succ, List.getElem?_cons_zero]); rfl)
          case hf_k7 => kernel_rfl
          case hr_k7 => kernel_rfl
          case hQ_k7 => exact fun _ _ _ h => h
          case hw_k7 => rfl
          case hy_k7 => ((intro w hSw; (try dsimp only at hSw); go_simp); all_goals (with_reducible rfl))
          try simp only [Act.put, List.setIfInBounds_toArray, List.set_cons_zero, List.set_cons_succ]
          refine wpAnyH_take (i := 3) (oi := ?oi_k8) (v := ?v_k8) ?hi_k8 (by kernel_rfl) ?hf_k8 ?hr_k8 ?hQ_k8 (Or.inl ⟨?hw_k8, ?hy_k8⟩) (by assumption) ?rest_k8
          case hi_k8 => ((simp only [List.getElem?_toArray, List.getElem?_cons_succ, List.getElem?_cons_zero]); rfl)
          case hf_k8 => kernel_rfl
          case hr_k8 => kernel_rfl
          case hQ_k8 => exact fun _ _ _ h => h
          case hw_k8 => rfl
          case hy_k8 => ((intro w hSw; (try dsimp only at hSw); go_simp); all_goals (with_reducible rfl))
          try simp only [Act.put, List.setIfInBounds_toArray, List.set_cons_zero, List.set_cons_succ]
          refine wpAnyH_take (i := 4) (oi := ?oi_k9) (v := ?v_k9) ?hi_k9 (by kernel_rfl) ?hf_k9 ?hr_k9 ?hQ_k9 (Or.inl ⟨?hw_k9, ?hy_k9⟩) (by assumption) ?rest_k9
          case hi_k9 => ((simp only [List.getElem?_toArray, List.getElem?_cons_succ, List.getElem?_cons_zero]); rfl)
          case hf_k9 => kernel_rfl
          case hr_k9 => kernel_rfl
          case hQ_k9 => exact fun _ _ _ h => h
          case hw_k9 => rfl
          case hy_k9 => ((intro w hSw; (try dsimp only at hSw); go_simp); all_goals (with_reducible rfl))
          try simp only [Act.put, List.setIfInBounds_toArray, List.set_cons_zero, List.set_cons_succ]
          refine wpAnyH_take (i := 5) (oi := ?oi_k10) (v := ?v_k10) ?hi_k10 (by kernel_rfl) ?hf_k10 ?hr_k10 ?hQ_k10 (Or.inl ⟨?hw_k10, ?hy_k10⟩) (by assumption) ?rest_k10
          case hi_k10 => ((simp only [List.getElem?_toArray, List.getElem?_cons_succ, List.getElem?_cons_zero]); rfl)
          case hf_k10 => kernel_rfl
          case hr_k10 => kernel_rfl
          case hQ_k10 => exact fun _ _ _ h => h
          case hw_k10 => rfl
          case hy_k10 => ((intro w hSw; (try dsimp only at hSw); go_simp); all_goals (with_reducible rfl))
          try simp only [Act.put, List.setIfInBounds_toArray, List.set_cons_zero, List.set_cons_succ]
          refine wpAnyH_take (i := 7) (oi := ?oi_k11) (v := ?v_k11) ?hi_k11 (by kernel_rfl) ?hf_k11 ?hr_k11 ?hQ_k11 (Or.inl ⟨?hw_k11, ?hy_k11⟩) (by assumption) ?rest_k11
          case hi_k11 => ((simp only [List.getElem?_toArray, List.getElem?_cons_succ, List.getElem?_cons_zero]); rfl)
          case hf_k11 => kernel_rfl
          case hr_k11 => kernel_rfl
          case hQ_k11 => exact fun _ _ _ h => h
          case hw_k11 => rfl
          case hy_k11 => ((intro w hSw; (try dsimp only at hSw); go_simp); all_goals (with_reducible rfl))
          try simp only [Act.put, List.setIfInBounds_toArray, List.set_cons_zero, List.set_cons_succ]
          refine wpAnyH_take (i := 8) (oi := ?oi_k12) (v := ?v_k12) ?hi_k12 (by kernel_rfl) ?hf_k12 ?hr_k12 ?hQ_k12 (Or.inl ⟨?hw_k12, ?hy_k12⟩) (by assumption) ?rest_k12
          case hi_k12 => ((simp only [List.getElem?_toArray, List.getElem?_cons_succ, List.getElem?_cons_zero]); rfl)
          case hf_k12 => kernel_rfl
          case hr_k12 => kernel_rfl
          case hQ_k12 => exact fun _ _ _ h => h
          case hw_k12 => rfl
          case hy_k12 => ((intro w hSw; (try dsimp only at hSw); go_simp); all_goals (with_reducible rfl))
          try simp only [Act.put, List.setIfInBounds_toArray, List.set_cons_zero, List.set_cons_succ]
          refine wpAnyH_take (i := 9) (oi := ?oi_k13) (v := ?v_k13) ?hi_k13 (by kernel_rfl) ?hf_k13 ?hr_k13 ?hQ_k13 (Or.inl ⟨?hw_k13, ?hy_k13⟩) (by assumption) ?rest_k13
          case hi_k13 => ((simp only [List.getElem?_toArray, List.getElem?_cons_succ, List.getElem?_cons_zero]); rfl)
          case hf_k13 => kernel_rfl
          case hr_k13 => kernel_rfl
          case hQ_k13 => exact fun _ _ _ h => h
          case hw_k13 => rfl
          case hy_k13 => ((intro w hSw; (try dsimp only at hSw); go_simp); all_goals (with_reducible rfl))
          try simp only [Act.put, List.setIfInBounds_toArray, List.set_cons_zero, List.set_cons_succ]
          refine wpAnyH_take (i := 11) (oi := ?oi_k14) (v := ?v_k14) ?hi_k14 (by kernel_rfl) ?hf_k14 ?hr_k14 ?hQ_k14 (Or.inl ⟨?hw_k14, ?hy_k14⟩) (by assumption) ?rest_k14
          case hi_k14 => ((simp only [List.getElem?_toArray, List.getElem?_cons_succ, List.getElem?_cons_zero]); rfl)
          case hf_k14 => kernel_rfl
          case hr_k14 => kernel_rfl
          case hQ_k14 => exact fun _ _ _ h => h
          case hw_k14 => rfl
          case hy_k14 => ((intro w hSw; (try dsimp only at hSw); go_simp); all_goals (with_reducible rfl))
          try simp only [Act.put, List.setIfInBounds_toArray, List.set_cons_zero, List.set_cons_succ]
          refine wpAnyH_take (i := 12) (oi := ?oi_k15) (v := ?v_k15) ?hi_k15 (by kernel_rfl) ?hf_k15 ?hr_k15 ?hQ_k15 (Or.inl ⟨?hw_k15, ?hy_k15⟩) (by assumption) ?rest_k15
          case hi_k15 => ((simp only [List.getElem?_toArray, List.getElem?_cons_succ, List.getElem?_cons_zero]); rfl)
          case hf_k15 => kernel_rfl
          case hr_k15 => kernel_rfl
          case hQ_k15 => exact fun _ _ _ h => h
          case hw_k15 => rfl
          case hy_k15 => ((intro w hSw; (try dsimp only at hSw); go_simp); all_goals (with_reducible rfl))
          try simp only [Act.put, List.setIfInBounds_toArray, List.set_cons_zero, List.set_cons_succ]
          refine wpAnyH_take (i := 13) (oi := ?oi_k16) (v := ?v_k16) ?hi_k16 (by kernel_rfl) ?hf_k16 ?hr_k16 ?hQ_k16 (Or.inl ⟨?hw_k16, ?hy_k16⟩) (by assumption) ?rest_k16
          case hi_k16 => ((simp only [List.getElem?_toArray, List.getElem?_cons_succ, List.getElem?_cons_zero]); rfl)
          case hf_k16 => kernel_rfl
          case hr_k16 => kernel_rfl
          case hQ_k16 => exact fun _ _ _ h => h
          case hw_k16 => rfl
          case hy_k16 => ((intro w hSw; (try dsimp only at hSw); go_simp); all_goals (with_reducible rfl))
          try simp only [Act.put, List.setIfInBounds_toArray, List.set_cons_zero, List.set_cons_succ]
          refine wpAnyH_take (i := 14) (oi := ?oi_k17) (v := ?v_k17) ?hi_k17 (by kernel_rfl) ?hf_k17 ?hr_k17 ?hQ_k17 (Or.inl ⟨?hw_k17, ?hy_k17⟩) (by assumption) ?rest_k17
          case hi_k17 => ((simp only [List.getElem?_toArray, List.getElem?_cons_succ, List.getElem?_cons_zero]); rfl)
          case hf_k17 => kernel_rfl
          case hr_k17 => kernel_rfl
          case hQ_k17 => exact fun _ _ _ h => h
          case hw_k17 => rfl
          case hy_k17 => ((intro w hSw; (try dsimp only at hSw); go_simp); all_goals (with_reducible rfl))
          try simp only [Act.put, List.setIfInBounds_toArray, List.set_cons_zero, List.set_cons_succ]
          refine krip (fun u u' => Below u.heap.size u u') [99, 103, 108] [[], [], [], [], [], [], [], [], [], [], [6], [], [], [], [], [], [6, 10, 15], [6, 10, 15], [6, 10, 15], [6, 10, 15]] [[], [], [], [], [], [], [99], [], [], [], [103], [], [], [], [], [108], [], [], [], []] [6, 10, 15] (krF [(6, fun t u => t 99 = .bool hv), (10, fun t u => OwnR u (W3.heap.size) 25 11 (t 103) (KQ.length) (KQ.flatMap PodV.cells)), (15, fun t u => ∃ g : Nat, t 108 = .slice (some ⟨g, 0, none⟩) 1 1 ∧ Row u (some ⟨g, 0, none⟩) 1 1 11 (y.cells))]) 4 #[true, true, true, true, true, true, true, true, true, true, true, true, true, true, true, true, false, false, false, false] (by kernel_rfl) (by kernel_rfl) (by kernel_rfl) (by assumption) (AllL.cons ?s_6_q18 (AllL.cons ?s_10_q18 (AllL.cons ?s_15_q18 AllL.nil))) (AllL.cons ?o_6_q18 (AllL.cons ?o_10_q18 (AllL.cons ?o_15_q18 AllL.nil))) ?e_q18
          case s_6_q18 => exact fun t u u' hle h => h
          case s_10_q18 => exact fun t u u' hle h => OwnR.later h hle
          case s_15_q18 => exact fun t u u' hle ⟨g, e, h⟩ => ⟨g, e, Row.later h hle⟩
          case o_6_q18 =>
            refine KrOp.of (o := ?oo_6_q18) ?hi_6_q18 (fun t u hHeld hF K hK => ?rr_6_q18)
            case hi_6_q18 => ((simp only [List.getElem?_toArray, List.getElem?_cons_succ, List.getElem?_cons_zero]); rfl)
            case rr_6_q18 =>
              clear hF
              simp only [setl, List.foldl_cons, List.foldl_nil, Act.put, List.setIfInBounds_toArray, List.set_cons_zero, List.set_cons_succ] at hK ⊢
              go_simp
              (go_at_call 23; (with_reducible refine (CHAS.out _ hHeld).mono ?_); rintro e wq ⟨rfl, hbq⟩)
              try go_simp
              refine hK.out _ _ (by exact (by repeat (first | assumption | exact Below.refl _ _ | refine belDrew ?_ | refine belAlloc ?_ _ | refine belStep ?_ (by assumption)))) (by exact (show Below W3.heap.size W3 _ by repeat (first | assumption | exact Below.refl _ _ | refine belDrew ?_ | refine belAlloc ?_ _ | refine belStep ?_ (by assumption)))) ?_
              exact rfl
          case o_10_q18 =>
            refine KrOp.of (o := ?oo_10_q18) ?hi_10_q18 (fun t u hHeld hF K hK => ?rr_10_q18)
            case hi_10_q18 => ((simp only [List.getElem?_toArray, List.getElem?_cons_succ, List.getElem?_cons_zero]); rfl)
            case rr_10_q18 =>
              have h6 : t 99 = .bool hv := hF 6 rfl rfl
              clear hF
              simp only [setl, List.foldl_cons, List.foldl_nil, Act.put, List.setIfInBounds_toArray, List.set_cons_zero, List.set_cons_succ] at hK ⊢
              generalize t 99 = x99 at *
              subst h6
              go_simp
              (go_at_call 24; (with_reducible refine (CFX.out _ hHeld).mono ?_); rintro e wq ⟨vq, rfl, hoq, hbq⟩)
              try go_simp
              refine hK.out _ _ (by exact (by repeat (first | assumption | exact Below.refl _ _ | refine belDrew ?_ | refine belAlloc ?_ _ | refine belStep ?_ (by assumption)))) (by exact (show Below W3.heap.size W3 _ by repeat (first | assumption | exact Below.refl _ _ | refine belDrew ?_ | refine belAlloc ?_ _ | refine belStep ?_ (by assumption)))) ?_
              exact OwnR.mono hoq (Below.size hHeld)
          case o_15_q18 =>
            refine KrOp.of (o := ?oo_15_q18) ?hi_15_q18 (fun t u hHeld hF K hK => ?rr_15_q18)
            case hi_15_q18 => ((simp only [List.getElem?_toArray, List.getElem?_cons_succ, List.getElem?_cons_zero]); rfl)
            case rr_15_q18 =>
              clear hF
              simp only [setl, List.foldl_cons, List.foldl_nil, Act.put, List.setIfInBounds_toArray, List.set_cons_zero, List.set_cons_succ] at hK ⊢
              go_simp
              refine hK.out _ _ (by exact (by repeat (first | assumption | exact Below.refl _ _ | refine belDrew ?_ | refine belAlloc ?_ _ | refine belStep ?_ (by assumption)))) (by exact (show Below W3.heap.size W3 _ by repeat (first | assumption | exact Below.refl _ _ | refine belDrew ?_ | refine belAlloc ?_ _ | refine belStep ?_ (by assumption)))) ?_
              exact ⟨_, rfl, row_new _ (y.cells) 25 1 11 rfl (by unfold maxLen; omega)⟩
          case e_q18 =>
            intro t u hHeld hF
            have h6 : t 99 = .bool hv := hF 6 rfl
            have h10 : OwnR u (W3.heap.size) 25 11 (t 103) (KQ.length) (KQ.flatMap PodV.cells) := hF 10 rfl
            have h15 : ∃ g : Nat, t 108 = .slice (some ⟨g, 0, none⟩) 1 1 ∧ Row u (some ⟨g, 0, none⟩) 1 1 11 (y.cells) := hF 15 rfl
            clear hF
            simp only [setl, List.foldl_cons, List.foldl_nil, Act.put, List.setIfInBounds_toArray, List.set_cons_zero, List.set_cons_succ]
            generalize t 99 = x99 at *
            generalize t 103 = x103 at *
            generalize t 108 = x108 at *
            obtain ⟨g15, rfl, hr15⟩ := h15
            subst h6
            have HO10 := Lib.hid h10
            clear h10
            refine wpAnyH_ready (rs := [16]) (by kernel_rfl) (by simp) ?_
            refine AllReadyH.cons (o := ?o1_ta1) ?hi_ta1 (fun K hK => ?rest_ta1) AllReadyH.nil
            case hi_ta1 => ((simp only [List.getElem?_toArray, List.getElem?_cons_succ, List.getElem?_cons_zero]); rfl)
            refine op_appR rfl _ _ 23 rfl (W3.heap.size) 25 _ 11 104 Try.underlying23 info_pod rfl (by decide) _ (KQ.length) _ (by rfl) HO10.out _ 1 1 (y.cells) (by rfl) hr15 (pod_one _) (by have := hKL; unfold maxLen; omega) (by have := hKL; omega) (Below.size hHeld) ?_
            intro v9 u9 ho9 hb9
            have hu9 : Below W3.heap.size W3 u9 := hHeld.trans hb9
            refine hK.out _ _ (by exact hu9) (fun hHeld => ?_)
            clear hK K hb9
            try simp only [Act.put, List.setIfInBounds_toArray, List.set_cons_zero, List.set_cons_succ]
            have CF9 := Lib.hid (show Calls Try.prog 18 #[.agg #[.int .i64 R.a, .int .i64 R.b, .int .i64 R.c], v9] u9 fun e w' => e = .returned (.bool (!hv)) ∧ Below u9.heap.size u9 w' from by have h := fits_own R (KQ ++ [y]) u9 (own_snoc ho9) HOKK.out; rw [show fitsB R (KQ ++ [y]) = !hv from HSP.out] at h; exact h)
            clear ho9
            refine wpAnyH_ready (rs := [17]) (by kernel_rfl) (by simp) ?_
            refine AllReadyH.cons (o := ?o1_k2) ?hi_k2 (fun K hK => ?rest_k2) AllReadyH.nil
            case hi_k2 => ((simp only [List.getElem?_toArray, List.getElem?_cons_succ, List.getElem?_cons_zero]); rfl)
            go_simp
            (go_at_call 18; (with_reducible refine CF9.out.mono ?_); rintro e w10 ⟨rfl, hb10⟩)
            try go_simp
            refine hK.out _ _ (by exact (show Below W3.heap.size W3 _ by repeat (first | assumption | exact Below.refl _ _ | refine belDrew ?_ | refine belAlloc ?_ _ | refine belStep ?_ (by assumption)))) (fun hHeld => ?_)
            clear hK K
            try simp only [Act.put, List.setIfInBounds_toArray, List.set_cons_zero, List.set_cons_succ]
            refine wpAnyH_take (i := 18) (oi := ?oi_k3) (v := ?v_k3) ?hi_k3 (by kernel_rfl) ?hf_k3 ?hr_k3 ?hQ_k3 (Or.inl ⟨?hw_k3, ?hy_k3⟩) (by assumption) ?rest_k3
            case hi_k3 => ((simp only [List.getElem?_toArray, List.getElem?_cons_succ, List.getElem?_cons_zero]); rfl)
            case hf_k3 => kernel_rfl
            case hr_k3 => kernel_rfl
            case hQ_k3 => exact fun _ _ _ h => h
            case hw_k3 => rfl
            case hy_k3 => ((intro w hSw; (try dsimp only at hSw); go_simp); all_goals (with_reducible rfl))
            try simp only [Act.put, List.setIfInBounds_toArray, List.set_cons_zero, List.set_cons_succ]
            refine wpAnyH_take (i := 19) (oi := ?oi_k4) (v := ?v_k4) ?hi_k4 (by kernel_rfl) ?hf_k4 ?hr_k4 ?hQ_k4 (Or.inl ⟨?hw_k4, ?hy_k4⟩) (by assumption) ?rest_k4
            case hi_k4 => ((simp only [List.getElem?_toArray, List.getElem?_cons_succ, List.getElem?_cons_zero]); rfl)
            case hf_k4 => kernel_rfl
            case hr_k4 => kernel_rfl
            case hQ_k4 => exact fun _ _ _ h => h
            case hw_k4 => rfl
            case hy_k4 => ((intro w hSw; (try dsimp only at hSw); go_simp); all_goals (with_reducible rfl))
            try simp only [Act.put, List.setIfInBounds_toArray, List.set_cons_zero, List.set_cons_succ]
            refine wpAnyH_done (by kernel_rfl) ?_ _
            have hbel : Below W3.heap.size W3 w10 := hHeld
            clear hHeld hu9
            go_wp2
            go_ret
            refine ⟨ret_bool ?_, belStep hw hbel⟩
            cases hv <;> rfl

set_option maxRecDepth 100000 in
theorem lifted (os : Os) (started : os.Started) (H : Type) (enc : TypeId × Value → H) :
    ReturnsInHanded {} Try.checked os 9 .any (Rows.victimSparesSpec.pre6 enc Try.prog Try.f9 Rows.victimSparesRow.domain false) (Rows.victimSparesSpec.post enc Try.prog Try.f9 false true false false) := by
  refine returnsInHanded_of_change (C := Try.checked) own started (by kernel_rfl) Try.func9
    (ChangeSpec.witness6 (enc := enc) (C := Try.checked) false ⟨#[], #[.agg #[.int .i64 0, .int .i64 0, .int .i64 0], .slice none 0 0, .agg #[.string ByteArray.empty, .int .i64 0, .bool false, .int .i64 0, .int .i64 0, .int .i64 0, .int .i64 0, .int .i64 0, .int .i64 0, .string ByteArray.empty, .int .i64 0]], []⟩ 8 (by kernel_rfl) (by kernel_rfl) (by kernel_rfl) (by kernel_rfl)) ?_
  intro W base args ds gs before hval0 hW hcnd _
  have hval : ∀ (j : Nat) t v, Try.f9.params[j]? = some t → args[j]? = some v → Value.okWide Try.prog W .any base t v := hval0
  have hW' := hW
  obtain ⟨p, q, hA0, hV, rfl, hfz, hnd⟩ := hW
  have hA : DataW.TrodAll enc Try.prog W 0 (fun _ => true) true Try.f9.params.toList args.toList ds p := hA0
  rw [Try.params9] at hA hval
  obtain ⟨v0, vs0, d0, ds0, p0, q0, hargs, rfl, rfl, h0, r0⟩ := trodAll_cons hA
  obtain ⟨v1, vs1, d1, ds1, p1, q1, rfl, rfl, rfl, h1, r1⟩ := trodAll_cons r0
  obtain ⟨v2, vs2, d2, ds2, p2, q2, rfl, rfl, rfl, h2, r2⟩ := trodAll_cons r1
  obtain ⟨rfl, rfl, rfl⟩ := trodAll_nil r2
  obtain rfl : args = #[v0, v1, v2] := by cases args; simp_all
  obtain ⟨rfl, rfl⟩ := trodVars_none hV
  have k0 := h0
  have lt0 : ∀ x ∈ p0, x.block < W.heap.size := by obtain ⟨m, hm⟩ := k0; exact DataW.trod_lt m _ _ _ hm
  have o0 : Value.okWide Try.prog W .any base 22 v0 := hval 0 22 v0 rfl rfl
  obtain ⟨R0, rfl, f0, g0, h0⟩ := open_room o0 h0
  have k1 := h1
  have lt1 : ∀ x ∈ p1, x.block < W.heap.size := by obtain ⟨m, hm⟩ := k1; exact DataW.trod_lt m _ _ _ hm
  have o1 : Value.okWide Try.prog W .any base 23 v1 := hval 1 23 v1 rfl rfl
  obtain ⟨a1, len1, cap1, L1, rfl, f1, g1, i1⟩ := open_pods o1 h1
  have k2 := h2
  have lt2 : ∀ x ∈ p2, x.block < W.heap.size := by obtain ⟨m, hm⟩ := k2; exact DataW.trod_lt m _ _ _ hm
  have o2 : Value.okWide Try.prog W .any base 25 v2 := hval 2 25 v2 rfl rfl
  obtain ⟨p2, rfl, f2⟩ := open_pod o2 h2
  clear hA0 hval0
  refine (walk R0 a1 len1 cap1 L1 p2 W f0 g0 h0 f1 g1 i1 f2).mono fun e W' ⟨he, bel⟩ => ?_
  subst he
  exact ⟨_, rfl, _, _, _, [], _, [], hW', trodAll_mk1 (shut_bool Try.underlying4 _), (trodAll_cons_mk (Below.trod laidOut (by kernel_rfl) (of_decide_eq_true (by kernel_rfl)) k0 bel lt0) (trodAll_cons_mk (Below.trod laidOut (by kernel_rfl) (of_decide_eq_true (by kernel_rfl)) k1 bel lt1) (trodAll_cons_mk (Below.trod laidOut (by kernel_rfl) (of_decide_eq_true (by kernel_rfl)) k2 bel lt2) trodAll_mk0))), rfl, bel.frame _, fun h => by cases h⟩

theorem over : Rows.victimSparesRow.holds Try.pinned (OpenSpec.ofChange Rows.victimSparesSpec) :=
  OpenClaim.holds_of_wide 9 Try.f9 rfl rfl rfl rfl rfl rfl rfl ⟨rfl, rfl, rfl, rfl, rfl⟩ rfl rfl rfl rfl rfl (by kernel_rfl) Try.func9 (by kernel_rfl)
    (of_decide_eq_true (by kernel_rfl)) (by unfold Func.isWrapper; first | (rw [if_pos (by decide +kernel)]; kernel_rfl) | (rw [if_neg (by decide +kernel)]; exact ⟨rfl, rfl⟩))
    (fun os started H enc _ => lifted os started H enc)

/-- The statement. -/
theorem proved : Rows.VictimSparesSaid := over
#print axioms proved

end Go.Proofs.Ytnnmganjlhojfaa.victimSpares
