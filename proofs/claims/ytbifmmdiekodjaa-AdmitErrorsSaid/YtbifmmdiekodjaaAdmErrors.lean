
/- AdmitErrors holds for every pod, conditions, number and phase. No conditions. -/
import Derived.Test.YtbifmmdiekodjaaAdmErrM
import Derived.Laws.BytesArg
import Derived.Shelf.Bytes.SlSmallAll
namespace Go.Proofs.Ytbifmmdiekodjaa.admitErrors
open Go.ChangeShapes Go.WideShapes Go.ChangeAt Go.RowKit
open Go.ChangeMaps (open_string shut_string)
set_option linter.unusedVariables false
set_option linter.unusedSimpArgs false
theorem conv_strE {w : World} {a : Option Addr} {len cap : Nat} {l : List Int} (h : Ints .u8 w a len cap l) : (convert 29 9 (.slice a len cap)).run Try.prog w = .ok (.string (strOfNums l)) w := by
  have hb := h.bounds
  by_cases h0 : len = 0
  · subst h0
    obtain rfl : l = [] := List.eq_nil_of_length_eq_zero hb.1
    exact run_convert_bytes_zero w _ _ Try.underlying29 Try.underlying5 a cap _ Try.underlying9
  · obtain ⟨b, off, rfl, _, hc⟩ := h.opened (by omega)
    exact run_convert_bytes_arg (P := Try.prog) w _ _ Try.underlying29 Try.underlying5 b off len cap l hb.1 hc _ Try.underlying9
theorem info_entE : (Try.prog.info? 31).map (fun i => (i.zero, i.size, i.bytes)) = some (some (.agg #[.string ⟨#[]⟩, .int .i64 0, .bool false, .int .i64 0, .int .i64 0, .int .i64 0, .int .i64 0, .int .i64 0, .int .i64 0, .string ⟨#[]⟩, .int .i64 0, .int .i64 0]), 12, 112) := by kernel_rfl
set_option maxRecDepth 100000 in
set_option maxHeartbeats 16000000 in
theorem walk (p : PodV) (O : On) (n ph : Int) (w : World) (hp : p.ok) (hn : 0 ≤ n ∧ n ≤ 255) (hph : 0 ≤ ph ∧ ph ≤ 255) :
    Calls Try.prog 3 #[p.v, .agg #[.bool O.a, .bool O.b, .bool O.c], .int .u8 n, .int .u8 ph] w fun e w' => e = .returned (.bool true) ∧ Below w.heap.size w w' := by
  unfold PodV.v
  have hw : Below w.heap.size w w := Below.refl _ _
  have hbel := hw
  have HPO := Lib.hid hp
  obtain ⟨sm, hsm⟩ : ∃ b, smallB p = b := ⟨_, rfl⟩
  have CSM := Lib.hid (fun v => hsm ▸ pref_Small p v hp)
  clear hsm hp
  obtain ⟨hn0, hn1⟩ := hn
  obtain ⟨hp0, hp1⟩ := hph
  obtain ⟨K, hK⟩ : ∃ K : Nat, n % 65 = (K : Int) := ⟨(n % 65).toNat, by omega⟩
  have hK64 : K ≤ 64 := by omega
  have HIN := Lib.hid (show InI (1 + ph % 3) by unfold InI; omega)
  go_enter Try.func3, Try.ntmps3
  go_upto_region 1 with fail
  have pp0 : ((w.alloc (.cells #[.string p.id, .int .i64 p.prio, .bool p.crit, .int .i64 p.r0, .int .i64 p.r1, .int .i64 p.r2, .int .i64 p.l0, .int .i64 p.l1, .int .i64 p.l2, .string p.img, .int .i64 p.size] 24)).alloc (.cells #[.bool O.a, .bool O.b, .bool O.c] 25)).cell? ⟨w.heap.size, 0, none⟩ = some (.string p.id) := by first | (simp; done) | (rw [World.cell?_alloc_at _ _ _ _ (by simp)]; rfl) | (rw [World.cell?_alloc_past _ _ _ (by simp <;> omega), World.cell?_alloc_at _ _ _ _ (by simp)]; rfl) | (rw [World.cell?_alloc_past _ _ _ (by simp <;> omega), World.cell?_alloc_past _ _ _ (by simp <;> omega), World.cell?_alloc_at _ _ _ _ (by simp)]; rfl)
  have pp1 : ((w.alloc (.cells #[.string p.id, .int .i64 p.prio, .bool p.crit, .int .i64 p.r0, .int .i64 p.r1, .int .i64 p.r2, .int .i64 p.l0, .int .i64 p.l1, .int .i64 p.l2, .string p.img, .int .i64 p.size] 24)).alloc (.cells #[.bool O.a, .bool O.b, .bool O.c] 25)).cell? ⟨w.heap.size, 1, none⟩ = some (.int .i64 p.prio) := by first | (simp; done) | (rw [World.cell?_alloc_at _ _ _ _ (by simp)]; rfl) | (rw [World.cell?_alloc_past _ _ _ (by simp <;> omega), World.cell?_alloc_at _ _ _ _ (by simp)]; rfl) | (rw [World.cell?_alloc_past _ _ _ (by simp <;> omega), World.cell?_alloc_past _ _ _ (by simp <;> omega), World.cell?_alloc_at _ _ _ _ (by simp)]; rfl)
  have pp2 : ((w.alloc (.cells #[.string p.id, .int .i64 p.prio, .bool p.crit, .int .i64 p.r0, .int .i64 p.r1, .int .i64 p.r2, .int .i64 p.l0, .int .i64 p.l1, .int .i64 p.l2, .string p.img, .int .i64 p.size] 24)).alloc (.cells #[.bool O.a, .bool O.b, .bool O.c] 25)).cell? ⟨w.heap.size, 2, none⟩ = some (.bool p.crit) := by first | (simp; done) | (rw [World.cell?_alloc_at _ _ _ _ (by simp)]; rfl) | (rw [World.cell?_alloc_past _ _ _ (by simp <;> omega), World.cell?_alloc_at _ _ _ _ (by simp)]; rfl) | (rw [World.cell?_alloc_past _ _ _ (by simp <;> omega), World.cell?_alloc_past _ _ _ (by simp <;> omega), World.cell?_alloc_at _ _ _ _ (by simp)]; rfl)
  have pp3 : ((w.alloc (.cells #[.string p.id, .int .i64 p.prio, .bool p.crit, .int .i64 p.r0, .int .i64 p.r1, .int .i64 p.r2, .int .i64 p.l0, .int .i64 p.l1, .int .i64 p.l2, .string p.img, .int .i64 p.size] 24)).alloc (.cells #[.bool O.a, .bool O.b, .bool O.c] 25)).cell? ⟨w.heap.size, 3, none⟩ = some (.int .i64 p.r0) := by first | (simp; done) | (rw [World.cell?_alloc_at _ _ _ _ (by simp)]; rfl) | (rw [World.cell?_alloc_past _ _ _ (by simp <;> omega), World.cell?_alloc_at _ _ _ _ (by simp)]; rfl) | (rw [World.cell?_alloc_past _ _ _ (by simp <;> omega), World.cell?_alloc_past _ _ _ (by simp <;> omega), World.cell?_alloc_at _ _ _ _ (by simp)]; rfl)
  have pp4 : ((w.alloc (.cells #[.string p.id, .int .i64 p.prio, .bool p.crit, .int .i64 p.r0, .int .i64 p.r1, .int .i64 p.r2, .int .i64 p.l0, .int .i64 p.l1, .int .i64 p.l2, .string p.img, .int .i64 p.size] 24)).alloc (.cells #[.bool O.a, .bool O.b, .bool O.c] 25)).cell? ⟨w.heap.size, 4, none⟩ = some (.int .i64 p.r1) := by first | (simp; done) | (rw [World.cell?_alloc_at _ _ _ _ (by simp)]; rfl) | (rw [World.cell?_alloc_past _ _ _ (by simp <;> omega), World.cell?_alloc_at _ _ _ _ (by simp)]; rfl) | (rw [World.cell?_alloc_past _ _ _ (by simp <;> omega), World.cell?_alloc_past _ _ _ (by simp <;> omega), World.cell?_alloc_at _ _ _ _ (by simp)]; rfl)
  have pp5 : ((w.alloc (.cells #[.string p.id, .int .i64 p.prio, .bool p.crit, .int .i64 p.r0, .int .i64 p.r1, .int .i64 p.r2, .int .i64 p.l0, .int .i64 p.l1, .int .i64 p.l2, .string p.img, .int .i64 p.size] 24)).alloc (.cells #[.bool O.a, .bool O.b, .bool O.c] 25)).cell? ⟨w.heap.size, 5, none⟩ = some (.int .i64 p.r2) := by first | (simp; done) | (rw [World.cell?_alloc_at _ _ _ _ (by simp)]; rfl) | (rw [World.cell?_alloc_past _ _ _ (by simp <;> omega), World.cell?_alloc_at _ _ _ _ (by simp)]; rfl) | (rw [World.cell?_alloc_past _ _ _ (by simp <;> omega), World.cell?_alloc_past _ _ _ (by simp <;> omega), World.cell?_alloc_at _ _ _ _ (by simp)]; rfl)
  have pp6 : ((w.alloc (.cells #[.string p.id, .int .i64 p.prio, .bool p.crit, .int .i64 p.r0, .int .i64 p.r1, .int .i64 p.r2, .int .i64 p.l0, .int .i64 p.l1, .int .i64 p.l2, .string p.img, .int .i64 p.size] 24)).alloc (.cells #[.bool O.a, .bool O.b, .bool O.c] 25)).cell? ⟨w.heap.size, 6, none⟩ = some (.int .i64 p.l0) := by first | (simp; done) | (rw [World.cell?_alloc_at _ _ _ _ (by simp)]; rfl) | (rw [World.cell?_alloc_past _ _ _ (by simp <;> omega), World.cell?_alloc_at _ _ _ _ (by simp)]; rfl) | (rw [World.cell?_alloc_past _ _ _ (by simp <;> omega), World.cell?_alloc_past _ _ _ (by simp <;> omega), World.cell?_alloc_at _ _ _ _ (by simp)]; rfl)
  have pp7 : ((w.alloc (.cells #[.string p.id, .int .i64 p.prio, .bool p.crit, .int .i64 p.r0, .int .i64 p.r1, .int .i64 p.r2, .int .i64 p.l0, .int .i64 p.l1, .int .i64 p.l2, .string p.img, .int .i64 p.size] 24)).alloc (.cells #[.bool O.a, .bool O.b, .bool O.c] 25)).cell? ⟨w.heap.size, 7, none⟩ = some (.int .i64 p.l1) := by first | (simp; done) | (rw [World.cell?_alloc_at _ _ _ _ (by simp)]; rfl) | (rw [World.cell?_alloc_past _ _ _ (by simp <;> omega), World.cell?_alloc_at _ _ _ _ (by simp)]; rfl) | (rw [World.cell?_alloc_past _ _ _ (by simp <;> omega), World.cell?_alloc_past _ _ _ (by simp <;> omega), World.cell?_alloc_at _ _ _ _ (by simp)]; rfl)
  have pp8 : ((w.alloc (.cells #[.string p.id, .int .i64 p.prio, .bool p.crit, .int .i64 p.r0, .int .i64 p.r1, .int .i64 p.r2, .int .i64 p.l0, .int .i64 p.l1, .int .i64 p.l2, .string p.img, .int .i64 p.size] 24)).alloc (.cells #[.bool O.a, .bool O.b, .bool O.c] 25)).cell? ⟨w.heap.size, 8, none⟩ = some (.int .i64 p.l2) := by first | (simp; done) | (rw [World.cell?_alloc_at _ _ _ _ (by simp)]; rfl) | (rw [World.cell?_alloc_past _ _ _ (by simp <;> omega), World.cell?_alloc_at _ _ _ _ (by simp)]; rfl) | (rw [World.cell?_alloc_past _ _ _ (by simp <;> omega), World.cell?_alloc_past _ _ _ (by simp <;> omega), World.cell?_alloc_at _ _ _ _ (by simp)]; rfl)
  have pp9 : ((w.alloc (.cells #[.string p.id, .int .i64 p.prio, .bool p.crit, .int .i64 p.r0, .int .i64 p.r1, .int .i64 p.r2, .int .i64 p.l0, .int .i64 p.l1, .int .i64 p.l2, .string p.img, .int .i64 p.size] 24)).alloc (.cells #[.bool O.a, .bool O.b, .bool O.c] 25)).cell? ⟨w.heap.size, 9, none⟩ = some (.string p.img) := by first | (simp; done) | (rw [World.cell?_alloc_at _ _ _ _ (by simp)]; rfl) | (rw [World.cell?_alloc_past _ _ _ (by simp <;> omega), World.cell?_alloc_at _ _ _ _ (by simp)]; rfl) | (rw [World.cell?_alloc_past _ _ _ (by simp <;> omega), World.cell?_alloc_past _ _ _ (by simp <;> omega), World.cell?_alloc_at _ _ _ _ (by simp)]; rfl)
  have pp10 : ((w.alloc (.cells #[.string p.id, .int .i64 p.prio, .bool p.crit, .int .i64 p.r0, .int .i64 p.r1, .int .i64 p.r2, .int .i64 p.l0, .int .i64 p.l1, .int .i64 p.l2, .string p.img, .int .i64 p.size] 24)).alloc (.cells #[.bool O.a, .bool O.b, .bool O.c] 25)).cell? ⟨w.heap.size, 10, none⟩ = some (.int .i64 p.size) := by first | (simp; done) | (rw [World.cell?_alloc_at _ _ _ _ (by simp)]; rfl) | (rw [World.cell?_alloc_past _ _ _ (by simp <;> omega), World.cell?_alloc_at _ _ _ _ (by simp)]; rfl) | (rw [World.cell?_alloc_past _ _ _ (by simp <;> omega), World.cell?_alloc_past _ _ _ (by simp <;> omega), World.cell?_alloc_at _ _ _ _ (by simp)]; rfl)
  have oo0 : ((w.alloc (.cells #[.string p.id, .int .i64 p.prio, .bool p.crit, .int .i64 p.r0, .int .i64 p.r1, .int .i64 p.r2, .int .i64 p.l0, .int .i64 p.l1, .int .i64 p.l2, .string p.img, .int .i64 p.size] 24)).alloc (.cells #[.bool O.a, .bool O.b, .bool O.c] 25)).cell? ⟨w.heap.size + 1, 0, none⟩ = some (.bool O.a) := by first | (simp; done) | (rw [World.cell?_alloc_at _ _ _ _ (by simp)]; rfl) | (rw [World.cell?_alloc_past _ _ _ (by simp <;> omega), World.cell?_alloc_at _ _ _ _ (by simp)]; rfl) | (rw [World.cell?_alloc_past _ _ _ (by simp <;> omega), World.cell?_alloc_past _ _ _ (by simp <;> omega), World.cell?_alloc_at _ _ _ _ (by simp)]; rfl)
  have oo1 : ((w.alloc (.cells #[.string p.id, .int .i64 p.prio, .bool p.crit, .int .i64 p.r0, .int .i64 p.r1, .int .i64 p.r2, .int .i64 p.l0, .int .i64 p.l1, .int .i64 p.l2, .string p.img, .int .i64 p.size] 24)).alloc (.cells #[.bool O.a, .bool O.b, .bool O.c] 25)).cell? ⟨w.heap.size + 1, 1, none⟩ = some (.bool O.b) := by first | (simp; done) | (rw [World.cell?_alloc_at _ _ _ _ (by simp)]; rfl) | (rw [World.cell?_alloc_past _ _ _ (by simp <;> omega), World.cell?_alloc_at _ _ _ _ (by simp)]; rfl) | (rw [World.cell?_alloc_past _ _ _ (by simp <;> omega), World.cell?_alloc_past _ _ _ (by simp <;> omega), World.cell?_alloc_at _ _ _ _ (by simp)]; rfl)
  have oo2 : ((w.alloc (.cells #[.string p.id, .int .i64 p.prio, .bool p.crit, .int .i64 p.r0, .int .i64 p.r1, .int .i64 p.r2, .int .i64 p.l0, .int .i64 p.l1, .int .i64 p.l2, .string p.img, .int .i64 p.size] 24)).alloc (.cells #[.bool O.a, .bool O.b, .bool O.c] 25)).cell? ⟨w.heap.size + 1, 2, none⟩ = some (.bool O.c) := by first | (simp; done) | (rw [World.cell?_alloc_at _ _ _ _ (by simp)]; rfl) | (rw [World.cell?_alloc_past _ _ _ (by simp <;> omega), World.cell?_alloc_at _ _ _ _ (by simp)]; rfl) | (rw [World.cell?_alloc_past _ _ _ (by simp <;> omega), World.cell?_alloc_past _ _ _ (by simp <;> omega), World.cell?_alloc_at _ _ _ _ (by simp)]; rfl)
  have hb2 := (by repeat (first | exact hbel | refine belAlloc ?_ _ | refine belDrew ?_ | refine belSet ?_ _ _ (by simp)) : Below w.heap.size w ((w.alloc (.cells #[.string p.id, .int .i64 p.prio, .bool p.crit, .int .i64 p.r0, .int .i64 p.r1, .int .i64 p.r2, .int .i64 p.l0, .int .i64 p.l1, .int .i64 p.l2, .string p.img, .int .i64 p.size] 24)).alloc (.cells #[.bool O.a, .bool O.b, .bool O.c] 25)))
  replace hw := belStep hw hb2
  clear hb2 hbel
  generalize (w.alloc (.cells #[.string p.id, .int .i64 p.prio, .bool p.crit, .int .i64 p.r0, .int .i64 p.r1, .int .i64 p.r2, .int .i64 p.l0, .int .i64 p.l1, .int .i64 p.l2, .string p.img, .int .i64 p.size] 24)).alloc (.cells #[.bool O.a, .bool O.b, .bool O.c] 25) = W1 at *
  replace pp0 := keep pp0
  replace pp1 := keep pp1
  replace pp2 := keep pp2
  replace pp3 := keep pp3
  replace pp4 := keep pp4
  replace pp5 := keep pp5
  replace pp6 := keep pp6
  replace pp7 := keep pp7
  replace pp8 := keep pp8
  replace pp9 := keep pp9
  replace pp10 := keep pp10
  replace oo0 := keep oo0
  replace oo1 := keep oo1
  replace oo2 := keep oo2
  have hbel : Below W1.heap.size W1 W1 := Below.refl _ _
  skip
  go_upto_region 3 with (first | (go_at_call 4; (with_reducible refine (awake23 _).mono ?_); rintro e w1 ⟨rfl, hb1⟩; replace hbel := belStep hbel hb1; clear hb1) | (go_at_call 5; (with_reducible refine (CSM.out _).mono ?_); rintro e w4 ⟨rfl, hb4⟩; replace hbel := belStep hbel hb4; clear hb4; rcases sm with _ | _))
  · go_ret
    exact ⟨rfl, belStep hw hbel⟩
  clear CSM
  replace pp0 := keepOnP pp0 hbel
  replace pp1 := keepOnP pp1 hbel
  replace pp2 := keepOnP pp2 hbel
  replace pp3 := keepOnP pp3 hbel
  replace pp4 := keepOnP pp4 hbel
  replace pp5 := keepOnP pp5 hbel
  replace pp6 := keepOnP pp6 hbel
  replace pp7 := keepOnP pp7 hbel
  replace pp8 := keepOnP pp8 hbel
  replace pp9 := keepOnP pp9 hbel
  replace pp10 := keepOnP pp10 hbel
  replace oo0 := keepOnP oo0 hbel
  replace oo1 := keepOnP oo1 hbel
  replace oo2 := keepOnP oo2 hbel
  replace hw := belStep hw hbel
  clear hbel
  generalize w4 = W2 at *
  have hbel : Below W2.heap.size W2 W2 := Below.refl _ _
  have HW2 := Lib.hid hw
  clear hw
  have HBB := Lib.hid hbel
  clear hbel
  go_wp2
  simp only [hK]
  go_loopw [9, 11] (fun s i wr => ∃ k : Nat, k ≤ K ∧ i = .int .i64 k ∧ OwnR wr W2.heap.size 31 12 s k ((tabE (1 + ph % 3) k).flatMap EntV.cells) ∧ Below W2.heap.size W2 wr) (fun _ i _ => K - (intOf i).toNat)
  case atStart => exact ⟨0, Nat.zero_le _, rfl, OwnR.nil _ _ _ _, HBB.out⟩
  case round =>
    obtain ⟨k, hk, rfl, hS, hbr⟩ := hrel
    clear HBB
    have HS := Lib.hid hS
    clear hS
    by_cases hlt : k < K
    · have hd : decide ((k : Int) < (K : Int)) = true := decide_eq_true (by omega)
      have hki : (k : Int) < (K : Int) := by omega
      have hk0 : (0 : Int) ≤ (k : Int) := by omega
      have hi := conv_strE (ints_new (k := .u8) wr [97 + (k : Int) / 26, 97 + (k : Int) % 26] 5 (0, 0) (by unfold maxLen; simp) (fun m hm => by simp at hm; rcases hm with rfl | rfl <;> exact WalkArith.wf_u8 ⟨by omega, by omega⟩))
      have HID := Lib.hid (id_built k (by omega))
      have z1 : (strOfNums [97 + (k : Int) / 26, 97 + (k : Int) % 26]).size = 2 := rfl
      simp only [List.map_cons, List.map_nil, List.length_cons, List.length_nil, Nat.zero_add] at hi
      generalize strOfNums [97 + (k : Int) / 26, 97 + (k : Int) % 26] = tx at *
      have hu1 : IntKind.u8.wrap (97 + (k : Int) / 26) = 97 + (k : Int) / 26 := IntWalk.u8_in _ (by omega)
      have hu2 : IntKind.u8.wrap (97 + (k : Int) % 26) = 97 + (k : Int) % 26 := IntWalk.u8_in _ (by omega)
      have HS2 := Lib.hid (OwnR.alloc (OwnR.alloc HS.out (.cells #[.int .u8 (97 + (k : Int) / 26), .int .u8 (97 + (k : Int) % 26)] 5)) (.cells #[.string (⟨#[110]⟩ ++ tx), .int .i64 0, .bool false, .int .i64 0, .int .i64 0, .int .i64 0, .int .i64 0, .int .i64 0, .int .i64 0, .string ⟨#[120]⟩, .int .i64 0, .int .i64 (1 + ph % 3)] 31))
      have HRX := Lib.hid (show Row ((wr.alloc (.cells #[.int .u8 (97 + (k : Int) / 26), .int .u8 (97 + (k : Int) % 26)] 5)).alloc (.cells #[.string (⟨#[110]⟩ ++ tx), .int .i64 0, .bool false, .int .i64 0, .int .i64 0, .int .i64 0, .int .i64 0, .int .i64 0, .int .i64 0, .string ⟨#[120]⟩, .int .i64 0, .int .i64 (1 + ph % 3)] 31)) (some ⟨wr.heap.size + 1, 0, none⟩) 1 1 12 [.string (⟨#[110]⟩ ++ tx), .int .i64 0, .bool false, .int .i64 0, .int .i64 0, .int .i64 0, .int .i64 0, .int .i64 0, .int .i64 0, .string ⟨#[120]⟩, .int .i64 0, .int .i64 (1 + ph % 3)] from by have h := row_new (wr.alloc (.cells #[.int .u8 (97 + (k : Int) / 26), .int .u8 (97 + (k : Int) % 26)] 5)) [.string (⟨#[110]⟩ ++ tx), .int .i64 0, .bool false, .int .i64 0, .int .i64 0, .int .i64 0, .int .i64 0, .int .i64 0, .int .i64 0, .string ⟨#[120]⟩, .int .i64 0, .int .i64 (1 + ph % 3)] 31 1 12 rfl (by unfold maxLen; omega); simpa using h)
      have HB2 := Lib.hid (belAlloc (belAlloc hbr (.cells #[.int .u8 (97 + (k : Int) / 26), .int .u8 (97 + (k : Int) % 26)] 5)) (.cells #[.string (⟨#[110]⟩ ++ tx), .int .i64 0, .bool false, .int .i64 0, .int .i64 0, .int .i64 0, .int .i64 0, .int .i64 0, .int .i64 0, .string ⟨#[120]⟩, .int .i64 0, .int .i64 (1 + ph % 3)] 31))
      go_wp2_with (at_builtin; go_loud (refine wpList_app_sep rfl _ _ 28 rfl W2.heap.size 31 _ 12 112 Try.underlying28 info_entE rfl (by decide) _ _ _ rfl HS2.out _ 1 1 [.string (⟨#[110]⟩ ++ tx), .int .i64 0, .bool false, .int .i64 0, .int .i64 0, .int .i64 0, .int .i64 0, .int .i64 0, .int .i64 0, .string ⟨#[120]⟩, .int .i64 0, .int .i64 (1 + ph % 3)] rfl HRX.out (by simp [Value.oneCell']) ?c1 ?c2 ?c3 ?_))
      case c1 => simp only [maxLen]; omega
      case c2 => omega
      case c3 => first | exact HB2.out.size | (have h1 := hbr.size; simp; omega)
      intro v' w2 ho' hb' _ _
      have HB3 := Lib.hid (HB2.out.trans hb')
      have HO := Lib.hid (show OwnR w2 W2.heap.size 31 12 v' (k + 1) ((tabE (1 + ph % 3) (k + 1)).flatMap EntV.cells) from by rw [tabE_next, List.flatMap_append]; rw [HID.out] at ho'; simpa [entE, EntV.cells] using ho')
      clear ho' hb' hi hbr
      go_wp2
      go_roundw
      case rel => exact ⟨k + 1, by omega, by push_cast; rfl, HO.out, HB3.out⟩
      case measure => simp [intOf] <;> omega
    · obtain rfl : k = K := by omega
      have hd : decide ((k : Int) < (k : Int)) = false := decide_eq_false (by omega)
      obtain ⟨ba, bc, rfl, hrow⟩ := rowR_of_own HS.out
      have HR := Lib.hid hrow
      clear hrow HS
      have hbel := hbr
      have hw := HW2.out
      replace pp0 := keepOnP pp0 hbel
      replace pp1 := keepOnP pp1 hbel
      replace pp2 := keepOnP pp2 hbel
      replace pp3 := keepOnP pp3 hbel
      replace pp4 := keepOnP pp4 hbel
      replace pp5 := keepOnP pp5 hbel
      replace pp6 := keepOnP pp6 hbel
      replace pp7 := keepOnP pp7 hbel
      replace pp8 := keepOnP pp8 hbel
      replace pp9 := keepOnP pp9 hbel
      replace pp10 := keepOnP pp10 hbel
      replace oo0 := keepOnP oo0 hbel
      replace oo1 := keepOnP oo1 hbel
      replace oo2 := keepOnP oo2 hbel
      replace hw := belStep hw hbel
      clear hbel
      generalize wr = W3 at *
      have hbel : Below W3.heap.size W3 W3 := Below.refl _ _
      have HW3 := Lib.hid hw
      clear hw hbel
      obtain ⟨TT, hTT⟩ : ∃ t, tabE (1 + ph % 3) k = t := ⟨_, rfl⟩
      have HTT := Lib.hid hTT
      rw [hTT] at HR
      have htl : TT.length = k := by rw [← hTT]; exact tabE_len _ _
      have HTD := Lib.hid (show Dist (podsOf TT) by rw [← hTT]; exact tabE_dist _ (by omega))
      have HTO := Lib.hid (show ∀ x ∈ TT, x.ok by rw [← hTT]; exact tabE_ok _ HIN.out k)
      clear hTT
      have hb0 : Below W3.heap.size W3 W3 := Below.refl _ _
      go_wp2
      go_loopw [12, 13] (fun t i wr => ∃ j : Nat, j ≤ k ∧ i = .int .i64 j ∧ t = .bool (idIn (TT.take j) p.id) ∧ Below W3.heap.size W3 wr) (fun _ i _ => k - (intOf i).toNat)
      case atStart => exact ⟨0, Nat.zero_le _, rfl, rfl, hb0⟩
      case round =>
        obtain ⟨j, hj, rfl, rfl, hbel⟩ := hrel
        clear hb0
        by_cases hjl : j < k
        · have hd : decide ((j : Int) < (k : Int)) = true := decide_eq_true (by omega)
          have hji : (j : Int) < (k : Int) := by omega
          have hj0 : (0 : Int) ≤ (j : Int) := by omega
          obtain ⟨x, hx⟩ : ∃ x, TT[j]? = some x := ⟨TT[j]'(by omega), List.getElem?_eq_getElem _⟩
          have HIX := Lib.hid (idIn_next (s := p.id) hx)
          obtain ⟨xb, xo, ex, _, hxc⟩ := (HR.out).elem EntV.cells_len (by omega) hx
          subst ex
          have x0 := keep (hxc 0 _ rfl)
          rw [Nat.add_zero] at x0
          clear hxc hx
          obtain ⟨it, hit⟩ : ∃ z, idIn (TT.take j) p.id = z := ⟨_, rfl⟩
          rw [hit] at HIX ⊢
          clear hit
          generalize x.pod.id = xid at *
          cases it with
          | false =>
            have HN := Lib.hid (show idIn (TT.take (j + 1)) p.id = (xid.toList == p.id.toList) by rw [HIX.out]; simp)
            go_wp2
            have kk := fun d os => belStep hbel (below_regrown _ d os)
            refine wp_region_quiet_below (by kernel_rfl) (by kernel_rfl) ?_
            repeat ((with_reducible refine wpQuiet_step (fun K hK => ?_)); go_simp; (try (rw [if_neg]; rotate_left; · decide)); first | ((with_reducible refine hK _ ?_); clear hK K) | (apply Exists.intro; refine ⟨fun _ => ?_, hK _ ?_⟩; (fail); clear hK K))
            refine wpQuiet_nil (fun w1 hw1 => ?_)
            replace hbel := belStep hbel (bel_of_class hw1)
            clear hw1 kk
            go_wp2
            go_roundw
            case rel => exact ⟨j + 1, by omega, by push_cast; rfl, by rw [HN.out], hbel⟩
            case measure => simp [intOf] <;> omega
          | true =>
            have HN := Lib.hid (show idIn (TT.take (j + 1)) p.id = true by rw [HIX.out]; simp)
            go_wp2
            have kk := fun d os => belStep hbel (below_regrown _ d os)
            refine wp_region_quiet_below (by kernel_rfl) (by kernel_rfl) ?_
            repeat ((with_reducible refine wpQuiet_step (fun K hK => ?_)); go_simp; (try (rw [if_neg]; rotate_left; · decide)); first | ((with_reducible refine hK _ ?_); clear hK K) | (apply Exists.intro; refine ⟨fun _ => ?_, hK _ ?_⟩; (fail); clear hK K))
            refine wpQuiet_nil (fun w1 hw1 => ?_)
            replace hbel := belStep hbel (bel_of_class hw1)
            clear hw1 kk
            go_wp2
            go_roundw
            case rel => exact ⟨j + 1, by omega, by push_cast; rfl, by rw [HN.out], hbel⟩
            case measure => simp [intOf] <;> omega
        · obtain rfl : j = k := by omega
          have hd : decide ((j : Int) < (j : Int)) = false := decide_eq_false (by omega)
          have hti : TT.take j = TT := by rw [List.take_of_length_le (by omega)]
          rw [hti]
          have HR2 := Lib.hid (HR.out.later hbel)
          have hw := HW3.out
          replace pp0 := keepOnP pp0 hbel
          replace pp1 := keepOnP pp1 hbel
          replace pp2 := keepOnP pp2 hbel
          replace pp3 := keepOnP pp3 hbel
          replace pp4 := keepOnP pp4 hbel
          replace pp5 := keepOnP pp5 hbel
          replace pp6 := keepOnP pp6 hbel
          replace pp7 := keepOnP pp7 hbel
          replace pp8 := keepOnP pp8 hbel
          replace pp9 := keepOnP pp9 hbel
          replace pp10 := keepOnP pp10 hbel
          replace oo0 := keepOnP oo0 hbel
          replace oo1 := keepOnP oo1 hbel
          replace oo2 := keepOnP oo2 hbel
          replace hw := belStep hw hbel
          clear hbel
          generalize wr = W4 at *
          have hbel : Below W4.heap.size W4 W4 := Below.refl _ _
          have HW4 := Lib.hid hw
          clear hti
          obtain ⟨rp, hrp⟩ : ∃ b, rightB p = b := ⟨_, rfl⟩
          have CRP := Lib.hid (fun v => hrp ▸ pref_Right p v HPO.out)
          have hrc := refused_cases TT p
          rw [hrp] at hrc
          obtain ⟨ti, hti⟩ : ∃ b, idIn TT p.id = b := ⟨_, rfl⟩
          rw [hti] at hrc ⊢
          clear hrp hti HR
          obtain ⟨⟨⟨k1, g1, G1⟩, er⟩, hD⟩ : ∃ D, decideF R9 TT O p = D := ⟨_, rfl⟩
          have HD2 := Lib.hid (fun (h : refusedF TT p = 0) => dec_kind hD h)
          have HD3 := Lib.hid (fun (z : Int) (h : refusedF TT p = z) (h2 : z ≠ 0) => hD.symm.trans (dec_err (R := R9) (O := O) h h2))
          have CD := Lib.hid (show ∀ u : World, Below W4.heap.size W4 u → Calls Try.prog 6 #[.agg #[.int .i64 100, .int .i64 50, .int .i64 10, .int .i64 9, .int .i64 9, .int .i64 9, .slice none 0 0, .int .i64 1, .int .i64 0, .int .i64 1, .int .i64 0], .slice ba j bc, .agg #[.bool O.a, .bool O.b, .bool O.c], .agg #[.string p.id, .int .i64 p.prio, .bool p.crit, .int .i64 p.r0, .int .i64 p.r1, .int .i64 p.r2, .int .i64 p.l0, .int .i64 p.l1, .int .i64 p.l2, .string p.img, .int .i64 p.size]] u fun e w' => (∃ b n, e = .returned (.tuple #[.agg #[.int .i64 k1, .int .i64 g1, .slice b G1.length n], .int .i64 er]) ∧ OwnS w' u.heap.size (.slice b G1.length n) G1) ∧ Below u.heap.size u w' from fun u hu => by have h := adm_Decide cS O p ba j bc TT u htl (HR2.out.later hu) (by omega) HTO.out HTD.out HPO.out; rw [show decideF ⟨cS.a0, cS.a1, cS.a2⟩ TT O p = _ from hD] at h; exact h)
          clear hD
          have hcs : (rp = false ∧ k1 = 0 ∧ g1 = 0 ∧ G1 = [] ∧ er = 1) ∨ (rp = true ∧ ti = true ∧ k1 = 0 ∧ g1 = 0 ∧ G1 = [] ∧ er = 5) ∨ (rp = true ∧ ti = false ∧ j = 64 ∧ k1 = 0 ∧ g1 = 0 ∧ G1 = [] ∧ er = 6) ∨ (rp = true ∧ ti = false ∧ j ≠ 64 ∧ 1 ≤ k1 ∧ k1 ≤ 4 ∧ er = 0) := by
            rcases hrc with ⟨h1, h2⟩ | ⟨h1, h2, h3⟩ | ⟨h1, h2, h3, h4⟩ | ⟨h1, h2, h3, h4⟩
            · have h := HD3.out 1 h1 (by omega)
              simp only [Prod.mk.injEq, VerdV.mk.injEq] at h
              exact .inl ⟨h2, h.1.1, h.1.2.1, h.1.2.2, h.2⟩
            · have h := HD3.out 5 h1 (by omega)
              simp only [Prod.mk.injEq, VerdV.mk.injEq] at h
              exact .inr (.inl ⟨h2, h3, h.1.1, h.1.2.1, h.1.2.2, h.2⟩)
            · have h := HD3.out 6 h1 (by omega)
              simp only [Prod.mk.injEq, VerdV.mk.injEq] at h
              exact .inr (.inr (.inl ⟨h2, h3, by omega, h.1.1, h.1.2.1, h.1.2.2, h.2⟩))
            · have h := HD2.out h1
              exact .inr (.inr (.inr ⟨h2, h3, by omega, h.2.1, h.2.2, h.1⟩))
          clear hrc HD2 HD3 hw
          rcases hcs with ⟨rfl, rfl, rfl, rfl, rfl⟩ | ⟨rfl, rfl, rfl, rfl, rfl, rfl⟩ | ⟨rfl, rfl, hj64, rfl, rfl, rfl, rfl⟩ | ⟨rfl, rfl, hj64, hk1, hk4, rfl⟩
          · go_wp2
            refine wp_region_held_drew (S := fun u => Below W4.heap.size W4 u) (by kernel_rfl) (by exact (show Below W4.heap.size W4 _ by repeat (first | assumption | exact Below.refl _ _ | refine belDrew ?_ | refine belAlloc ?_ _ | refine belStep ?_ (by assumption)))) (fun hHeld => ?_)
            refine wpAnyH_take (i := 1) (oi := ?oi_k1) (v := ?v_k1) ?hi_k1 (by kernel_rfl) ?hf_k1 ?hr_k1 ?hQ_k1 (Or.inl ⟨?hw_k1, ?hy_k1⟩) (by assumption) ?rest_k1
            case hi_k1 => ((simp only [List.getElem?_toArray, List.getElem?_cons_succ, List.getElem?_cons_zero]); rfl)
            case hf_k1 => kernel_rfl
            case hr_k1 => kernel_rfl
            case hQ_k1 => exact fun _ _ _ h => h
            case hw_k1 => rfl
            case hy_k1 => ((intro w hSw; (try dsimp only at hSw); go_simp); all_goals (with_reducible rfl))
            try simp only [Act.put, List.setIfInBounds_toArray, List.set_cons_zero, List.set_cons_succ]
            refine wpAnyH_take (i := 2) (oi := ?oi_k2) (v := ?v_k2) ?hi_k2 (by kernel_rfl) ?hf_k2 ?hr_k2 ?hQ_k2 (Or.inl ⟨?hw_k2, ?hy_k2⟩) (by assumption) ?rest_k2
            case hi_k2 => ((simp only [List.getElem?_toArray, List.getElem?_cons_succ, List.getElem?_cons_zero]); rfl)
            case hf_k2 => kernel_rfl
            case hr_k2 => kernel_rfl
            case hQ_k2 => exact fun _ _ _ h => h
            case hw_k2 => rfl
            case hy_k2 => ((intro w hSw; (try dsimp only at hSw); go_simp); all_goals (with_reducible rfl))
            try simp only [Act.put, List.setIfInBounds_toArray, List.set_cons_zero, List.set_cons_succ]
            refine wpAnyH_take (i := 3) (oi := ?oi_k3) (v := ?v_k3) ?hi_k3 (by kernel_rfl) ?hf_k3 ?hr_k3 ?hQ_k3 (Or.inl ⟨?hw_k3, ?hy_k3⟩) (by assumption) ?rest_k3
            case hi_k3 => ((simp only [List.getElem?_toArray, List.getElem?_cons_succ, List.getElem?_cons_zero]); rfl)
            case hf_k3 => kernel_rfl
            case hr_k3 => kernel_rfl
            case hQ_k3 => exact fun _ _ _ h => h
            case hw_k3 => rfl
            case hy_k3 => ((intro w hSw; (try dsimp only at hSw); go_simp); all_goals (with_reducible rfl))
            try simp only [Act.put, List.setIfInBounds_toArray, List.set_cons_zero, List.set_cons_succ]
            generalize W4.drew = d0 at *
            refine wpAnyH_ready (rs := [0, 8]) (by kernel_rfl) (by simp) ?_
            refine AllReadyH.cons (o := ?o1_w6) ?hi1_w6 (fun K hK => ?rest1_w6) (AllReadyH.cons (o := ?o2_w6) ?hi2_w6 (fun K hK => ?rest2_w6) AllReadyH.nil)
            case hi1_w6 => ((simp only [List.getElem?_toArray, List.getElem?_cons_succ, List.getElem?_cons_zero]); rfl)
            case hi2_w6 => ((simp only [List.getElem?_toArray, List.getElem?_cons_succ, List.getElem?_cons_zero]); rfl)
            case rest1_w6 =>
              go_simp
              (go_at_call 7; (with_reducible refine (some23 _).mono ?_); rintro e q0 ⟨rfl, hbq⟩)
              try go_simp
              refine hK.out _ _ (by exact (show Below W4.heap.size W4 _ by repeat (first | assumption | exact Below.refl _ _ | refine belDrew ?_ | refine belAlloc ?_ _ | refine belStep ?_ (by assumption)))) (fun hHeld => ?_)
              clear hK K
              try simp only [Act.put, List.setIfInBounds_toArray, List.set_cons_zero, List.set_cons_succ]
              generalize q0 = d1 at *
              refine wpAnyH_ready (rs := [4, 8]) (by kernel_rfl) (by simp) ?_
              refine AllReadyH.cons (o := ?o1_w5) ?hi1_w5 (fun K hK => ?rest1_w5) (AllReadyH.cons (o := ?o2_w5) ?hi2_w5 (fun K hK => ?rest2_w5) AllReadyH.nil)
              case hi1_w5 => ((simp only [List.getElem?_toArray, List.getElem?_cons_succ, List.getElem?_cons_zero]); rfl)
              case hi2_w5 => ((simp only [List.getElem?_toArray, List.getElem?_cons_succ, List.getElem?_cons_zero]); rfl)
              case rest1_w5 =>
                go_simp
                (go_at_call 6; (with_reducible refine (CD.out _ (by assumption)).mono ?_); rintro e q1 ⟨⟨b1, m1, rfl, ho1⟩, hbq2⟩)
                try go_simp
                obtain ⟨rw1, rw2, rw3, rw4, _⟩ := row_of_owns ho1
                have HRW := Lib.hid (fun u : World => (⟨rw1, rw2, rw3, rw4, .inl rfl⟩ : Row u b1 0 m1 1 ([] : List Value)))
                clear rw1 rw2 rw3 rw4
                clear ho1
                refine hK.out _ _ (by exact (show Below W4.heap.size W4 _ by repeat (first | assumption | exact Below.refl _ _ | refine belDrew ?_ | refine belAlloc ?_ _ | refine belStep ?_ (by assumption)))) (fun hHeld => ?_)
                clear hK K
                try simp only [Act.put, List.setIfInBounds_toArray, List.set_cons_zero, List.set_cons_succ]
                generalize q1 = d2 at *
                refine wpAnyH_take (i := 5) (oi := ?oi_k14) (v := ?v_k14) ?hi_k14 (by kernel_rfl) ?hf_k14 ?hr_k14 ?hQ_k14 (Or.inl ⟨?hw_k14, ?hy_k14⟩) (by assumption) ?rest_k14
                case hi_k14 => ((simp only [List.getElem?_toArray, List.getElem?_cons_succ, List.getElem?_cons_zero]); rfl)
                case hf_k14 => kernel_rfl
                case hr_k14 => kernel_rfl
                case hQ_k14 => exact fun _ _ _ h => h
                case hw_k14 => rfl
                case hy_k14 => ((intro w hSw; (try dsimp only at hSw); go_simp); all_goals (with_reducible rfl))
                try simp only [Act.put, List.setIfInBounds_toArray, List.set_cons_zero, List.set_cons_succ]
                refine wpAnyH_take (i := 6) (oi := ?oi_k15) (v := ?v_k15) ?hi_k15 (by kernel_rfl) ?hf_k15 ?hr_k15 ?hQ_k15 (Or.inl ⟨?hw_k15, ?hy_k15⟩) (by assumption) ?rest_k15
                case hi_k15 => ((simp only [List.getElem?_toArray, List.getElem?_cons_succ, List.getElem?_cons_zero]); rfl)
                case hf_k15 => kernel_rfl
                case hr_k15 => kernel_rfl
                case hQ_k15 => exact fun _ _ _ h => h
                case hw_k15 => rfl
                case hy_k15 => ((intro w hSw; (try dsimp only at hSw); go_simp); all_goals (with_reducible rfl))
                try simp only [Act.put, List.setIfInBounds_toArray, List.set_cons_zero, List.set_cons_succ]
                refine wpAnyH_take (i := 7) (oi := ?oi_k16) (v := ?v_k16) ?hi_k16 (by kernel_rfl) ?hf_k16 ?hr_k16 ?hQ_k16 (Or.inl ⟨?hw_k16, ?hy_k16⟩) (by assumption) ?rest_k16
                case hi_k16 => ((simp only [List.getElem?_toArray, List.getElem?_cons_succ, List.getElem?_cons_zero]); rfl)
                case hf_k16 => kernel_rfl
                case hr_k16 => kernel_rfl
                case hQ_k16 => exact fun _ _ _ h => h
                case hw_k16 => rfl
                case hy_k16 => ((intro w hSw; (try dsimp only at hSw); go_simp); all_goals (with_reducible rfl))
                try simp only [Act.put, List.setIfInBounds_toArray, List.set_cons_zero, List.set_cons_succ]
                refine wpAnyH_ready (rs := [8]) (by kernel_rfl) (by simp) ?_
                refine AllReadyH.cons (o := ?o1_v4) ?hi_v4 (fun K hK => ?rest_v4) AllReadyH.nil
                case hi_v4 => ((simp only [List.getElem?_toArray, List.getElem?_cons_succ, List.getElem?_cons_zero]); rfl)
                go_simp
                have hM := Below.size (show Below W4.heap.size W4 d2 by assumption)
                have hBM := Blk.new d2 [.int .i64 0, .int .i64 0, .slice none 0 0] 34
                have hba := belAlloc (show Below W4.heap.size W4 d2 by assumption) (.cells #[.int .i64 0, .int .i64 0, .slice none 0 0] 34)
                generalize d2.alloc (.cells #[.int .i64 0, .int .i64 0, .slice none 0 0] 34) = a8 at hBM hba ⊢
                generalize d2.heap.size = M at hBM hM ⊢
                refine hK.out _ _ (by exact (show Below W4.heap.size W4 _ by repeat (first | assumption | exact Below.refl _ _ | refine belDrew ?_ | refine belAlloc ?_ _ | refine belStep ?_ (by assumption)))) (fun hHeld => ?_)
                clear hK K
                try simp only [Act.put, List.setIfInBounds_toArray, List.set_cons_zero, List.set_cons_succ]
                generalize a8 = d3 at *
                have y0 := hBM.cell (j := 0) rfl
                have y1 := hBM.cell (j := 1) rfl
                have y2 := hBM.cell (j := 2) rfl
                have yf := hBM.frozen
                refine wpAnyH_ready (rs := [9]) (by kernel_rfl) (by simp) ?_
                refine AllReadyH.cons (o := ?o1_k17) ?hi_k17 (fun K hK => ?rest_k17) AllReadyH.nil
                case hi_k17 => ((simp only [List.getElem?_toArray, List.getElem?_cons_succ, List.getElem?_cons_zero]); rfl)
                go_simp
                clear y0 y1 y2 yf
                have hb10 := (belSet (belSet (belSet (show Below W4.heap.size W4 d3 from by assumption) ⟨M, 0, none⟩ (.int .i64 0) hM) ⟨M, 1, none⟩ (.int .i64 0) hM) ⟨M, 2, none⟩ (.slice b1 0 m1) hM)
                have hR10 := (((hBM.set 0 (.int .i64 0)).set 1 (.int .i64 0)).set 2 (.slice b1 0 m1))
                clear hBM hM
                generalize (((d3.setCell ⟨M, 0, none⟩ (.int .i64 0)).setCell ⟨M, 1, none⟩ (.int .i64 0)).setCell ⟨M, 2, none⟩ (.slice b1 0 m1)) = W5 at hb10 hR10 ⊢
                refine hK.out _ _ (by exact (show Below W4.heap.size W4 _ by repeat (first | assumption | exact Below.refl _ _ | refine belDrew ?_ | refine belAlloc ?_ _ | refine belStep ?_ (by assumption)))) (fun hHeld => ?_)
                clear hK K
                try simp only [Act.put, List.setIfInBounds_toArray, List.set_cons_zero, List.set_cons_succ]
                refine wpAnyH_take (i := 10) (oi := ?oi_k18) (v := ?v_k18) ?hi_k18 (by kernel_rfl) ?hf_k18 ?hr_k18 ?hQ_k18 (Or.inl ⟨?hw_k18, ?hy_k18⟩) (by assumption) ?rest_k18
                case hi_k18 => ((simp only [List.getElem?_toArray, List.getElem?_cons_succ, List.getElem?_cons_zero]); rfl)
                case hf_k18 => kernel_rfl
                case hr_k18 => kernel_rfl
                case hQ_k18 => exact fun _ _ _ h => h
                case hw_k18 => rfl
                case hy_k18 => ((intro w hSw; (try dsimp only at hSw); go_simp); all_goals (with_reducible rfl))
                try simp only [Act.put, List.setIfInBounds_toArray, List.set_cons_zero, List.set_cons_succ]
                refine wpAnyH_done (by kernel_rfl) ?_ _
                have CSA := Lib.hid (show ∀ u : World, Calls Try.prog 9 #[.agg #[.int .i64 0, .int .i64 0, .slice b1 0 m1], .agg #[.int .i64 0, .int .i64 0, .slice none 0 0]] u fun e w' => e = .returned (.bool true) ∧ Below u.heap.size u w' from fun u => by have h := rref_Same ⟨0, 0, []⟩ ⟨0, 0, []⟩ b1 none m1 0 u (HRW.out u) row_nil; rw [sameV_refl] at h; exact h)
                clear hHeld
                have v0 := keep (hR10.cell (j := 0) rfl)
                have v1 := keep (hR10.cell (j := 1) rfl)
                have v2 := keep (hR10.cell (j := 2) rfl)
                have hbel := hb10
                clear hb10 hR10
                replace pp0 := keepOnP pp0 hbel
                replace pp1 := keepOnP pp1 hbel
                replace pp2 := keepOnP pp2 hbel
                replace pp3 := keepOnP pp3 hbel
                replace pp4 := keepOnP pp4 hbel
                replace pp5 := keepOnP pp5 hbel
                replace pp6 := keepOnP pp6 hbel
                replace pp7 := keepOnP pp7 hbel
                replace pp8 := keepOnP pp8 hbel
                replace pp9 := keepOnP pp9 hbel
                replace pp10 := keepOnP pp10 hbel
                have HW5 := Lib.hid (belStep HW4.out hbel)
                clear hbel
                skip
                have hbel : Below W5.heap.size W5 W5 := Below.refl _ _
                go_wp2_with (first | (go_at_call 8; (with_reducible refine (CRP.out _).mono ?_); rintro e w1 ⟨rfl, hb1⟩; replace hbel := belStep hbel hb1; clear hb1) | (go_at_call 9; (with_reducible refine (CSA.out _).mono ?_); rintro e u9 ⟨rfl, hb9⟩; replace hbel := belStep hbel hb9))
                go_ret
                exact ⟨rfl, belStep HW5.out hbel⟩
              case rest2_w5 =>
                go_simp
                have hM := Below.size (show Below W4.heap.size W4 d1 by assumption)
                have hBM := Blk.new d1 [.int .i64 0, .int .i64 0, .slice none 0 0] 34
                have hba := belAlloc (show Below W4.heap.size W4 d1 by assumption) (.cells #[.int .i64 0, .int .i64 0, .slice none 0 0] 34)
                generalize d1.alloc (.cells #[.int .i64 0, .int .i64 0, .slice none 0 0] 34) = a8 at hBM hba ⊢
                generalize d1.heap.size = M at hBM hM ⊢
                refine hK.out _ _ (by exact (show Below W4.heap.size W4 _ by repeat (first | assumption | exact Below.refl _ _ | refine belDrew ?_ | refine belAlloc ?_ _ | refine belStep ?_ (by assumption)))) (fun hHeld => ?_)
                clear hK K
                try simp only [Act.put, List.setIfInBounds_toArray, List.set_cons_zero, List.set_cons_succ]
                generalize a8 = d2 at *
                refine wpAnyH_ready (rs := [4]) (by kernel_rfl) (by simp) ?_
                refine AllReadyH.cons (o := ?o1_v3) ?hi_v3 (fun K hK => ?rest_v3) AllReadyH.nil
                case hi_v3 => ((simp only [List.getElem?_toArray, List.getElem?_cons_succ, List.getElem?_cons_zero]); rfl)
                go_simp
                (go_at_call 6; (with_reducible refine (CD.out _ (by assumption)).mono ?_); rintro e q1 ⟨⟨b1, m1, rfl, ho1⟩, hbq2⟩)
                try go_simp
                obtain ⟨rw1, rw2, rw3, rw4, _⟩ := row_of_owns ho1
                have HRW := Lib.hid (fun u : World => (⟨rw1, rw2, rw3, rw4, .inl rfl⟩ : Row u b1 0 m1 1 ([] : List Value)))
                clear rw1 rw2 rw3 rw4
                clear ho1
                replace hBM := hBM.later hbq2
                refine hK.out _ _ (by exact (show Below W4.heap.size W4 _ by repeat (first | assumption | exact Below.refl _ _ | refine belDrew ?_ | refine belAlloc ?_ _ | refine belStep ?_ (by assumption)))) (fun hHeld => ?_)
                clear hK K
                try simp only [Act.put, List.setIfInBounds_toArray, List.set_cons_zero, List.set_cons_succ]
                generalize q1 = d3 at *
                refine wpAnyH_take (i := 5) (oi := ?oi_k9) (v := ?v_k9) ?hi_k9 (by kernel_rfl) ?hf_k9 ?hr_k9 ?hQ_k9 (Or.inl ⟨?hw_k9, ?hy_k9⟩) (by assumption) ?rest_k9
                case hi_k9 => ((simp only [List.getElem?_toArray, List.getElem?_cons_succ, List.getElem?_cons_zero]); rfl)
                case hf_k9 => kernel_rfl
                case hr_k9 => kernel_rfl
                case hQ_k9 => exact fun _ _ _ h => h
                case hw_k9 => rfl
                case hy_k9 => ((intro w hSw; (try dsimp only at hSw); go_simp); all_goals (with_reducible rfl))
                try simp only [Act.put, List.setIfInBounds_toArray, List.set_cons_zero, List.set_cons_succ]
                refine wpAnyH_take (i := 6) (oi := ?oi_k10) (v := ?v_k10) ?hi_k10 (by kernel_rfl) ?hf_k10 ?hr_k10 ?hQ_k10 (Or.inl ⟨?hw_k10, ?hy_k10⟩) (by assumption) ?rest_k10
                case hi_k10 => ((simp only [List.getElem?_toArray, List.getElem?_cons_succ, List.getElem?_cons_zero]); rfl)
                case hf_k10 => kernel_rfl
                case hr_k10 => kernel_rfl
                case hQ_k10 => exact fun _ _ _ h => h
                case hw_k10 => rfl
                case hy_k10 => ((intro w hSw; (try dsimp only at hSw); go_simp); all_goals (with_reducible rfl))
                try simp only [Act.put, List.setIfInBounds_toArray, List.set_cons_zero, List.set_cons_succ]
                refine wpAnyH_take (i := 7) (oi := ?oi_k11) (v := ?v_k11) ?hi_k11 (by kernel_rfl) ?hf_k11 ?hr_k11 ?hQ_k11 (Or.inl ⟨?hw_k11, ?hy_k11⟩) (by assumption) ?rest_k11
                case hi_k11 => ((simp only [List.getElem?_toArray, List.getElem?_cons_succ, List.getElem?_cons_zero]); rfl)
                case hf_k11 => kernel_rfl
                case hr_k11 => kernel_rfl
                case hQ_k11 => exact fun _ _ _ h => h
                case hw_k11 => rfl
                case hy_k11 => ((intro w hSw; (try dsimp only at hSw); go_simp); all_goals (with_reducible rfl))
                try simp only [Act.put, List.setIfInBounds_toArray, List.set_cons_zero, List.set_cons_succ]
                have y0 := hBM.cell (j := 0) rfl
                have y1 := hBM.cell (j := 1) rfl
                have y2 := hBM.cell (j := 2) rfl
                have yf := hBM.frozen
                refine wpAnyH_ready (rs := [9]) (by kernel_rfl) (by simp) ?_
                refine AllReadyH.cons (o := ?o1_k12) ?hi_k12 (fun K hK => ?rest_k12) AllReadyH.nil
                case hi_k12 => ((simp only [List.getElem?_toArray, List.getElem?_cons_succ, List.getElem?_cons_zero]); rfl)
                go_simp
                clear y0 y1 y2 yf
                have hb10 := (belSet (belSet (belSet (show Below W4.heap.size W4 d3 from by assumption) ⟨M, 0, none⟩ (.int .i64 0) hM) ⟨M, 1, none⟩ (.int .i64 0) hM) ⟨M, 2, none⟩ (.slice b1 0 m1) hM)
                have hR10 := (((hBM.set 0 (.int .i64 0)).set 1 (.int .i64 0)).set 2 (.slice b1 0 m1))
                clear hBM hM
                generalize (((d3.setCell ⟨M, 0, none⟩ (.int .i64 0)).setCell ⟨M, 1, none⟩ (.int .i64 0)).setCell ⟨M, 2, none⟩ (.slice b1 0 m1)) = W5 at hb10 hR10 ⊢
                refine hK.out _ _ (by exact (show Below W4.heap.size W4 _ by repeat (first | assumption | exact Below.refl _ _ | refine belDrew ?_ | refine belAlloc ?_ _ | refine belStep ?_ (by assumption)))) (fun hHeld => ?_)
                clear hK K
                try simp only [Act.put, List.setIfInBounds_toArray, List.set_cons_zero, List.set_cons_succ]
                refine wpAnyH_take (i := 10) (oi := ?oi_k13) (v := ?v_k13) ?hi_k13 (by kernel_rfl) ?hf_k13 ?hr_k13 ?hQ_k13 (Or.inl ⟨?hw_k13, ?hy_k13⟩) (by assumption) ?rest_k13
                case hi_k13 => ((simp only [List.getElem?_toArray, List.getElem?_cons_succ, List.getElem?_cons_zero]); rfl)
                case hf_k13 => kernel_rfl
                case hr_k13 => kernel_rfl
                case hQ_k13 => exact fun _ _ _ h => h
                case hw_k13 => rfl
                case hy_k13 => ((intro w hSw; (try dsimp only at hSw); go_simp); all_goals (with_reducible rfl))
                try simp only [Act.put, List.setIfInBounds_toArray, List.set_cons_zero, List.set_cons_succ]
                refine wpAnyH_done (by kernel_rfl) ?_ _
                have CSA := Lib.hid (show ∀ u : World, Calls Try.prog 9 #[.agg #[.int .i64 0, .int .i64 0, .slice b1 0 m1], .agg #[.int .i64 0, .int .i64 0, .slice none 0 0]] u fun e w' => e = .returned (.bool true) ∧ Below u.heap.size u w' from fun u => by have h := rref_Same ⟨0, 0, []⟩ ⟨0, 0, []⟩ b1 none m1 0 u (HRW.out u) row_nil; rw [sameV_refl] at h; exact h)
                clear hHeld
                have v0 := keep (hR10.cell (j := 0) rfl)
                have v1 := keep (hR10.cell (j := 1) rfl)
                have v2 := keep (hR10.cell (j := 2) rfl)
                have hbel := hb10
                clear hb10 hR10
                replace pp0 := keepOnP pp0 hbel
                replace pp1 := keepOnP pp1 hbel
                replace pp2 := keepOnP pp2 hbel
                replace pp3 := keepOnP pp3 hbel
                replace pp4 := keepOnP pp4 hbel
                replace pp5 := keepOnP pp5 hbel
                replace pp6 := keepOnP pp6 hbel
                replace pp7 := keepOnP pp7 hbel
                replace pp8 := keepOnP pp8 hbel
                replace pp9 := keepOnP pp9 hbel
                replace pp10 := keepOnP pp10 hbel
                have HW5 := Lib.hid (belStep HW4.out hbel)
                clear hbel
                skip
                have hbel : Below W5.heap.size W5 W5 := Below.refl _ _
                go_wp2_with (first | (go_at_call 8; (with_reducible refine (CRP.out _).mono ?_); rintro e w1 ⟨rfl, hb1⟩; replace hbel := belStep hbel hb1; clear hb1) | (go_at_call 9; (with_reducible refine (CSA.out _).mono ?_); rintro e u9 ⟨rfl, hb9⟩; replace hbel := belStep hbel hb9))
                go_ret
                exact ⟨rfl, belStep HW5.out hbel⟩
            case rest2_w6 =>
              go_simp
              have hM := Below.size (show Below W4.heap.size W4 d0 by assumption)
              have hBM := Blk.new d0 [.int .i64 0, .int .i64 0, .slice none 0 0] 34
              have hba := belAlloc (show Below W4.heap.size W4 d0 by assumption) (.cells #[.int .i64 0, .int .i64 0, .slice none 0 0] 34)
              generalize d0.alloc (.cells #[.int .i64 0, .int .i64 0, .slice none 0 0] 34) = a8 at hBM hba ⊢
              generalize d0.heap.size = M at hBM hM ⊢
              refine hK.out _ _ (by exact (show Below W4.heap.size W4 _ by repeat (first | assumption | exact Below.refl _ _ | refine belDrew ?_ | refine belAlloc ?_ _ | refine belStep ?_ (by assumption)))) (fun hHeld => ?_)
              clear hK K
              try simp only [Act.put, List.setIfInBounds_toArray, List.set_cons_zero, List.set_cons_succ]
              generalize a8 = d1 at *
              refine wpAnyH_ready (rs := [0]) (by kernel_rfl) (by simp) ?_
              refine AllReadyH.cons (o := ?o1_v1) ?hi_v1 (fun K hK => ?rest_v1) AllReadyH.nil
              case hi_v1 => ((simp only [List.getElem?_toArray, List.getElem?_cons_succ, List.getElem?_cons_zero]); rfl)
              go_simp
              (go_at_call 7; (with_reducible refine (some23 _).mono ?_); rintro e q0 ⟨rfl, hbq⟩)
              try go_simp
              replace hBM := hBM.later hbq
              refine hK.out _ _ (by exact (show Below W4.heap.size W4 _ by repeat (first | assumption | exact Below.refl _ _ | refine belDrew ?_ | refine belAlloc ?_ _ | refine belStep ?_ (by assumption)))) (fun hHeld => ?_)
              clear hK K
              try simp only [Act.put, List.setIfInBounds_toArray, List.set_cons_zero, List.set_cons_succ]
              generalize q0 = d2 at *
              refine wpAnyH_ready (rs := [4]) (by kernel_rfl) (by simp) ?_
              refine AllReadyH.cons (o := ?o1_v2) ?hi_v2 (fun K hK => ?rest_v2) AllReadyH.nil
              case hi_v2 => ((simp only [List.getElem?_toArray, List.getElem?_cons_succ, List.getElem?_cons_zero]); rfl)
              go_simp
              (go_at_call 6; (with_reducible refine (CD.out _ (by assumption)).mono ?_); rintro e q1 ⟨⟨b1, m1, rfl, ho1⟩, hbq2⟩)
              try go_simp
              obtain ⟨rw1, rw2, rw3, rw4, _⟩ := row_of_owns ho1
              have HRW := Lib.hid (fun u : World => (⟨rw1, rw2, rw3, rw4, .inl rfl⟩ : Row u b1 0 m1 1 ([] : List Value)))
              clear rw1 rw2 rw3 rw4
              clear ho1
              replace hBM := hBM.later hbq2
              refine hK.out _ _ (by exact (show Below W4.heap.size W4 _ by repeat (first | assumption | exact Below.refl _ _ | refine belDrew ?_ | refine belAlloc ?_ _ | refine belStep ?_ (by assumption)))) (fun hHeld => ?_)
              clear hK K
              try simp only [Act.put, List.setIfInBounds_toArray, List.set_cons_zero, List.set_cons_succ]
              generalize q1 = d3 at *
              refine wpAnyH_take (i := 5) (oi := ?oi_k4) (v := ?v_k4) ?hi_k4 (by kernel_rfl) ?hf_k4 ?hr_k4 ?hQ_k4 (Or.inl ⟨?hw_k4, ?hy_k4⟩) (by assumption) ?rest_k4
              case hi_k4 => ((simp only [List.getElem?_toArray, List.getElem?_cons_succ, List.getElem?_cons_zero]); rfl)
              case hf_k4 => kernel_rfl
              case hr_k4 => kernel_rfl
              case hQ_k4 => exact fun _ _ _ h => h
              case hw_k4 => rfl
              case hy_k4 => ((intro w hSw; (try dsimp only at hSw); go_simp); all_goals (with_reducible rfl))
              try simp only [Act.put, List.setIfInBounds_toArray, List.set_cons_zero, List.set_cons_succ]
              refine wpAnyH_take (i := 6) (oi := ?oi_k5) (v := ?v_k5) ?hi_k5 (by kernel_rfl) ?hf_k5 ?hr_k5 ?hQ_k5 (Or.inl ⟨?hw_k5, ?hy_k5⟩) (by assumption) ?rest_k5
              case hi_k5 => ((simp only [List.getElem?_toArray, List.getElem?_cons_succ, List.getElem?_cons_zero]); rfl)
              case hf_k5 => kernel_rfl
              case hr_k5 => kernel_rfl
              case hQ_k5 => exact fun _ _ _ h => h
              case hw_k5 => rfl
              case hy_k5 => ((intro w hSw; (try dsimp only at hSw); go_simp); all_goals (with_reducible rfl))
              try simp only [Act.put, List.setIfInBounds_toArray, List.set_cons_zero, List.set_cons_succ]
              refine wpAnyH_take (i := 7) (oi := ?oi_k6) (v := ?v_k6) ?hi_k6 (by kernel_rfl) ?hf_k6 ?hr_k6 ?hQ_k6 (Or.inl ⟨?hw_k6, ?hy_k6⟩) (by assumption) ?rest_k6
              case hi_k6 => ((simp only [List.getElem?_toArray, List.getElem?_cons_succ, List.getElem?_cons_zero]); rfl)
              case hf_k6 => kernel_rfl
              case hr_k6 => kernel_rfl
              case hQ_k6 => exact fun _ _ _ h => h
              case hw_k6 => rfl
              case hy_k6 => ((intro w hSw; (try dsimp only at hSw); go_simp); all_goals (with_reducible rfl))
              try simp only [Act.put, List.setIfInBounds_toArray, List.set_cons_zero, List.set_cons_succ]
              have y0 := hBM.cell (j := 0) rfl
              have y1 := hBM.cell (j := 1) rfl
              have y2 := hBM.cell (j := 2) rfl
              have yf := hBM.frozen
              refine wpAnyH_ready (rs := [9]) (by kernel_rfl) (by simp) ?_
              refine AllReadyH.cons (o := ?o1_k7) ?hi_k7 (fun K hK => ?rest_k7) AllReadyH.nil
              case hi_k7 => ((simp only [List.getElem?_toArray, List.getElem?_cons_succ, List.getElem?_cons_zero]); rfl)
              go_simp
              clear y0 y1 y2 yf
              have hb10 := (belSet (belSet (belSet (show Below W4.heap.size W4 d3 from by assumption) ⟨M, 0, none⟩ (.int .i64 0) hM) ⟨M, 1, none⟩ (.int .i64 0) hM) ⟨M, 2, none⟩ (.slice b1 0 m1) hM)
              have hR10 := (((hBM.set 0 (.int .i64 0)).set 1 (.int .i64 0)).set 2 (.slice b1 0 m1))
              clear hBM hM
              generalize (((d3.setCell ⟨M, 0, none⟩ (.int .i64 0)).setCell ⟨M, 1, none⟩ (.int .i64 0)).setCell ⟨M, 2, none⟩ (.slice b1 0 m1)) = W5 at hb10 hR10 ⊢
              refine hK.out _ _ (by exact (show Below W4.heap.size W4 _ by repeat (first | assumption | exact Below.refl _ _ | refine belDrew ?_ | refine belAlloc ?_ _ | refine belStep ?_ (by assumption)))) (fun hHeld => ?_)
              clear hK K
              try simp only [Act.put, List.setIfInBounds_toArray, List.set_cons_zero, List.set_cons_succ]
              refine wpAnyH_take (i := 10) (oi := ?oi_k8) (v := ?v_k8) ?hi_k8 (by kernel_rfl) ?hf_k8 ?hr_k8 ?hQ_k8 (Or.inl ⟨?hw_k8, ?hy_k8⟩) (by assumption) ?rest_k8
              case hi_k8 => ((simp only [List.getElem?_toArray, List.getElem?_cons_succ, List.getElem?_cons_zero]); rfl)
              case hf_k8 => kernel_rfl
              case hr_k8 => kernel_rfl
              case hQ_k8 => exact fun _ _ _ h => h
              case hw_k8 => rfl
              case hy_k8 => ((intro w hSw; (try dsimp only at hSw); go_simp); all_goals (with_reducible rfl))
              try simp only [Act.put, List.setIfInBounds_toArray, List.set_cons_zero, List.set_cons_succ]
              refine wpAnyH_done (by kernel_rfl) ?_ _
              have CSA := Lib.hid (show ∀ u : World, Calls Try.prog 9 #[.agg #[.int .i64 0, .int .i64 0, .slice b1 0 m1], .agg #[.int .i64 0, .int .i64 0, .slice none 0 0]] u fun e w' => e = .returned (.bool true) ∧ Below u.heap.size u w' from fun u => by have h := rref_Same ⟨0, 0, []⟩ ⟨0, 0, []⟩ b1 none m1 0 u (HRW.out u) row_nil; rw [sameV_refl] at h; exact h)
              clear hHeld
              have v0 := keep (hR10.cell (j := 0) rfl)
              have v1 := keep (hR10.cell (j := 1) rfl)
              have v2 := keep (hR10.cell (j := 2) rfl)
              have hbel := hb10
              clear hb10 hR10
              replace pp0 := keepOnP pp0 hbel
              replace pp1 := keepOnP pp1 hbel
              replace pp2 := keepOnP pp2 hbel
              replace pp3 := keepOnP pp3 hbel
              replace pp4 := keepOnP pp4 hbel
              replace pp5 := keepOnP pp5 hbel
              replace pp6 := keepOnP pp6 hbel
              replace pp7 := keepOnP pp7 hbel
              replace pp8 := keepOnP pp8 hbel
              replace pp9 := keepOnP pp9 hbel
              replace pp10 := keepOnP pp10 hbel
              have HW5 := Lib.hid (belStep HW4.out hbel)
              clear hbel
              skip
              have hbel : Below W5.heap.size W5 W5 := Below.refl _ _
              go_wp2_with (first | (go_at_call 8; (with_reducible refine (CRP.out _).mono ?_); rintro e w1 ⟨rfl, hb1⟩; replace hbel := belStep hbel hb1; clear hb1) | (go_at_call 9; (with_reducible refine (CSA.out _).mono ?_); rintro e u9 ⟨rfl, hb9⟩; replace hbel := belStep hbel hb9))
              go_ret
              exact ⟨rfl, belStep HW5.out hbel⟩
          · go_wp2
            refine wp_region_held_drew (S := fun u => Below W4.heap.size W4 u) (by kernel_rfl) (by exact (show Below W4.heap.size W4 _ by repeat (first | assumption | exact Below.refl _ _ | refine belDrew ?_ | refine belAlloc ?_ _ | refine belStep ?_ (by assumption)))) (fun hHeld => ?_)
            refine wpAnyH_take (i := 1) (oi := ?oi_k19) (v := ?v_k19) ?hi_k19 (by kernel_rfl) ?hf_k19 ?hr_k19 ?hQ_k19 (Or.inl ⟨?hw_k19, ?hy_k19⟩) (by assumption) ?rest_k19
            case hi_k19 => ((simp only [List.getElem?_toArray, List.getElem?_cons_succ, List.getElem?_cons_zero]); rfl)
            case hf_k19 => kernel_rfl
            case hr_k19 => kernel_rfl
            case hQ_k19 => exact fun _ _ _ h => h
            case hw_k19 => rfl
            case hy_k19 => ((intro w hSw; (try dsimp only at hSw); go_simp); all_goals (with_reducible rfl))
            try simp only [Act.put, List.setIfInBounds_toArray, List.set_cons_zero, List.set_cons_succ]
            refine wpAnyH_take (i := 2) (oi := ?oi_k20) (v := ?v_k20) ?hi_k20 (by kernel_rfl) ?hf_k20 ?hr_k20 ?hQ_k20 (Or.inl ⟨?hw_k20, ?hy_k20⟩) (by assumption) ?rest_k20
            case hi_k20 => ((simp only [List.getElem?_toArray, List.getElem?_cons_succ, List.getElem?_cons_zero]); rfl)
            case hf_k20 => kernel_rfl
            case hr_k20 => kernel_rfl
            case hQ_k20 => exact fun _ _ _ h => h
            case hw_k20 => rfl
            case hy_k20 => ((intro w hSw; (try dsimp only at hSw); go_simp); all_goals (with_reducible rfl))
            try simp only [Act.put, List.setIfInBounds_toArray, List.set_cons_zero, List.set_cons_succ]
            refine wpAnyH_take (i := 3) (oi := ?oi_k21) (v := ?v_k21) ?hi_k21 (by kernel_rfl) ?hf_k21 ?hr_k21 ?hQ_k21 (Or.inl ⟨?hw_k21, ?hy_k21⟩) (by assumption) ?rest_k21
            case hi_k21 => ((simp only [List.getElem?_toArray, List.getElem?_cons_succ, List.getElem?_cons_zero]); rfl)
            case hf_k21 => kernel_rfl
            case hr_k21 => kernel_rfl
            case hQ_k21 => exact fun _ _ _ h => h
            case hw_k21 => rfl
            case hy_k21 => ((intro w hSw; (try dsimp only at hSw); go_simp); all_goals (with_reducible rfl))
            try simp only [Act.put, List.setIfInBounds_toArray, List.set_cons_zero, List.set_cons_succ]
            generalize W4.drew = d0 at *
            refine wpAnyH_ready (rs := [0, 8]) (by kernel_rfl) (by simp) ?_
            refine AllReadyH.cons (o := ?o1_w12) ?hi1_w12 (fun K hK => ?rest1_w12) (AllReadyH.cons (o := ?o2_w12) ?hi2_w12 (fun K hK => ?rest2_w12) AllReadyH.nil)
            case hi1_w12 => ((simp only [List.getElem?_toArray, List.getElem?_cons_succ, List.getElem?_cons_zero]); rfl)
            case hi2_w12 => ((simp only [List.getElem?_toArray, List.getElem?_cons_succ, List.getElem?_cons_zero]); rfl)
            case rest1_w12 =>
              go_simp
              (go_at_call 7; (with_reducible refine (some23 _).mono ?_); rintro e q0 ⟨rfl, hbq⟩)
              try go_simp
              refine hK.out _ _ (by exact (show Below W4.heap.size W4 _ by repeat (first | assumption | exact Below.refl _ _ | refine belDrew ?_ | refine belAlloc ?_ _ | refine belStep ?_ (by assumption)))) (fun hHeld => ?_)
              clear hK K
              try simp only [Act.put, List.setIfInBounds_toArray, List.set_cons_zero, List.set_cons_succ]
              generalize q0 = d1 at *
              refine wpAnyH_ready (rs := [4, 8]) (by kernel_rfl) (by simp) ?_
              refine AllReadyH.cons (o := ?o1_w11) ?hi1_w11 (fun K hK => ?rest1_w11) (AllReadyH.cons (o := ?o2_w11) ?hi2_w11 (fun K hK => ?rest2_w11) AllReadyH.nil)
              case hi1_w11 => ((simp only [List.getElem?_toArray, List.getElem?_cons_succ, List.getElem?_cons_zero]); rfl)
              case hi2_w11 => ((simp only [List.getElem?_toArray, List.getElem?_cons_succ, List.getElem?_cons_zero]); rfl)
              case rest1_w11 =>
                go_simp
                (go_at_call 6; (with_reducible refine (CD.out _ (by assumption)).mono ?_); rintro e q1 ⟨⟨b1, m1, rfl, ho1⟩, hbq2⟩)
                try go_simp
                obtain ⟨rw1, rw2, rw3, rw4, _⟩ := row_of_owns ho1
                have HRW := Lib.hid (fun u : World => (⟨rw1, rw2, rw3, rw4, .inl rfl⟩ : Row u b1 0 m1 1 ([] : List Value)))
                clear rw1 rw2 rw3 rw4
                clear ho1
                refine hK.out _ _ (by exact (show Below W4.heap.size W4 _ by repeat (first | assumption | exact Below.refl _ _ | refine belDrew ?_ | refine belAlloc ?_ _ | refine belStep ?_ (by assumption)))) (fun hHeld => ?_)
                clear hK K
                try simp only [Act.put, List.setIfInBounds_toArray, List.set_cons_zero, List.set_cons_succ]
                generalize q1 = d2 at *
                refine wpAnyH_take (i := 5) (oi := ?oi_k32) (v := ?v_k32) ?hi_k32 (by kernel_rfl) ?hf_k32 ?hr_k32 ?hQ_k32 (Or.inl ⟨?hw_k32, ?hy_k32⟩) (by assumption) ?rest_k32
                case hi_k32 => ((simp only [List.getElem?_toArray, List.getElem?_cons_succ, List.getElem?_cons_zero]); rfl)
                case hf_k32 => kernel_rfl
                case hr_k32 => kernel_rfl
                case hQ_k32 => exact fun _ _ _ h => h
                case hw_k32 => rfl
                case hy_k32 => ((intro w hSw; (try dsimp only at hSw); go_simp); all_goals (with_reducible rfl))
                try simp only [Act.put, List.setIfInBounds_toArray, List.set_cons_zero, List.set_cons_succ]
                refine wpAnyH_take (i := 6) (oi := ?oi_k33) (v := ?v_k33) ?hi_k33 (by kernel_rfl) ?hf_k33 ?hr_k33 ?hQ_k33 (Or.inl ⟨?hw_k33, ?hy_k33⟩) (by assumption) ?rest_k33
                case hi_k33 => ((simp only [List.getElem?_toArray, List.getElem?_cons_succ, List.getElem?_cons_zero]); rfl)
                case hf_k33 => kernel_rfl
                case hr_k33 => kernel_rfl
                case hQ_k33 => exact fun _ _ _ h => h
                case hw_k33 => rfl
                case hy_k33 => ((intro w hSw; (try dsimp only at hSw); go_simp); all_goals (with_reducible rfl))
                try simp only [Act.put, List.setIfInBounds_toArray, List.set_cons_zero, List.set_cons_succ]
                refine wpAnyH_take (i := 7) (oi := ?oi_k34) (v := ?v_k34) ?hi_k34 (by kernel_rfl) ?hf_k34 ?hr_k34 ?hQ_k34 (Or.inl ⟨?hw_k34, ?hy_k34⟩) (by assumption) ?rest_k34
                case hi_k34 => ((simp only [List.getElem?_toArray, List.getElem?_cons_succ, List.getElem?_cons_zero]); rfl)
                case hf_k34 => kernel_rfl
                case hr_k34 => kernel_rfl
                case hQ_k34 => exact fun _ _ _ h => h
                case hw_k34 => rfl
                case hy_k34 => ((intro w hSw; (try dsimp only at hSw); go_simp); all_goals (with_reducible rfl))
                try simp only [Act.put, List.setIfInBounds_toArray, List.set_cons_zero, List.set_cons_succ]
                refine wpAnyH_ready (rs := [8]) (by kernel_rfl) (by simp) ?_
                refine AllReadyH.cons (o := ?o1_v10) ?hi_v10 (fun K hK => ?rest_v10) AllReadyH.nil
                case hi_v10 => ((simp only [List.getElem?_toArray, List.getElem?_cons_succ, List.getElem?_cons_zero]); rfl)
                go_simp
                have hM := Below.size (show Below W4.heap.size W4 d2 by assumption)
                have hBM := Blk.new d2 [.int .i64 0, .int .i64 0, .slice none 0 0] 34
                have hba := belAlloc (show Below W4.heap.size W4 d2 by assumption) (.cells #[.int .i64 0, .int .i64 0, .slice none 0 0] 34)
                generalize d2.alloc (.cells #[.int .i64 0, .int .i64 0, .slice none 0 0] 34) = a8 at hBM hba ⊢
                generalize d2.heap.size = M at hBM hM ⊢
                refine hK.out _ _ (by exact (show Below W4.heap.size W4 _ by repeat (first | assumption | exact Below.refl _ _ | refine belDrew ?_ | refine belAlloc ?_ _ | refine belStep ?_ (by assumption)))) (fun hHeld => ?_)
                clear hK K
                try simp only [Act.put, List.setIfInBounds_toArray, List.set_cons_zero, List.set_cons_succ]
                generalize a8 = d3 at *
                have y0 := hBM.cell (j := 0) rfl
                have y1 := hBM.cell (j := 1) rfl
                have y2 := hBM.cell (j := 2) rfl
                have yf := hBM.frozen
                refine wpAnyH_ready (rs := [9]) (by kernel_rfl) (by simp) ?_
                refine AllReadyH.cons (o := ?o1_k35) ?hi_k35 (fun K hK => ?rest_k35) AllReadyH.nil
                case hi_k35 => ((simp only [List.getElem?_toArray, List.getElem?_cons_succ, List.getElem?_cons_zero]); rfl)
                go_simp
                clear y0 y1 y2 yf
                have hb10 := (belSet (belSet (belSet (show Below W4.heap.size W4 d3 from by assumption) ⟨M, 0, none⟩ (.int .i64 0) hM) ⟨M, 1, none⟩ (.int .i64 0) hM) ⟨M, 2, none⟩ (.slice b1 0 m1) hM)
                have hR10 := (((hBM.set 0 (.int .i64 0)).set 1 (.int .i64 0)).set 2 (.slice b1 0 m1))
                clear hBM hM
                generalize (((d3.setCell ⟨M, 0, none⟩ (.int .i64 0)).setCell ⟨M, 1, none⟩ (.int .i64 0)).setCell ⟨M, 2, none⟩ (.slice b1 0 m1)) = W5 at hb10 hR10 ⊢
                refine hK.out _ _ (by exact (show Below W4.heap.size W4 _ by repeat (first | assumption | exact Below.refl _ _ | refine belDrew ?_ | refine belAlloc ?_ _ | refine belStep ?_ (by assumption)))) (fun hHeld => ?_)
                clear hK K
                try simp only [Act.put, List.setIfInBounds_toArray, List.set_cons_zero, List.set_cons_succ]
                refine wpAnyH_take (i := 10) (oi := ?oi_k36) (v := ?v_k36) ?hi_k36 (by kernel_rfl) ?hf_k36 ?hr_k36 ?hQ_k36 (Or.inl ⟨?hw_k36, ?hy_k36⟩) (by assumption) ?rest_k36
                case hi_k36 => ((simp only [List.getElem?_toArray, List.getElem?_cons_succ, List.getElem?_cons_zero]); rfl)
                case hf_k36 => kernel_rfl
                case hr_k36 => kernel_rfl
                case hQ_k36 => exact fun _ _ _ h => h
                case hw_k36 => rfl
                case hy_k36 => ((intro w hSw; (try dsimp only at hSw); go_simp); all_goals (with_reducible rfl))
                try simp only [Act.put, List.setIfInBounds_toArray, List.set_cons_zero, List.set_cons_succ]
                refine wpAnyH_done (by kernel_rfl) ?_ _
                have CSA := Lib.hid (show ∀ u : World, Calls Try.prog 9 #[.agg #[.int .i64 0, .int .i64 0, .slice b1 0 m1], .agg #[.int .i64 0, .int .i64 0, .slice none 0 0]] u fun e w' => e = .returned (.bool true) ∧ Below u.heap.size u w' from fun u => by have h := rref_Same ⟨0, 0, []⟩ ⟨0, 0, []⟩ b1 none m1 0 u (HRW.out u) row_nil; rw [sameV_refl] at h; exact h)
                clear hHeld
                have v0 := keep (hR10.cell (j := 0) rfl)
                have v1 := keep (hR10.cell (j := 1) rfl)
                have v2 := keep (hR10.cell (j := 2) rfl)
                have hbel := hb10
                clear hb10 hR10
                replace pp0 := keepOnP pp0 hbel
                replace pp1 := keepOnP pp1 hbel
                replace pp2 := keepOnP pp2 hbel
                replace pp3 := keepOnP pp3 hbel
                replace pp4 := keepOnP pp4 hbel
                replace pp5 := keepOnP pp5 hbel
                replace pp6 := keepOnP pp6 hbel
                replace pp7 := keepOnP pp7 hbel
                replace pp8 := keepOnP pp8 hbel
                replace pp9 := keepOnP pp9 hbel
                replace pp10 := keepOnP pp10 hbel
                have HW5 := Lib.hid (belStep HW4.out hbel)
                clear hbel
                skip
                have hbel : Below W5.heap.size W5 W5 := Below.refl _ _
                go_wp2_with (first | (go_at_call 8; (with_reducible refine (CRP.out _).mono ?_); rintro e w1 ⟨rfl, hb1⟩; replace hbel := belStep hbel hb1; clear hb1) | (go_at_call 9; (with_reducible refine (CSA.out _).mono ?_); rintro e u9 ⟨rfl, hb9⟩; replace hbel := belStep hbel hb9))
                go_ret
                exact ⟨rfl, belStep HW5.out hbel⟩
              case rest2_w11 =>
                go_simp
                have hM := Below.size (show Below W4.heap.size W4 d1 by assumption)
                have hBM := Blk.new d1 [.int .i64 0, .int .i64 0, .slice none 0 0] 34
                have hba := belAlloc (show Below W4.heap.size W4 d1 by assumption) (.cells #[.int .i64 0, .int .i64 0, .slice none 0 0] 34)
                generalize d1.alloc (.cells #[.int .i64 0, .int .i64 0, .slice none 0 0] 34) = a8 at hBM hba ⊢
                generalize d1.heap.size = M at hBM hM ⊢
                refine hK.out _ _ (by exact (show Below W4.heap.size W4 _ by repeat (first | assumption | exact Below.refl _ _ | refine belDrew ?_ | refine belAlloc ?_ _ | refine belStep ?_ (by assumption)))) (fun hHeld => ?_)
                clear hK K
                try simp only [Act.put, List.setIfInBounds_toArray, List.set_cons_zero, List.set_cons_succ]
                generalize a8 = d2 at *
                refine wpAnyH_ready (rs := [4]) (by kernel_rfl) (by simp) ?_
                refine AllReadyH.cons (o := ?o1_v9) ?hi_v9 (fun K hK => ?rest_v9) AllReadyH.nil
                case hi_v9 => ((simp only [List.getElem?_toArray, List.getElem?_cons_succ, List.getElem?_cons_zero]); rfl)
                go_simp
                (go_at_call 6; (with_reducible refine (CD.out _ (by assumption)).mono ?_); rintro e q1 ⟨⟨b1, m1, rfl, ho1⟩, hbq2⟩)
                try go_simp
                obtain ⟨rw1, rw2, rw3, rw4, _⟩ := row_of_owns ho1
                have HRW := Lib.hid (fun u : World => (⟨rw1, rw2, rw3, rw4, .inl rfl⟩ : Row u b1 0 m1 1 ([] : List Value)))
                clear rw1 rw2 rw3 rw4
                clear ho1
                replace hBM := hBM.later hbq2
                refine hK.out _ _ (by exact (show Below W4.heap.size W4 _ by repeat (first | assumption | exact Below.refl _ _ | refine belDrew ?_ | refine belAlloc ?_ _ | refine belStep ?_ (by assumption)))) (fun hHeld => ?_)
                clear hK K
                try simp only [Act.put, List.setIfInBounds_toArray, List.set_cons_zero, List.set_cons_succ]
                generalize q1 = d3 at *
                refine wpAnyH_take (i := 5) (oi := ?oi_k27) (v := ?v_k27) ?hi_k27 (by kernel_rfl) ?hf_k27 ?hr_k27 ?hQ_k27 (Or.inl ⟨?hw_k27, ?hy_k27⟩) (by assumption) ?rest_k27
                case hi_k27 => ((simp only [List.getElem?_toArray, List.getElem?_cons_succ, List.getElem?_cons_zero]); rfl)
                case hf_k27 => kernel_rfl
                case hr_k27 => kernel_rfl
                case hQ_k27 => exact fun _ _ _ h => h
                case hw_k27 => rfl
                case hy_k27 => ((intro w hSw; (try dsimp only at hSw); go_simp); all_goals (with_reducible rfl))
                try simp only [Act.put, List.setIfInBounds_toArray, List.set_cons_zero, List.set_cons_succ]
                refine wpAnyH_take (i := 6) (oi := ?oi_k28) (v := ?v_k28) ?hi_k28 (by kernel_rfl) ?hf_k28 ?hr_k28 ?hQ_k28 (Or.inl ⟨?hw_k28, ?hy_k28⟩) (by assumption) ?rest_k28
                case hi_k28 => ((simp only [List.getElem?_toArray, List.getElem?_cons_succ, List.getElem?_cons_zero]); rfl)
                case hf_k28 => kernel_rfl
                case hr_k28 => kernel_rfl
                case hQ_k28 => exact fun _ _ _ h => h
                case hw_k28 => rfl
                case hy_k28 => ((intro w hSw; (try dsimp only at hSw); go_simp); all_goals (with_reducible rfl))
                try simp only [Act.put, List.setIfInBounds_toArray, List.set_cons_zero, List.set_cons_succ]
                refine wpAnyH_take (i := 7) (oi := ?oi_k29) (v := ?v_k29) ?hi_k29 (by kernel_rfl) ?hf_k29 ?hr_k29 ?hQ_k29 (Or.inl ⟨?hw_k29, ?hy_k29⟩) (by assumption) ?rest_k29
                case hi_k29 => ((simp only [List.getElem?_toArray, List.getElem?_cons_succ, List.getElem?_cons_zero]); rfl)
                case hf_k29 => kernel_rfl
                case hr_k29 => kernel_rfl
                case hQ_k29 => exact fun _ _ _ h => h
                case hw_k29 => rfl
                case hy_k29 => ((intro w hSw; (try dsimp only at hSw); go_simp); all_goals (with_reducible rfl))
                try simp only [Act.put, List.setIfInBounds_toArray, List.set_cons_zero, List.set_cons_succ]
                have y0 := hBM.cell (j := 0) rfl
                have y1 := hBM.cell (j := 1) rfl
                have y2 := hBM.cell (j := 2) rfl
                have yf := hBM.frozen
                refine wpAnyH_ready (rs := [9]) (by kernel_rfl) (by simp) ?_
                refine AllReadyH.cons (o := ?o1_k30) ?hi_k30 (fun K hK => ?rest_k30) AllReadyH.nil
                case hi_k30 => ((simp only [List.getElem?_toArray, List.getElem?_cons_succ, List.getElem?_cons_zero]); rfl)
                go_simp
                clear y0 y1 y2 yf
                have hb10 := (belSet (belSet (belSet (show Below W4.heap.size W4 d3 from by assumption) ⟨M, 0, none⟩ (.int .i64 0) hM) ⟨M, 1, none⟩ (.int .i64 0) hM) ⟨M, 2, none⟩ (.slice b1 0 m1) hM)
                have hR10 := (((hBM.set 0 (.int .i64 0)).set 1 (.int .i64 0)).set 2 (.slice b1 0 m1))
                clear hBM hM
                generalize (((d3.setCell ⟨M, 0, none⟩ (.int .i64 0)).setCell ⟨M, 1, none⟩ (.int .i64 0)).setCell ⟨M, 2, none⟩ (.slice b1 0 m1)) = W5 at hb10 hR10 ⊢
                refine hK.out _ _ (by exact (show Below W4.heap.size W4 _ by repeat (first | assumption | exact Below.refl _ _ | refine belDrew ?_ | refine belAlloc ?_ _ | refine belStep ?_ (by assumption)))) (fun hHeld => ?_)
                clear hK K
                try simp only [Act.put, List.setIfInBounds_toArray, List.set_cons_zero, List.set_cons_succ]
                refine wpAnyH_take (i := 10) (oi := ?oi_k31) (v := ?v_k31) ?hi_k31 (by kernel_rfl) ?hf_k31 ?hr_k31 ?hQ_k31 (Or.inl ⟨?hw_k31, ?hy_k31⟩) (by assumption) ?rest_k31
                case hi_k31 => ((simp only [List.getElem?_toArray, List.getElem?_cons_succ, List.getElem?_cons_zero]); rfl)
                case hf_k31 => kernel_rfl
                case hr_k31 => kernel_rfl
                case hQ_k31 => exact fun _ _ _ h => h
                case hw_k31 => rfl
                case hy_k31 => ((intro w hSw; (try dsimp only at hSw); go_simp); all_goals (with_reducible rfl))
                try simp only [Act.put, List.setIfInBounds_toArray, List.set_cons_zero, List.set_cons_succ]
                refine wpAnyH_done (by kernel_rfl) ?_ _
                have CSA := Lib.hid (show ∀ u : World, Calls Try.prog 9 #[.agg #[.int .i64 0, .int .i64 0, .slice b1 0 m1], .agg #[.int .i64 0, .int .i64 0, .slice none 0 0]] u fun e w' => e = .returned (.bool true) ∧ Below u.heap.size u w' from fun u => by have h := rref_Same ⟨0, 0, []⟩ ⟨0, 0, []⟩ b1 none m1 0 u (HRW.out u) row_nil; rw [sameV_refl] at h; exact h)
                clear hHeld
                have v0 := keep (hR10.cell (j := 0) rfl)
                have v1 := keep (hR10.cell (j := 1) rfl)
                have v2 := keep (hR10.cell (j := 2) rfl)
                have hbel := hb10
                clear hb10 hR10
                replace pp0 := keepOnP pp0 hbel
                replace pp1 := keepOnP pp1 hbel
                replace pp2 := keepOnP pp2 hbel
                replace pp3 := keepOnP pp3 hbel
                replace pp4 := keepOnP pp4 hbel
                replace pp5 := keepOnP pp5 hbel
                replace pp6 := keepOnP pp6 hbel
                replace pp7 := keepOnP pp7 hbel
                replace pp8 := keepOnP pp8 hbel
                replace pp9 := keepOnP pp9 hbel
                replace pp10 := keepOnP pp10 hbel
                have HW5 := Lib.hid (belStep HW4.out hbel)
                clear hbel
                skip
                have hbel : Below W5.heap.size W5 W5 := Below.refl _ _
                go_wp2_with (first | (go_at_call 8; (with_reducible refine (CRP.out _).mono ?_); rintro e w1 ⟨rfl, hb1⟩; replace hbel := belStep hbel hb1; clear hb1) | (go_at_call 9; (with_reducible refine (CSA.out _).mono ?_); rintro e u9 ⟨rfl, hb9⟩; replace hbel := belStep hbel hb9))
                go_ret
                exact ⟨rfl, belStep HW5.out hbel⟩
            case rest2_w12 =>
              go_simp
              have hM := Below.size (show Below W4.heap.size W4 d0 by assumption)
              have hBM := Blk.new d0 [.int .i64 0, .int .i64 0, .slice none 0 0] 34
              have hba := belAlloc (show Below W4.heap.size W4 d0 by assumption) (.cells #[.int .i64 0, .int .i64 0, .slice none 0 0] 34)
              generalize d0.alloc (.cells #[.int .i64 0, .int .i64 0, .slice none 0 0] 34) = a8 at hBM hba ⊢
              generalize d0.heap.size = M at hBM hM ⊢
              refine hK.out _ _ (by exact (show Below W4.heap.size W4 _ by repeat (first | assumption | exact Below.refl _ _ | refine belDrew ?_ | refine belAlloc ?_ _ | refine belStep ?_ (by assumption)))) (fun hHeld => ?_)
              clear hK K
              try simp only [Act.put, List.setIfInBounds_toArray, List.set_cons_zero, List.set_cons_succ]
              generalize a8 = d1 at *
              refine wpAnyH_ready (rs := [0]) (by kernel_rfl) (by simp) ?_
              refine AllReadyH.cons (o := ?o1_v7) ?hi_v7 (fun K hK => ?rest_v7) AllReadyH.nil
              case hi_v7 => ((simp only [List.getElem?_toArray, List.getElem?_cons_succ, List.getElem?_cons_zero]); rfl)
              go_simp
              (go_at_call 7; (with_reducible refine (some23 _).mono ?_); rintro e q0 ⟨rfl, hbq⟩)
              try go_simp
              replace hBM := hBM.later hbq
              refine hK.out _ _ (by exact (show Below W4.heap.size W4 _ by repeat (first | assumption | exact Below.refl _ _ | refine belDrew ?_ | refine belAlloc ?_ _ | refine belStep ?_ (by assumption)))) (fun hHeld => ?_)
              clear hK K
              try simp only [Act.put, List.setIfInBounds_toArray, List.set_cons_zero, List.set_cons_succ]
              generalize q0 = d2 at *
              refine wpAnyH_ready (rs := [4]) (by kernel_rfl) (by simp) ?_
              refine AllReadyH.cons (o := ?o1_v8) ?hi_v8 (fun K hK => ?rest_v8) AllReadyH.nil
              case hi_v8 => ((simp only [List.getElem?_toArray, List.getElem?_cons_succ, List.getElem?_cons_zero]); rfl)
              go_simp
              (go_at_call 6; (with_reducible refine (CD.out _ (by assumption)).mono ?_); rintro e q1 ⟨⟨b1, m1, rfl, ho1⟩, hbq2⟩)
              try go_simp
              obtain ⟨rw1, rw2, rw3, rw4, _⟩ := row_of_owns ho1
              have HRW := Lib.hid (fun u : World => (⟨rw1, rw2, rw3, rw4, .inl rfl⟩ : Row u b1 0 m1 1 ([] : List Value)))
              clear rw1 rw2 rw3 rw4
              clear ho1
              replace hBM := hBM.later hbq2
              refine hK.out _ _ (by exact (show Below W4.heap.size W4 _ by repeat (first | assumption | exact Below.refl _ _ | refine belDrew ?_ | refine belAlloc ?_ _ | refine belStep ?_ (by assumption)))) (fun hHeld => ?_)
              clear hK K
              try simp only [Act.put, List.setIfInBounds_toArray, List.set_cons_zero, List.set_cons_succ]
              generalize q1 = d3 at *
              refine wpAnyH_take (i := 5) (oi := ?oi_k22) (v := ?v_k22) ?hi_k22 (by kernel_rfl) ?hf_k22 ?hr_k22 ?hQ_k22 (Or.inl ⟨?hw_k22, ?hy_k22⟩) (by assumption) ?rest_k22
              case hi_k22 => ((simp only [List.getElem?_toArray, List.getElem?_cons_succ, List.getElem?_cons_zero]); rfl)
              case hf_k22 => kernel_rfl
              case hr_k22 => kernel_rfl
              case hQ_k22 => exact fun _ _ _ h => h
              case hw_k22 => rfl
              case hy_k22 => ((intro w hSw; (try dsimp only at hSw); go_simp); all_goals (with_reducible rfl))
              try simp only [Act.put, List.setIfInBounds_toArray, List.set_cons_zero, List.set_cons_succ]
              refine wpAnyH_take (i := 6) (oi := ?oi_k23) (v := ?v_k23) ?hi_k23 (by kernel_rfl) ?hf_k23 ?hr_k23 ?hQ_k23 (Or.inl ⟨?hw_k23, ?hy_k23⟩) (by assumption) ?rest_k23
              case hi_k23 => ((simp only [List.getElem?_toArray, List.getElem?_cons_succ, List.getElem?_cons_zero]); rfl)
              case hf_k23 => kernel_rfl
              case hr_k23 => kernel_rfl
              case hQ_k23 => exact fun _ _ _ h => h
              case hw_k23 => rfl
              case hy_k23 => ((intro w hSw; (try dsimp only at hSw); go_simp); all_goals (with_reducible rfl))
              try simp only [Act.put, List.setIfInBounds_toArray, List.set_cons_zero, List.set_cons_succ]
              refine wpAnyH_take (i := 7) (oi := ?oi_k24) (v := ?v_k24) ?hi_k24 (by kernel_rfl) ?hf_k24 ?hr_k24 ?hQ_k24 (Or.inl ⟨?hw_k24, ?hy_k24⟩) (by assumption) ?rest_k24
              case hi_k24 => ((simp only [List.getElem?_toArray, List.getElem?_cons_succ, List.getElem?_cons_zero]); rfl)
              case hf_k24 => kernel_rfl
              case hr_k24 => kernel_rfl
              case hQ_k24 => exact fun _ _ _ h => h
              case hw_k24 => rfl
              case hy_k24 => ((intro w hSw; (try dsimp only at hSw); go_simp); all_goals (with_reducible rfl))
              try simp only [Act.put, List.setIfInBounds_toArray, List.set_cons_zero, List.set_cons_succ]
              have y0 := hBM.cell (j := 0) rfl
              have y1 := hBM.cell (j := 1) rfl
              have y2 := hBM.cell (j := 2) rfl
              have yf := hBM.frozen
              refine wpAnyH_ready (rs := [9]) (by kernel_rfl) (by simp) ?_
              refine AllReadyH.cons (o := ?o1_k25) ?hi_k25 (fun K hK => ?rest_k25) AllReadyH.nil
              case hi_k25 => ((simp only [List.getElem?_toArray, List.getElem?_cons_succ, List.getElem?_cons_zero]); rfl)
              go_simp
              clear y0 y1 y2 yf
              have hb10 := (belSet (belSet (belSet (show Below W4.heap.size W4 d3 from by assumption) ⟨M, 0, none⟩ (.int .i64 0) hM) ⟨M, 1, none⟩ (.int .i64 0) hM) ⟨M, 2, none⟩ (.slice b1 0 m1) hM)
              have hR10 := (((hBM.set 0 (.int .i64 0)).set 1 (.int .i64 0)).set 2 (.slice b1 0 m1))
              clear hBM hM
              generalize (((d3.setCell ⟨M, 0, none⟩ (.int .i64 0)).setCell ⟨M, 1, none⟩ (.int .i64 0)).setCell ⟨M, 2, none⟩ (.slice b1 0 m1)) = W5 at hb10 hR10 ⊢
              refine hK.out _ _ (by exact (show Below W4.heap.size W4 _ by repeat (first | assumption | exact Below.refl _ _ | refine belDrew ?_ | refine belAlloc ?_ _ | refine belStep ?_ (by assumption)))) (fun hHeld => ?_)
              clear hK K
              try simp only [Act.put, List.setIfInBounds_toArray, List.set_cons_zero, List.set_cons_succ]
              refine wpAnyH_take (i := 10) (oi := ?oi_k26) (v := ?v_k26) ?hi_k26 (by kernel_rfl) ?hf_k26 ?hr_k26 ?hQ_k26 (Or.inl ⟨?hw_k26, ?hy_k26⟩) (by assumption) ?rest_k26
              case hi_k26 => ((simp only [List.getElem?_toArray, List.getElem?_cons_succ, List.getElem?_cons_zero]); rfl)
              case hf_k26 => kernel_rfl
              case hr_k26 => kernel_rfl
              case hQ_k26 => exact fun _ _ _ h => h
              case hw_k26 => rfl
              case hy_k26 => ((intro w hSw; (try dsimp only at hSw); go_simp); all_goals (with_reducible rfl))
              try simp only [Act.put, List.setIfInBounds_toArray, List.set_cons_zero, List.set_cons_succ]
              refine wpAnyH_done (by kernel_rfl) ?_ _
              have CSA := Lib.hid (show ∀ u : World, Calls Try.prog 9 #[.agg #[.int .i64 0, .int .i64 0, .slice b1 0 m1], .agg #[.int .i64 0, .int .i64 0, .slice none 0 0]] u fun e w' => e = .returned (.bool true) ∧ Below u.heap.size u w' from fun u => by have h := rref_Same ⟨0, 0, []⟩ ⟨0, 0, []⟩ b1 none m1 0 u (HRW.out u) row_nil; rw [sameV_refl] at h; exact h)
              clear hHeld
              have v0 := keep (hR10.cell (j := 0) rfl)
              have v1 := keep (hR10.cell (j := 1) rfl)
              have v2 := keep (hR10.cell (j := 2) rfl)
              have hbel := hb10
              clear hb10 hR10
              replace pp0 := keepOnP pp0 hbel
              replace pp1 := keepOnP pp1 hbel
              replace pp2 := keepOnP pp2 hbel
              replace pp3 := keepOnP pp3 hbel
              replace pp4 := keepOnP pp4 hbel
              replace pp5 := keepOnP pp5 hbel
              replace pp6 := keepOnP pp6 hbel
              replace pp7 := keepOnP pp7 hbel
              replace pp8 := keepOnP pp8 hbel
              replace pp9 := keepOnP pp9 hbel
              replace pp10 := keepOnP pp10 hbel
              have HW5 := Lib.hid (belStep HW4.out hbel)
              clear hbel
              skip
              have hbel : Below W5.heap.size W5 W5 := Below.refl _ _
              go_wp2_with (first | (go_at_call 8; (with_reducible refine (CRP.out _).mono ?_); rintro e w1 ⟨rfl, hb1⟩; replace hbel := belStep hbel hb1; clear hb1) | (go_at_call 9; (with_reducible refine (CSA.out _).mono ?_); rintro e u9 ⟨rfl, hb9⟩; replace hbel := belStep hbel hb9))
              go_ret
              exact ⟨rfl, belStep HW5.out hbel⟩
          · have HJ64 := Lib.hid hj64
            clear hj64
            go_wp2
            refine wp_region_held_drew (S := fun u => Below W4.heap.size W4 u) (by kernel_rfl) (by exact (show Below W4.heap.size W4 _ by repeat (first | assumption | exact Below.refl _ _ | refine belDrew ?_ | refine belAlloc ?_ _ | refine belStep ?_ (by assumption)))) (fun hHeld => ?_)
            refine wpAnyH_take (i := 1) (oi := ?oi_k37) (v := ?v_k37) ?hi_k37 (by kernel_rfl) ?hf_k37 ?hr_k37 ?hQ_k37 (Or.inl ⟨?hw_k37, ?hy_k37⟩) (by assumption) ?rest_k37
            case hi_k37 => ((simp only [List.getElem?_toArray, List.getElem?_cons_succ, List.getElem?_cons_zero]); rfl)
            case hf_k37 => kernel_rfl
            case hr_k37 => kernel_rfl
            case hQ_k37 => exact fun _ _ _ h => h
            case hw_k37 => rfl
            case hy_k37 => ((intro w hSw; (try dsimp only at hSw); go_simp); all_goals (with_reducible rfl))
            try simp only [Act.put, List.setIfInBounds_toArray, List.set_cons_zero, List.set_cons_succ]
            refine wpAnyH_take (i := 2) (oi := ?oi_k38) (v := ?v_k38) ?hi_k38 (by kernel_rfl) ?hf_k38 ?hr_k38 ?hQ_k38 (Or.inl ⟨?hw_k38, ?hy_k38⟩) (by assumption) ?rest_k38
            case hi_k38 => ((simp only [List.getElem?_toArray, List.getElem?_cons_succ, List.getElem?_cons_zero]); rfl)
            case hf_k38 => kernel_rfl
            case hr_k38 => kernel_rfl
            case hQ_k38 => exact fun _ _ _ h => h
            case hw_k38 => rfl
            case hy_k38 => ((intro w hSw; (try dsimp only at hSw); go_simp); all_goals (with_reducible rfl))
            try simp only [Act.put, List.setIfInBounds_toArray, List.set_cons_zero, List.set_cons_succ]
            refine wpAnyH_take (i := 3) (oi := ?oi_k39) (v := ?v_k39) ?hi_k39 (by kernel_rfl) ?hf_k39 ?hr_k39 ?hQ_k39 (Or.inl ⟨?hw_k39, ?hy_k39⟩) (by assumption) ?rest_k39
            case hi_k39 => ((simp only [List.getElem?_toArray, List.getElem?_cons_succ, List.getElem?_cons_zero]); rfl)
            case hf_k39 => kernel_rfl
            case hr_k39 => kernel_rfl
            case hQ_k39 => exact fun _ _ _ h => h
            case hw_k39 => rfl
            case hy_k39 => ((intro w hSw; (try dsimp only at hSw); go_simp); all_goals (with_reducible rfl))
            try simp only [Act.put, List.setIfInBounds_toArray, List.set_cons_zero, List.set_cons_succ]
            generalize W4.drew = d0 at *
            refine wpAnyH_ready (rs := [0, 8]) (by kernel_rfl) (by simp) ?_
            refine AllReadyH.cons (o := ?o1_w18) ?hi1_w18 (fun K hK => ?rest1_w18) (AllReadyH.cons (o := ?o2_w18) ?hi2_w18 (fun K hK => ?rest2_w18) AllReadyH.nil)
            case hi1_w18 => ((simp only [List.getElem?_toArray, List.getElem?_cons_succ, List.getElem?_cons_zero]); rfl)
            case hi2_w18 => ((simp only [List.getElem?_toArray, List.getElem?_cons_succ, List.getElem?_cons_zero]); rfl)
            case rest1_w18 =>
              go_simp
              (go_at_call 7; (with_reducible refine (some23 _).mono ?_); rintro e q0 ⟨rfl, hbq⟩)
              try go_simp
              refine hK.out _ _ (by exact (show Below W4.heap.size W4 _ by repeat (first | assumption | exact Below.refl _ _ | refine belDrew ?_ | refine belAlloc ?_ _ | refine belStep ?_ (by assumption)))) (fun hHeld => ?_)
              clear hK K
              try simp only [Act.put, List.setIfInBounds_toArray, List.set_cons_zero, List.set_cons_succ]
              generalize q0 = d1 at *
              refine wpAnyH_ready (rs := [4, 8]) (by kernel_rfl) (by simp) ?_
              refine AllReadyH.cons (o := ?o1_w17) ?hi1_w17 (fun K hK => ?rest1_w17) (AllReadyH.cons (o := ?o2_w17) ?hi2_w17 (fun K hK => ?rest2_w17) AllReadyH.nil)
              case hi1_w17 => ((simp only [List.getElem?_toArray, List.getElem?_cons_succ, List.getElem?_cons_zero]); rfl)
              case hi2_w17 => ((simp only [List.getElem?_toArray, List.getElem?_cons_succ, List.getElem?_cons_zero]); rfl)
              case rest1_w17 =>
                go_simp
                (go_at_call 6; (with_reducible refine (CD.out _ (by assumption)).mono ?_); rintro e q1 ⟨⟨b1, m1, rfl, ho1⟩, hbq2⟩)
                try go_simp
                obtain ⟨rw1, rw2, rw3, rw4, _⟩ := row_of_owns ho1
                have HRW := Lib.hid (fun u : World => (⟨rw1, rw2, rw3, rw4, .inl rfl⟩ : Row u b1 0 m1 1 ([] : List Value)))
                clear rw1 rw2 rw3 rw4
                clear ho1
                refine hK.out _ _ (by exact (show Below W4.heap.size W4 _ by repeat (first | assumption | exact Below.refl _ _ | refine belDrew ?_ | refine belAlloc ?_ _ | refine belStep ?_ (by assumption)))) (fun hHeld => ?_)
                clear hK K
                try simp only [Act.put, List.setIfInBounds_toArray, List.set_cons_zero, List.set_cons_succ]
                generalize q1 = d2 at *
                refine wpAnyH_take (i := 5) (oi := ?oi_k50) (v := ?v_k50) ?hi_k50 (by kernel_rfl) ?hf_k50 ?hr_k50 ?hQ_k50 (Or.inl ⟨?hw_k50, ?hy_k50⟩) (by assumption) ?rest_k50
                case hi_k50 => ((simp only [List.getElem?_toArray, List.getElem?_cons_succ, List.getElem?_cons_zero]); rfl)
                case hf_k50 => kernel_rfl
                case hr_k50 => kernel_rfl
                case hQ_k50 => exact fun _ _ _ h => h
                case hw_k50 => rfl
                case hy_k50 => ((intro w hSw; (try dsimp only at hSw); go_simp); all_goals (with_reducible rfl))
                try simp only [Act.put, List.setIfInBounds_toArray, List.set_cons_zero, List.set_cons_succ]
                refine wpAnyH_take (i := 6) (oi := ?oi_k51) (v := ?v_k51) ?hi_k51 (by kernel_rfl) ?hf_k51 ?hr_k51 ?hQ_k51 (Or.inl ⟨?hw_k51, ?hy_k51⟩) (by assumption) ?rest_k51
                case hi_k51 => ((simp only [List.getElem?_toArray, List.getElem?_cons_succ, List.getElem?_cons_zero]); rfl)
                case hf_k51 => kernel_rfl
                case hr_k51 => kernel_rfl
                case hQ_k51 => exact fun _ _ _ h => h
                case hw_k51 => rfl
                case hy_k51 => ((intro w hSw; (try dsimp only at hSw); go_simp); all_goals (with_reducible rfl))
                try simp only [Act.put, List.setIfInBounds_toArray, List.set_cons_zero, List.set_cons_succ]
                refine wpAnyH_take (i := 7) (oi := ?oi_k52) (v := ?v_k52) ?hi_k52 (by kernel_rfl) ?hf_k52 ?hr_k52 ?hQ_k52 (Or.inl ⟨?hw_k52, ?hy_k52⟩) (by assumption) ?rest_k52
                case hi_k52 => ((simp only [List.getElem?_toArray, List.getElem?_cons_succ, List.getElem?_cons_zero]); rfl)
                case hf_k52 => kernel_rfl
                case hr_k52 => kernel_rfl
                case hQ_k52 => exact fun _ _ _ h => h
                case hw_k52 => rfl
                case hy_k52 => ((intro w hSw; (try dsimp only at hSw); go_simp); all_goals (with_reducible rfl))
                try simp only [Act.put, List.setIfInBounds_toArray, List.set_cons_zero, List.set_cons_succ]
                refine wpAnyH_ready (rs := [8]) (by kernel_rfl) (by simp) ?_
                refine AllReadyH.cons (o := ?o1_v16) ?hi_v16 (fun K hK => ?rest_v16) AllReadyH.nil
                case hi_v16 => ((simp only [List.getElem?_toArray, List.getElem?_cons_succ, List.getElem?_cons_zero]); rfl)
                go_simp
                have hM := Below.size (show Below W4.heap.size W4 d2 by assumption)
                have hBM := Blk.new d2 [.int .i64 0, .int .i64 0, .slice none 0 0] 34
                have hba := belAlloc (show Below W4.heap.size W4 d2 by assumption) (.cells #[.int .i64 0, .int .i64 0, .slice none 0 0] 34)
                generalize d2.alloc (.cells #[.int .i64 0, .int .i64 0, .slice none 0 0] 34) = a8 at hBM hba ⊢
                generalize d2.heap.size = M at hBM hM ⊢
                refine hK.out _ _ (by exact (show Below W4.heap.size W4 _ by repeat (first | assumption | exact Below.refl _ _ | refine belDrew ?_ | refine belAlloc ?_ _ | refine belStep ?_ (by assumption)))) (fun hHeld => ?_)
                clear hK K
                try simp only [Act.put, List.setIfInBounds_toArray, List.set_cons_zero, List.set_cons_succ]
                generalize a8 = d3 at *
                have y0 := hBM.cell (j := 0) rfl
                have y1 := hBM.cell (j := 1) rfl
                have y2 := hBM.cell (j := 2) rfl
                have yf := hBM.frozen
                refine wpAnyH_ready (rs := [9]) (by kernel_rfl) (by simp) ?_
                refine AllReadyH.cons (o := ?o1_k53) ?hi_k53 (fun K hK => ?rest_k53) AllReadyH.nil
                case hi_k53 => ((simp only [List.getElem?_toArray, List.getElem?_cons_succ, List.getElem?_cons_zero]); rfl)
                go_simp
                clear y0 y1 y2 yf
                have hb10 := (belSet (belSet (belSet (show Below W4.heap.size W4 d3 from by assumption) ⟨M, 0, none⟩ (.int .i64 0) hM) ⟨M, 1, none⟩ (.int .i64 0) hM) ⟨M, 2, none⟩ (.slice b1 0 m1) hM)
                have hR10 := (((hBM.set 0 (.int .i64 0)).set 1 (.int .i64 0)).set 2 (.slice b1 0 m1))
                clear hBM hM
                generalize (((d3.setCell ⟨M, 0, none⟩ (.int .i64 0)).setCell ⟨M, 1, none⟩ (.int .i64 0)).setCell ⟨M, 2, none⟩ (.slice b1 0 m1)) = W5 at hb10 hR10 ⊢
                refine hK.out _ _ (by exact (show Below W4.heap.size W4 _ by repeat (first | assumption | exact Below.refl _ _ | refine belDrew ?_ | refine belAlloc ?_ _ | refine belStep ?_ (by assumption)))) (fun hHeld => ?_)
                clear hK K
                try simp only [Act.put, List.setIfInBounds_toArray, List.set_cons_zero, List.set_cons_succ]
                refine wpAnyH_take (i := 10) (oi := ?oi_k54) (v := ?v_k54) ?hi_k54 (by kernel_rfl) ?hf_k54 ?hr_k54 ?hQ_k54 (Or.inl ⟨?hw_k54, ?hy_k54⟩) (by assumption) ?rest_k54
                case hi_k54 => ((simp only [List.getElem?_toArray, List.getElem?_cons_succ, List.getElem?_cons_zero]); rfl)
                case hf_k54 => kernel_rfl
                case hr_k54 => kernel_rfl
                case hQ_k54 => exact fun _ _ _ h => h
                case hw_k54 => rfl
                case hy_k54 => ((intro w hSw; (try dsimp only at hSw); go_simp); all_goals (with_reducible rfl))
                try simp only [Act.put, List.setIfInBounds_toArray, List.set_cons_zero, List.set_cons_succ]
                refine wpAnyH_done (by kernel_rfl) ?_ _
                have hj5 : ((j : Int) == 64) = true := by rw [beq_iff_eq]; have := HJ64.out; omega
                have CSA := Lib.hid (show ∀ u : World, Calls Try.prog 9 #[.agg #[.int .i64 0, .int .i64 0, .slice b1 0 m1], .agg #[.int .i64 0, .int .i64 0, .slice none 0 0]] u fun e w' => e = .returned (.bool true) ∧ Below u.heap.size u w' from fun u => by have h := rref_Same ⟨0, 0, []⟩ ⟨0, 0, []⟩ b1 none m1 0 u (HRW.out u) row_nil; rw [sameV_refl] at h; exact h)
                clear hHeld
                have v0 := keep (hR10.cell (j := 0) rfl)
                have v1 := keep (hR10.cell (j := 1) rfl)
                have v2 := keep (hR10.cell (j := 2) rfl)
                have hbel := hb10
                clear hb10 hR10
                replace pp0 := keepOnP pp0 hbel
                replace pp1 := keepOnP pp1 hbel
                replace pp2 := keepOnP pp2 hbel
                replace pp3 := keepOnP pp3 hbel
                replace pp4 := keepOnP pp4 hbel
                replace pp5 := keepOnP pp5 hbel
                replace pp6 := keepOnP pp6 hbel
                replace pp7 := keepOnP pp7 hbel
                replace pp8 := keepOnP pp8 hbel
                replace pp9 := keepOnP pp9 hbel
                replace pp10 := keepOnP pp10 hbel
                have HW5 := Lib.hid (belStep HW4.out hbel)
                clear hbel
                skip
                have hbel : Below W5.heap.size W5 W5 := Below.refl _ _
                go_wp2_with (first | (go_at_call 8; (with_reducible refine (CRP.out _).mono ?_); rintro e w1 ⟨rfl, hb1⟩; replace hbel := belStep hbel hb1; clear hb1) | (go_at_call 9; (with_reducible refine (CSA.out _).mono ?_); rintro e u9 ⟨rfl, hb9⟩; replace hbel := belStep hbel hb9))
                go_ret
                exact ⟨rfl, belStep HW5.out hbel⟩
              case rest2_w17 =>
                go_simp
                have hM := Below.size (show Below W4.heap.size W4 d1 by assumption)
                have hBM := Blk.new d1 [.int .i64 0, .int .i64 0, .slice none 0 0] 34
                have hba := belAlloc (show Below W4.heap.size W4 d1 by assumption) (.cells #[.int .i64 0, .int .i64 0, .slice none 0 0] 34)
                generalize d1.alloc (.cells #[.int .i64 0, .int .i64 0, .slice none 0 0] 34) = a8 at hBM hba ⊢
                generalize d1.heap.size = M at hBM hM ⊢
                refine hK.out _ _ (by exact (show Below W4.heap.size W4 _ by repeat (first | assumption | exact Below.refl _ _ | refine belDrew ?_ | refine belAlloc ?_ _ | refine belStep ?_ (by assumption)))) (fun hHeld => ?_)
                clear hK K
                try simp only [Act.put, List.setIfInBounds_toArray, List.set_cons_zero, List.set_cons_succ]
                generalize a8 = d2 at *
                refine wpAnyH_ready (rs := [4]) (by kernel_rfl) (by simp) ?_
                refine AllReadyH.cons (o := ?o1_v15) ?hi_v15 (fun K hK => ?rest_v15) AllReadyH.nil
                case hi_v15 => ((simp only [List.getElem?_toArray, List.getElem?_cons_succ, List.getElem?_cons_zero]); rfl)
                go_simp
                (go_at_call 6; (with_reducible refine (CD.out _ (by assumption)).mono ?_); rintro e q1 ⟨⟨b1, m1, rfl, ho1⟩, hbq2⟩)
                try go_simp
                obtain ⟨rw1, rw2, rw3, rw4, _⟩ := row_of_owns ho1
                have HRW := Lib.hid (fun u : World => (⟨rw1, rw2, rw3, rw4, .inl rfl⟩ : Row u b1 0 m1 1 ([] : List Value)))
                clear rw1 rw2 rw3 rw4
                clear ho1
                replace hBM := hBM.later hbq2
                refine hK.out _ _ (by exact (show Below W4.heap.size W4 _ by repeat (first | assumption | exact Below.refl _ _ | refine belDrew ?_ | refine belAlloc ?_ _ | refine belStep ?_ (by assumption)))) (fun hHeld => ?_)
                clear hK K
                try simp only [Act.put, List.setIfInBounds_toArray, List.set_cons_zero, List.set_cons_succ]
                generalize q1 = d3 at *
                refine wpAnyH_take (i := 5) (oi := ?oi_k45) (v := ?v_k45) ?hi_k45 (by kernel_rfl) ?hf_k45 ?hr_k45 ?hQ_k45 (Or.inl ⟨?hw_k45, ?hy_k45⟩) (by assumption) ?rest_k45
                case hi_k45 => ((simp only [List.getElem?_toArray, List.getElem?_cons_succ, List.getElem?_cons_zero]); rfl)
                case hf_k45 => kernel_rfl
                case hr_k45 => kernel_rfl
                case hQ_k45 => exact fun _ _ _ h => h
                case hw_k45 => rfl
                case hy_k45 => ((intro w hSw; (try dsimp only at hSw); go_simp); all_goals (with_reducible rfl))
                try simp only [Act.put, List.setIfInBounds_toArray, List.set_cons_zero, List.set_cons_succ]
                refine wpAnyH_take (i := 6) (oi := ?oi_k46) (v := ?v_k46) ?hi_k46 (by kernel_rfl) ?hf_k46 ?hr_k46 ?hQ_k46 (Or.inl ⟨?hw_k46, ?hy_k46⟩) (by assumption) ?rest_k46
                case hi_k46 => ((simp only [List.getElem?_toArray, List.getElem?_cons_succ, List.getElem?_cons_zero]); rfl)
                case hf_k46 => kernel_rfl
                case hr_k46 => kernel_rfl
                case hQ_k46 => exact fun _ _ _ h => h
                case hw_k46 => rfl
                case hy_k46 => ((intro w hSw; (try dsimp only at hSw); go_simp); all_goals (with_reducible rfl))
                try simp only [Act.put, List.setIfInBounds_toArray, List.set_cons_zero, List.set_cons_succ]
                refine wpAnyH_take (i := 7) (oi := ?oi_k47) (v := ?v_k47) ?hi_k47 (by kernel_rfl) ?hf_k47 ?hr_k47 ?hQ_k47 (Or.inl ⟨?hw_k47, ?hy_k47⟩) (by assumption) ?rest_k47
                case hi_k47 => ((simp only [List.getElem?_toArray, List.getElem?_cons_succ, List.getElem?_cons_zero]); rfl)
                case hf_k47 => kernel_rfl
                case hr_k47 => kernel_rfl
                case hQ_k47 => exact fun _ _ _ h => h
                case hw_k47 => rfl
                case hy_k47 => ((intro w hSw; (try dsimp only at hSw); go_simp); all_goals (with_reducible rfl))
                try simp only [Act.put, List.setIfInBounds_toArray, List.set_cons_zero, List.set_cons_succ]
                have y0 := hBM.cell (j := 0) rfl
                have y1 := hBM.cell (j := 1) rfl
                have y2 := hBM.cell (j := 2) rfl
                have yf := hBM.frozen
                refine wpAnyH_ready (rs := [9]) (by kernel_rfl) (by simp) ?_
                refine AllReadyH.cons (o := ?o1_k48) ?hi_k48 (fun K hK => ?rest_k48) AllReadyH.nil
                case hi_k48 => ((simp only [List.getElem?_toArray, List.getElem?_cons_succ, List.getElem?_cons_zero]); rfl)
                go_simp
                clear y0 y1 y2 yf
                have hb10 := (belSet (belSet (belSet (show Below W4.heap.size W4 d3 from by assumption) ⟨M, 0, none⟩ (.int .i64 0) hM) ⟨M, 1, none⟩ (.int .i64 0) hM) ⟨M, 2, none⟩ (.slice b1 0 m1) hM)
                have hR10 := (((hBM.set 0 (.int .i64 0)).set 1 (.int .i64 0)).set 2 (.slice b1 0 m1))
                clear hBM hM
                generalize (((d3.setCell ⟨M, 0, none⟩ (.int .i64 0)).setCell ⟨M, 1, none⟩ (.int .i64 0)).setCell ⟨M, 2, none⟩ (.slice b1 0 m1)) = W5 at hb10 hR10 ⊢
                refine hK.out _ _ (by exact (show Below W4.heap.size W4 _ by repeat (first | assumption | exact Below.refl _ _ | refine belDrew ?_ | refine belAlloc ?_ _ | refine belStep ?_ (by assumption)))) (fun hHeld => ?_)
                clear hK K
                try simp only [Act.put, List.setIfInBounds_toArray, List.set_cons_zero, List.set_cons_succ]
                refine wpAnyH_take (i := 10) (oi := ?oi_k49) (v := ?v_k49) ?hi_k49 (by kernel_rfl) ?hf_k49 ?hr_k49 ?hQ_k49 (Or.inl ⟨?hw_k49, ?hy_k49⟩) (by assumption) ?rest_k49
                case hi_k49 => ((simp only [List.getElem?_toArray, List.getElem?_cons_succ, List.getElem?_cons_zero]); rfl)
                case hf_k49 => kernel_rfl
                case hr_k49 => kernel_rfl
                case hQ_k49 => exact fun _ _ _ h => h
                case hw_k49 => rfl
                case hy_k49 => ((intro w hSw; (try dsimp only at hSw); go_simp); all_goals (with_reducible rfl))
                try simp only [Act.put, List.setIfInBounds_toArray, List.set_cons_zero, List.set_cons_succ]
                refine wpAnyH_done (by kernel_rfl) ?_ _
                have hj5 : ((j : Int) == 64) = true := by rw [beq_iff_eq]; have := HJ64.out; omega
                have CSA := Lib.hid (show ∀ u : World, Calls Try.prog 9 #[.agg #[.int .i64 0, .int .i64 0, .slice b1 0 m1], .agg #[.int .i64 0, .int .i64 0, .slice none 0 0]] u fun e w' => e = .returned (.bool true) ∧ Below u.heap.size u w' from fun u => by have h := rref_Same ⟨0, 0, []⟩ ⟨0, 0, []⟩ b1 none m1 0 u (HRW.out u) row_nil; rw [sameV_refl] at h; exact h)
                clear hHeld
                have v0 := keep (hR10.cell (j := 0) rfl)
                have v1 := keep (hR10.cell (j := 1) rfl)
                have v2 := keep (hR10.cell (j := 2) rfl)
                have hbel := hb10
                clear hb10 hR10
                replace pp0 := keepOnP pp0 hbel
                replace pp1 := keepOnP pp1 hbel
                replace pp2 := keepOnP pp2 hbel
                replace pp3 := keepOnP pp3 hbel
                replace pp4 := keepOnP pp4 hbel
                replace pp5 := keepOnP pp5 hbel
                replace pp6 := keepOnP pp6 hbel
                replace pp7 := keepOnP pp7 hbel
                replace pp8 := keepOnP pp8 hbel
                replace pp9 := keepOnP pp9 hbel
                replace pp10 := keepOnP pp10 hbel
                have HW5 := Lib.hid (belStep HW4.out hbel)
                clear hbel
                skip
                have hbel : Below W5.heap.size W5 W5 := Below.refl _ _
                go_wp2_with (first | (go_at_call 8; (with_reducible refine (CRP.out _).mono ?_); rintro e w1 ⟨rfl, hb1⟩; replace hbel := belStep hbel hb1; clear hb1) | (go_at_call 9; (with_reducible refine (CSA.out _).mono ?_); rintro e u9 ⟨rfl, hb9⟩; replace hbel := belStep hbel hb9))
                go_ret
                exact ⟨rfl, belStep HW5.out hbel⟩
            case rest2_w18 =>
              go_simp
              have hM := Below.size (show Below W4.heap.size W4 d0 by assumption)
              have hBM := Blk.new d0 [.int .i64 0, .int .i64 0, .slice none 0 0] 34
              have hba := belAlloc (show Below W4.heap.size W4 d0 by assumption) (.cells #[.int .i64 0, .int .i64 0, .slice none 0 0] 34)
              generalize d0.alloc (.cells #[.int .i64 0, .int .i64 0, .slice none 0 0] 34) = a8 at hBM hba ⊢
              generalize d0.heap.size = M at hBM hM ⊢
              refine hK.out _ _ (by exact (show Below W4.heap.size W4 _ by repeat (first | assumption | exact Below.refl _ _ | refine belDrew ?_ | refine belAlloc ?_ _ | refine belStep ?_ (by assumption)))) (fun hHeld => ?_)
              clear hK K
              try simp only [Act.put, List.setIfInBounds_toArray, List.set_cons_zero, List.set_cons_succ]
              generalize a8 = d1 at *
              refine wpAnyH_ready (rs := [0]) (by kernel_rfl) (by simp) ?_
              refine AllReadyH.cons (o := ?o1_v13) ?hi_v13 (fun K hK => ?rest_v13) AllReadyH.nil
              case hi_v13 => ((simp only [List.getElem?_toArray, List.getElem?_cons_succ, List.getElem?_cons_zero]); rfl)
              go_simp
              (go_at_call 7; (with_reducible refine (some23 _).mono ?_); rintro e q0 ⟨rfl, hbq⟩)
              try go_simp
              replace hBM := hBM.later hbq
              refine hK.out _ _ (by exact (show Below W4.heap.size W4 _ by repeat (first | assumption | exact Below.refl _ _ | refine belDrew ?_ | refine belAlloc ?_ _ | refine belStep ?_ (by assumption)))) (fun hHeld => ?_)
              clear hK K
              try simp only [Act.put, List.setIfInBounds_toArray, List.set_cons_zero, List.set_cons_succ]
              generalize q0 = d2 at *
              refine wpAnyH_ready (rs := [4]) (by kernel_rfl) (by simp) ?_
              refine AllReadyH.cons (o := ?o1_v14) ?hi_v14 (fun K hK => ?rest_v14) AllReadyH.nil
              case hi_v14 => ((simp only [List.getElem?_toArray, List.getElem?_cons_succ, List.getElem?_cons_zero]); rfl)
              go_simp
              (go_at_call 6; (with_reducible refine (CD.out _ (by assumption)).mono ?_); rintro e q1 ⟨⟨b1, m1, rfl, ho1⟩, hbq2⟩)
              try go_simp
              obtain ⟨rw1, rw2, rw3, rw4, _⟩ := row_of_owns ho1
              have HRW := Lib.hid (fun u : World => (⟨rw1, rw2, rw3, rw4, .inl rfl⟩ : Row u b1 0 m1 1 ([] : List Value)))
              clear rw1 rw2 rw3 rw4
              clear ho1
              replace hBM := hBM.later hbq2
              refine hK.out _ _ (by exact (show Below W4.heap.size W4 _ by repeat (first | assumption | exact Below.refl _ _ | refine belDrew ?_ | refine belAlloc ?_ _ | refine belStep ?_ (by assumption)))) (fun hHeld => ?_)
              clear hK K
              try simp only [Act.put, List.setIfInBounds_toArray, List.set_cons_zero, List.set_cons_succ]
              generalize q1 = d3 at *
              refine wpAnyH_take (i := 5) (oi := ?oi_k40) (v := ?v_k40) ?hi_k40 (by kernel_rfl) ?hf_k40 ?hr_k40 ?hQ_k40 (Or.inl ⟨?hw_k40, ?hy_k40⟩) (by assumption) ?rest_k40
              case hi_k40 => ((simp only [List.getElem?_toArray, List.getElem?_cons_succ, List.getElem?_cons_zero]); rfl)
              case hf_k40 => kernel_rfl
              case hr_k40 => kernel_rfl
              case hQ_k40 => exact fun _ _ _ h => h
              case hw_k40 => rfl
              case hy_k40 => ((intro w hSw; (try dsimp only at hSw); go_simp); all_goals (with_reducible rfl))
              try simp only [Act.put, List.setIfInBounds_toArray, List.set_cons_zero, List.set_cons_succ]
              refine wpAnyH_take (i := 6) (oi := ?oi_k41) (v := ?v_k41) ?hi_k41 (by kernel_rfl) ?hf_k41 ?hr_k41 ?hQ_k41 (Or.inl ⟨?hw_k41, ?hy_k41⟩) (by assumption) ?rest_k41
              case hi_k41 => ((simp only [List.getElem?_toArray, List.getElem?_cons_succ, List.getElem?_cons_zero]); rfl)
              case hf_k41 => kernel_rfl
              case hr_k41 => kernel_rfl
              case hQ_k41 => exact fun _ _ _ h => h
              case hw_k41 => rfl
              case hy_k41 => ((intro w hSw; (try dsimp only at hSw); go_simp); all_goals (with_reducible rfl))
              try simp only [Act.put, List.setIfInBounds_toArray, List.set_cons_zero, List.set_cons_succ]
              refine wpAnyH_take (i := 7) (oi := ?oi_k42) (v := ?v_k42) ?hi_k42 (by kernel_rfl) ?hf_k42 ?hr_k42 ?hQ_k42 (Or.inl ⟨?hw_k42, ?hy_k42⟩) (by assumption) ?rest_k42
              case hi_k42 => ((simp only [List.getElem?_toArray, List.getElem?_cons_succ, List.getElem?_cons_zero]); rfl)
              case hf_k42 => kernel_rfl
              case hr_k42 => kernel_rfl
              case hQ_k42 => exact fun _ _ _ h => h
              case hw_k42 => rfl
              case hy_k42 => ((intro w hSw; (try dsimp only at hSw); go_simp); all_goals (with_reducible rfl))
              try simp only [Act.put, List.setIfInBounds_toArray, List.set_cons_zero, List.set_cons_succ]
              have y0 := hBM.cell (j := 0) rfl
              have y1 := hBM.cell (j := 1) rfl
              have y2 := hBM.cell (j := 2) rfl
              have yf := hBM.frozen
              refine wpAnyH_ready (rs := [9]) (by kernel_rfl) (by simp) ?_
              refine AllReadyH.cons (o := ?o1_k43) ?hi_k43 (fun K hK => ?rest_k43) AllReadyH.nil
              case hi_k43 => ((simp only [List.getElem?_toArray, List.getElem?_cons_succ, List.getElem?_cons_zero]); rfl)
              go_simp
              clear y0 y1 y2 yf
              have hb10 := (belSet (belSet (belSet (show Below W4.heap.size W4 d3 from by assumption) ⟨M, 0, none⟩ (.int .i64 0) hM) ⟨M, 1, none⟩ (.int .i64 0) hM) ⟨M, 2, none⟩ (.slice b1 0 m1) hM)
              have hR10 := (((hBM.set 0 (.int .i64 0)).set 1 (.int .i64 0)).set 2 (.slice b1 0 m1))
              clear hBM hM
              generalize (((d3.setCell ⟨M, 0, none⟩ (.int .i64 0)).setCell ⟨M, 1, none⟩ (.int .i64 0)).setCell ⟨M, 2, none⟩ (.slice b1 0 m1)) = W5 at hb10 hR10 ⊢
              refine hK.out _ _ (by exact (show Below W4.heap.size W4 _ by repeat (first | assumption | exact Below.refl _ _ | refine belDrew ?_ | refine belAlloc ?_ _ | refine belStep ?_ (by assumption)))) (fun hHeld => ?_)
              clear hK K
              try simp only [Act.put, List.setIfInBounds_toArray, List.set_cons_zero, List.set_cons_succ]
              refine wpAnyH_take (i := 10) (oi := ?oi_k44) (v := ?v_k44) ?hi_k44 (by kernel_rfl) ?hf_k44 ?hr_k44 ?hQ_k44 (Or.inl ⟨?hw_k44, ?hy_k44⟩) (by assumption) ?rest_k44
              case hi_k44 => ((simp only [List.getElem?_toArray, List.getElem?_cons_succ, List.getElem?_cons_zero]); rfl)
              case hf_k44 => kernel_rfl
              case hr_k44 => kernel_rfl
              case hQ_k44 => exact fun _ _ _ h => h
              case hw_k44 => rfl
              case hy_k44 => ((intro w hSw; (try dsimp only at hSw); go_simp); all_goals (with_reducible rfl))
              try simp only [Act.put, List.setIfInBounds_toArray, List.set_cons_zero, List.set_cons_succ]
              refine wpAnyH_done (by kernel_rfl) ?_ _
              have hj5 : ((j : Int) == 64) = true := by rw [beq_iff_eq]; have := HJ64.out; omega
              have CSA := Lib.hid (show ∀ u : World, Calls Try.prog 9 #[.agg #[.int .i64 0, .int .i64 0, .slice b1 0 m1], .agg #[.int .i64 0, .int .i64 0, .slice none 0 0]] u fun e w' => e = .returned (.bool true) ∧ Below u.heap.size u w' from fun u => by have h := rref_Same ⟨0, 0, []⟩ ⟨0, 0, []⟩ b1 none m1 0 u (HRW.out u) row_nil; rw [sameV_refl] at h; exact h)
              clear hHeld
              have v0 := keep (hR10.cell (j := 0) rfl)
              have v1 := keep (hR10.cell (j := 1) rfl)
              have v2 := keep (hR10.cell (j := 2) rfl)
              have hbel := hb10
              clear hb10 hR10
              replace pp0 := keepOnP pp0 hbel
              replace pp1 := keepOnP pp1 hbel
              replace pp2 := keepOnP pp2 hbel
              replace pp3 := keepOnP pp3 hbel
              replace pp4 := keepOnP pp4 hbel
              replace pp5 := keepOnP pp5 hbel
              replace pp6 := keepOnP pp6 hbel
              replace pp7 := keepOnP pp7 hbel
              replace pp8 := keepOnP pp8 hbel
              replace pp9 := keepOnP pp9 hbel
              replace pp10 := keepOnP pp10 hbel
              have HW5 := Lib.hid (belStep HW4.out hbel)
              clear hbel
              skip
              have hbel : Below W5.heap.size W5 W5 := Below.refl _ _
              go_wp2_with (first | (go_at_call 8; (with_reducible refine (CRP.out _).mono ?_); rintro e w1 ⟨rfl, hb1⟩; replace hbel := belStep hbel hb1; clear hb1) | (go_at_call 9; (with_reducible refine (CSA.out _).mono ?_); rintro e u9 ⟨rfl, hb9⟩; replace hbel := belStep hbel hb9))
              go_ret
              exact ⟨rfl, belStep HW5.out hbel⟩
          · go_wp2
            refine wp_region_held_drew (S := fun u => Below W4.heap.size W4 u) (by kernel_rfl) (by exact (show Below W4.heap.size W4 _ by repeat (first | assumption | exact Below.refl _ _ | refine belDrew ?_ | refine belAlloc ?_ _ | refine belStep ?_ (by assumption)))) (fun hHeld => ?_)
            refine wpAnyH_take (i := 1) (oi := ?oi_k55) (v := ?v_k55) ?hi_k55 (by kernel_rfl) ?hf_k55 ?hr_k55 ?hQ_k55 (Or.inl ⟨?hw_k55, ?hy_k55⟩) (by assumption) ?rest_k55
            case hi_k55 => ((simp only [List.getElem?_toArray, List.getElem?_cons_succ, List.getElem?_cons_zero]); rfl)
            case hf_k55 => kernel_rfl
            case hr_k55 => kernel_rfl
            case hQ_k55 => exact fun _ _ _ h => h
            case hw_k55 => rfl
            case hy_k55 => ((intro w hSw; (try dsimp only at hSw); go_simp); all_goals (with_reducible rfl))
            try simp only [Act.put, List.setIfInBounds_toArray, List.set_cons_zero, List.set_cons_succ]
            refine wpAnyH_take (i := 2) (oi := ?oi_k56) (v := ?v_k56) ?hi_k56 (by kernel_rfl) ?hf_k56 ?hr_k56 ?hQ_k56 (Or.inl ⟨?hw_k56, ?hy_k56⟩) (by assumption) ?rest_k56
            case hi_k56 => ((simp only [List.getElem?_toArray, List.getElem?_cons_succ, List.getElem?_cons_zero]); rfl)
            case hf_k56 => kernel_rfl
            case hr_k56 => kernel_rfl
            case hQ_k56 => exact fun _ _ _ h => h
            case hw_k56 => rfl
            case hy_k56 => ((intro w hSw; (try dsimp only at hSw); go_simp); all_goals (with_reducible rfl))
            try simp only [Act.put, List.setIfInBounds_toArray, List.set_cons_zero, List.set_cons_succ]
            refine wpAnyH_take (i := 3) (oi := ?oi_k57) (v := ?v_k57) ?hi_k57 (by kernel_rfl) ?hf_k57 ?hr_k57 ?hQ_k57 (Or.inl ⟨?hw_k57, ?hy_k57⟩) (by assumption) ?rest_k57
            case hi_k57 => ((simp only [List.getElem?_toArray, List.getElem?_cons_succ, List.getElem?_cons_zero]); rfl)
            case hf_k57 => kernel_rfl
            case hr_k57 => kernel_rfl
            case hQ_k57 => exact fun _ _ _ h => h
            case hw_k57 => rfl
            case hy_k57 => ((intro w hSw; (try dsimp only at hSw); go_simp); all_goals (with_reducible rfl))
            try simp only [Act.put, List.setIfInBounds_toArray, List.set_cons_zero, List.set_cons_succ]
            generalize W4.drew = d0 at *
            refine wpAnyH_ready (rs := [0, 8]) (by kernel_rfl) (by simp) ?_
            refine AllReadyH.cons (o := ?o1_w24) ?hi1_w24 (fun K hK => ?rest1_w24) (AllReadyH.cons (o := ?o2_w24) ?hi2_w24 (fun K hK => ?rest2_w24) AllReadyH.nil)
            case hi1_w24 => ((simp only [List.getElem?_toArray, List.getElem?_cons_succ, List.getElem?_cons_zero]); rfl)
            case hi2_w24 => ((simp only [List.getElem?_toArray, List.getElem?_cons_succ, List.getElem?_cons_zero]); rfl)
            case rest1_w24 =>
              go_simp
              (go_at_call 7; (with_reducible refine (some23 _).mono ?_); rintro e q0 ⟨rfl, hbq⟩)
              try go_simp
              refine hK.out _ _ (by exact (show Below W4.heap.size W4 _ by repeat (first | assumption | exact Below.refl _ _ | refine belDrew ?_ | refine belAlloc ?_ _ | refine belStep ?_ (by assumption)))) (fun hHeld => ?_)
              clear hK K
              try simp only [Act.put, List.setIfInBounds_toArray, List.set_cons_zero, List.set_cons_succ]
              generalize q0 = d1 at *
              refine wpAnyH_ready (rs := [4, 8]) (by kernel_rfl) (by simp) ?_
              refine AllReadyH.cons (o := ?o1_w23) ?hi1_w23 (fun K hK => ?rest1_w23) (AllReadyH.cons (o := ?o2_w23) ?hi2_w23 (fun K hK => ?rest2_w23) AllReadyH.nil)
              case hi1_w23 => ((simp only [List.getElem?_toArray, List.getElem?_cons_succ, List.getElem?_cons_zero]); rfl)
              case hi2_w23 => ((simp only [List.getElem?_toArray, List.getElem?_cons_succ, List.getElem?_cons_zero]); rfl)
              case rest1_w23 =>
                go_simp
                (go_at_call 6; (with_reducible refine (CD.out _ (by assumption)).mono ?_); rintro e q1 ⟨⟨b1, m1, rfl, ho1⟩, hbq2⟩)
                try go_simp
                clear ho1
                refine hK.out _ _ (by exact (show Below W4.heap.size W4 _ by repeat (first | assumption | exact Below.refl _ _ | refine belDrew ?_ | refine belAlloc ?_ _ | refine belStep ?_ (by assumption)))) (fun hHeld => ?_)
                clear hK K
                try simp only [Act.put, List.setIfInBounds_toArray, List.set_cons_zero, List.set_cons_succ]
                generalize q1 = d2 at *
                refine wpAnyH_take (i := 5) (oi := ?oi_k68) (v := ?v_k68) ?hi_k68 (by kernel_rfl) ?hf_k68 ?hr_k68 ?hQ_k68 (Or.inl ⟨?hw_k68, ?hy_k68⟩) (by assumption) ?rest_k68
                case hi_k68 => ((simp only [List.getElem?_toArray, List.getElem?_cons_succ, List.getElem?_cons_zero]); rfl)
                case hf_k68 => kernel_rfl
                case hr_k68 => kernel_rfl
                case hQ_k68 => exact fun _ _ _ h => h
                case hw_k68 => rfl
                case hy_k68 => ((intro w hSw; (try dsimp only at hSw); go_simp); all_goals (with_reducible rfl))
                try simp only [Act.put, List.setIfInBounds_toArray, List.set_cons_zero, List.set_cons_succ]
                refine wpAnyH_take (i := 6) (oi := ?oi_k69) (v := ?v_k69) ?hi_k69 (by kernel_rfl) ?hf_k69 ?hr_k69 ?hQ_k69 (Or.inl ⟨?hw_k69, ?hy_k69⟩) (by assumption) ?rest_k69
                case hi_k69 => ((simp only [List.getElem?_toArray, List.getElem?_cons_succ, List.getElem?_cons_zero]); rfl)
                case hf_k69 => kernel_rfl
                case hr_k69 => kernel_rfl
                case hQ_k69 => exact fun _ _ _ h => h
                case hw_k69 => rfl
                case hy_k69 => ((intro w hSw; (try dsimp only at hSw); go_simp); all_goals (with_reducible rfl))
                try simp only [Act.put, List.setIfInBounds_toArray, List.set_cons_zero, List.set_cons_succ]
                refine wpAnyH_take (i := 7) (oi := ?oi_k70) (v := ?v_k70) ?hi_k70 (by kernel_rfl) ?hf_k70 ?hr_k70 ?hQ_k70 (Or.inl ⟨?hw_k70, ?hy_k70⟩) (by assumption) ?rest_k70
                case hi_k70 => ((simp only [List.getElem?_toArray, List.getElem?_cons_succ, List.getElem?_cons_zero]); rfl)
                case hf_k70 => kernel_rfl
                case hr_k70 => kernel_rfl
                case hQ_k70 => exact fun _ _ _ h => h
                case hw_k70 => rfl
                case hy_k70 => ((intro w hSw; (try dsimp only at hSw); go_simp); all_goals (with_reducible rfl))
                try simp only [Act.put, List.setIfInBounds_toArray, List.set_cons_zero, List.set_cons_succ]
                refine wpAnyH_ready (rs := [8]) (by kernel_rfl) (by simp) ?_
                refine AllReadyH.cons (o := ?o1_v22) ?hi_v22 (fun K hK => ?rest_v22) AllReadyH.nil
                case hi_v22 => ((simp only [List.getElem?_toArray, List.getElem?_cons_succ, List.getElem?_cons_zero]); rfl)
                go_simp
                have hM := Below.size (show Below W4.heap.size W4 d2 by assumption)
                have hBM := Blk.new d2 [.int .i64 0, .int .i64 0, .slice none 0 0] 34
                have hba := belAlloc (show Below W4.heap.size W4 d2 by assumption) (.cells #[.int .i64 0, .int .i64 0, .slice none 0 0] 34)
                generalize d2.alloc (.cells #[.int .i64 0, .int .i64 0, .slice none 0 0] 34) = a8 at hBM hba ⊢
                generalize d2.heap.size = M at hBM hM ⊢
                refine hK.out _ _ (by exact (show Below W4.heap.size W4 _ by repeat (first | assumption | exact Below.refl _ _ | refine belDrew ?_ | refine belAlloc ?_ _ | refine belStep ?_ (by assumption)))) (fun hHeld => ?_)
                clear hK K
                try simp only [Act.put, List.setIfInBounds_toArray, List.set_cons_zero, List.set_cons_succ]
                generalize a8 = d3 at *
                have y0 := hBM.cell (j := 0) rfl
                have y1 := hBM.cell (j := 1) rfl
                have y2 := hBM.cell (j := 2) rfl
                have yf := hBM.frozen
                refine wpAnyH_ready (rs := [9]) (by kernel_rfl) (by simp) ?_
                refine AllReadyH.cons (o := ?o1_k71) ?hi_k71 (fun K hK => ?rest_k71) AllReadyH.nil
                case hi_k71 => ((simp only [List.getElem?_toArray, List.getElem?_cons_succ, List.getElem?_cons_zero]); rfl)
                go_simp
                clear y0 y1 y2 yf
                have hb10 := (belSet (belSet (belSet (show Below W4.heap.size W4 d3 from by assumption) ⟨M, 0, none⟩ (.int .i64 k1) hM) ⟨M, 1, none⟩ (.int .i64 g1) hM) ⟨M, 2, none⟩ (.slice b1 G1.length m1) hM)
                have hR10 := (((hBM.set 0 (.int .i64 k1)).set 1 (.int .i64 g1)).set 2 (.slice b1 G1.length m1))
                clear hBM hM
                generalize (((d3.setCell ⟨M, 0, none⟩ (.int .i64 k1)).setCell ⟨M, 1, none⟩ (.int .i64 g1)).setCell ⟨M, 2, none⟩ (.slice b1 G1.length m1)) = W5 at hb10 hR10 ⊢
                refine hK.out _ _ (by exact (show Below W4.heap.size W4 _ by repeat (first | assumption | exact Below.refl _ _ | refine belDrew ?_ | refine belAlloc ?_ _ | refine belStep ?_ (by assumption)))) (fun hHeld => ?_)
                clear hK K
                try simp only [Act.put, List.setIfInBounds_toArray, List.set_cons_zero, List.set_cons_succ]
                refine wpAnyH_take (i := 10) (oi := ?oi_k72) (v := ?v_k72) ?hi_k72 (by kernel_rfl) ?hf_k72 ?hr_k72 ?hQ_k72 (Or.inl ⟨?hw_k72, ?hy_k72⟩) (by assumption) ?rest_k72
                case hi_k72 => ((simp only [List.getElem?_toArray, List.getElem?_cons_succ, List.getElem?_cons_zero]); rfl)
                case hf_k72 => kernel_rfl
                case hr_k72 => kernel_rfl
                case hQ_k72 => exact fun _ _ _ h => h
                case hw_k72 => rfl
                case hy_k72 => ((intro w hSw; (try dsimp only at hSw); go_simp); all_goals (with_reducible rfl))
                try simp only [Act.put, List.setIfInBounds_toArray, List.set_cons_zero, List.set_cons_succ]
                refine wpAnyH_done (by kernel_rfl) ?_ _
                have hj5 : ((j : Int) == 64) = false := by rw [beq_eq_false_iff_ne]; omega
                have hk5 : decide ((1 : Int) ≤ k1) = true := decide_eq_true hk1
                have hk6 : decide (k1 ≤ (4 : Int)) = true := decide_eq_true hk4
                clear hHeld
                have v0 := keep (hR10.cell (j := 0) rfl)
                have v1 := keep (hR10.cell (j := 1) rfl)
                have v2 := keep (hR10.cell (j := 2) rfl)
                have hbel := hb10
                clear hb10 hR10
                replace pp0 := keepOnP pp0 hbel
                replace pp1 := keepOnP pp1 hbel
                replace pp2 := keepOnP pp2 hbel
                replace pp3 := keepOnP pp3 hbel
                replace pp4 := keepOnP pp4 hbel
                replace pp5 := keepOnP pp5 hbel
                replace pp6 := keepOnP pp6 hbel
                replace pp7 := keepOnP pp7 hbel
                replace pp8 := keepOnP pp8 hbel
                replace pp9 := keepOnP pp9 hbel
                replace pp10 := keepOnP pp10 hbel
                have HW5 := Lib.hid (belStep HW4.out hbel)
                clear hbel
                skip
                have hbel : Below W5.heap.size W5 W5 := Below.refl _ _
                go_wp2_with (first | (go_at_call 8; (with_reducible refine (CRP.out _).mono ?_); rintro e w1 ⟨rfl, hb1⟩; replace hbel := belStep hbel hb1; clear hb1))
                go_ret
                exact ⟨rfl, belStep HW5.out hbel⟩
              case rest2_w23 =>
                go_simp
                have hM := Below.size (show Below W4.heap.size W4 d1 by assumption)
                have hBM := Blk.new d1 [.int .i64 0, .int .i64 0, .slice none 0 0] 34
                have hba := belAlloc (show Below W4.heap.size W4 d1 by assumption) (.cells #[.int .i64 0, .int .i64 0, .slice none 0 0] 34)
                generalize d1.alloc (.cells #[.int .i64 0, .int .i64 0, .slice none 0 0] 34) = a8 at hBM hba ⊢
                generalize d1.heap.size = M at hBM hM ⊢
                refine hK.out _ _ (by exact (show Below W4.heap.size W4 _ by repeat (first | assumption | exact Below.refl _ _ | refine belDrew ?_ | refine belAlloc ?_ _ | refine belStep ?_ (by assumption)))) (fun hHeld => ?_)
                clear hK K
                try simp only [Act.put, List.setIfInBounds_toArray, List.set_cons_zero, List.set_cons_succ]
                generalize a8 = d2 at *
                refine wpAnyH_ready (rs := [4]) (by kernel_rfl) (by simp) ?_
                refine AllReadyH.cons (o := ?o1_v21) ?hi_v21 (fun K hK => ?rest_v21) AllReadyH.nil
                case hi_v21 => ((simp only [List.getElem?_toArray, List.getElem?_cons_succ, List.getElem?_cons_zero]); rfl)
                go_simp
                (go_at_call 6; (with_reducible refine (CD.out _ (by assumption)).mono ?_); rintro e q1 ⟨⟨b1, m1, rfl, ho1⟩, hbq2⟩)
                try go_simp
                clear ho1
                replace hBM := hBM.later hbq2
                refine hK.out _ _ (by exact (show Below W4.heap.size W4 _ by repeat (first | assumption | exact Below.refl _ _ | refine belDrew ?_ | refine belAlloc ?_ _ | refine belStep ?_ (by assumption)))) (fun hHeld => ?_)
                clear hK K
                try simp only [Act.put, List.setIfInBounds_toArray, List.set_cons_zero, List.set_cons_succ]
                generalize q1 = d3 at *
                refine wpAnyH_take (i := 5) (oi := ?oi_k63) (v := ?v_k63) ?hi_k63 (by kernel_rfl) ?hf_k63 ?hr_k63 ?hQ_k63 (Or.inl ⟨?hw_k63, ?hy_k63⟩) (by assumption) ?rest_k63
                case hi_k63 => ((simp only [List.getElem?_toArray, List.getElem?_cons_succ, List.getElem?_cons_zero]); rfl)
                case hf_k63 => kernel_rfl
                case hr_k63 => kernel_rfl
                case hQ_k63 => exact fun _ _ _ h => h
                case hw_k63 => rfl
                case hy_k63 => ((intro w hSw; (try dsimp only at hSw); go_simp); all_goals (with_reducible rfl))
                try simp only [Act.put, List.setIfInBounds_toArray, List.set_cons_zero, List.set_cons_succ]
                refine wpAnyH_take (i := 6) (oi := ?oi_k64) (v := ?v_k64) ?hi_k64 (by kernel_rfl) ?hf_k64 ?hr_k64 ?hQ_k64 (Or.inl ⟨?hw_k64, ?hy_k64⟩) (by assumption) ?rest_k64
                case hi_k64 => ((simp only [List.getElem?_toArray, List.getElem?_cons_succ, List.getElem?_cons_zero]); rfl)
                case hf_k64 => kernel_rfl
                case hr_k64 => kernel_rfl
                case hQ_k64 => exact fun _ _ _ h => h
                case hw_k64 => rfl
                case hy_k64 => ((intro w hSw; (try dsimp only at hSw); go_simp); all_goals (with_reducible rfl))
                try simp only [Act.put, List.setIfInBounds_toArray, List.set_cons_zero, List.set_cons_succ]
                refine wpAnyH_take (i := 7) (oi := ?oi_k65) (v := ?v_k65) ?hi_k65 (by kernel_rfl) ?hf_k65 ?hr_k65 ?hQ_k65 (Or.inl ⟨?hw_k65, ?hy_k65⟩) (by assumption) ?rest_k65
                case hi_k65 => ((simp only [List.getElem?_toArray, List.getElem?_cons_succ, List.getElem?_cons_zero]); rfl)
                case hf_k65 => kernel_rfl
                case hr_k65 => kernel_rfl
                case hQ_k65 => exact fun _ _ _ h => h
                case hw_k65 => rfl
                case hy_k65 => ((intro w hSw; (try dsimp only at hSw); go_simp); all_goals (with_reducible rfl))
                try simp only [Act.put, List.setIfInBounds_toArray, List.set_cons_zero, List.set_cons_succ]
                have y0 := hBM.cell (j := 0) rfl
                have y1 := hBM.cell (j := 1) rfl
                have y2 := hBM.cell (j := 2) rfl
                have yf := hBM.frozen
                refine wpAnyH_ready (rs := [9]) (by kernel_rfl) (by simp) ?_
                refine AllReadyH.cons (o := ?o1_k66) ?hi_k66 (fun K hK => ?rest_k66) AllReadyH.nil
                case hi_k66 => ((simp only [List.getElem?_toArray, List.getElem?_cons_succ, List.getElem?_cons_zero]); rfl)
                go_simp
                clear y0 y1 y2 yf
                have hb10 := (belSet (belSet (belSet (show Below W4.heap.size W4 d3 from by assumption) ⟨M, 0, none⟩ (.int .i64 k1) hM) ⟨M, 1, none⟩ (.int .i64 g1) hM) ⟨M, 2, none⟩ (.slice b1 G1.length m1) hM)
                have hR10 := (((hBM.set 0 (.int .i64 k1)).set 1 (.int .i64 g1)).set 2 (.slice b1 G1.length m1))
                clear hBM hM
                generalize (((d3.setCell ⟨M, 0, none⟩ (.int .i64 k1)).setCell ⟨M, 1, none⟩ (.int .i64 g1)).setCell ⟨M, 2, none⟩ (.slice b1 G1.length m1)) = W5 at hb10 hR10 ⊢
                refine hK.out _ _ (by exact (show Below W4.heap.size W4 _ by repeat (first | assumption | exact Below.refl _ _ | refine belDrew ?_ | refine belAlloc ?_ _ | refine belStep ?_ (by assumption)))) (fun hHeld => ?_)
                clear hK K
                try simp only [Act.put, List.setIfInBounds_toArray, List.set_cons_zero, List.set_cons_succ]
                refine wpAnyH_take (i := 10) (oi := ?oi_k67) (v := ?v_k67) ?hi_k67 (by kernel_rfl) ?hf_k67 ?hr_k67 ?hQ_k67 (Or.inl ⟨?hw_k67, ?hy_k67⟩) (by assumption) ?rest_k67
                case hi_k67 => ((simp only [List.getElem?_toArray, List.getElem?_cons_succ, List.getElem?_cons_zero]); rfl)
                case hf_k67 => kernel_rfl
                case hr_k67 => kernel_rfl
                case hQ_k67 => exact fun _ _ _ h => h
                case hw_k67 => rfl
                case hy_k67 => ((intro w hSw; (try dsimp only at hSw); go_simp); all_goals (with_reducible rfl))
                try simp only [Act.put, List.setIfInBounds_toArray, List.set_cons_zero, List.set_cons_succ]
                refine wpAnyH_done (by kernel_rfl) ?_ _
                have hj5 : ((j : Int) == 64) = false := by rw [beq_eq_false_iff_ne]; omega
                have hk5 : decide ((1 : Int) ≤ k1) = true := decide_eq_true hk1
                have hk6 : decide (k1 ≤ (4 : Int)) = true := decide_eq_true hk4
                clear hHeld
                have v0 := keep (hR10.cell (j := 0) rfl)
                have v1 := keep (hR10.cell (j := 1) rfl)
                have v2 := keep (hR10.cell (j := 2) rfl)
                have hbel := hb10
                clear hb10 hR10
                replace pp0 := keepOnP pp0 hbel
                replace pp1 := keepOnP pp1 hbel
                replace pp2 := keepOnP pp2 hbel
                replace pp3 := keepOnP pp3 hbel
                replace pp4 := keepOnP pp4 hbel
                replace pp5 := keepOnP pp5 hbel
                replace pp6 := keepOnP pp6 hbel
                replace pp7 := keepOnP pp7 hbel
                replace pp8 := keepOnP pp8 hbel
                replace pp9 := keepOnP pp9 hbel
                replace pp10 := keepOnP pp10 hbel
                have HW5 := Lib.hid (belStep HW4.out hbel)
                clear hbel
                skip
                have hbel : Below W5.heap.size W5 W5 := Below.refl _ _
                go_wp2_with (first | (go_at_call 8; (with_reducible refine (CRP.out _).mono ?_); rintro e w1 ⟨rfl, hb1⟩; replace hbel := belStep hbel hb1; clear hb1))
                go_ret
                exact ⟨rfl, belStep HW5.out hbel⟩
            case rest2_w24 =>
              go_simp
              have hM := Below.size (show Below W4.heap.size W4 d0 by assumption)
              have hBM := Blk.new d0 [.int .i64 0, .int .i64 0, .slice none 0 0] 34
              have hba := belAlloc (show Below W4.heap.size W4 d0 by assumption) (.cells #[.int .i64 0, .int .i64 0, .slice none 0 0] 34)
              generalize d0.alloc (.cells #[.int .i64 0, .int .i64 0, .slice none 0 0] 34) = a8 at hBM hba ⊢
              generalize d0.heap.size = M at hBM hM ⊢
              refine hK.out _ _ (by exact (show Below W4.heap.size W4 _ by repeat (first | assumption | exact Below.refl _ _ | refine belDrew ?_ | refine belAlloc ?_ _ | refine belStep ?_ (by assumption)))) (fun hHeld => ?_)
              clear hK K
              try simp only [Act.put, List.setIfInBounds_toArray, List.set_cons_zero, List.set_cons_succ]
              generalize a8 = d1 at *
              refine wpAnyH_ready (rs := [0]) (by kernel_rfl) (by simp) ?_
              refine AllReadyH.cons (o := ?o1_v19) ?hi_v19 (fun K hK => ?rest_v19) AllReadyH.nil
              case hi_v19 => ((simp only [List.getElem?_toArray, List.getElem?_cons_succ, List.getElem?_cons_zero]); rfl)
              go_simp
              (go_at_call 7; (with_reducible refine (some23 _).mono ?_); rintro e q0 ⟨rfl, hbq⟩)
              try go_simp
              replace hBM := hBM.later hbq
              refine hK.out _ _ (by exact (show Below W4.heap.size W4 _ by repeat (first | assumption | exact Below.refl _ _ | refine belDrew ?_ | refine belAlloc ?_ _ | refine belStep ?_ (by assumption)))) (fun hHeld => ?_)
              clear hK K
              try simp only [Act.put, List.setIfInBounds_toArray, List.set_cons_zero, List.set_cons_succ]
              generalize q0 = d2 at *
              refine wpAnyH_ready (rs := [4]) (by kernel_rfl) (by simp) ?_
              refine AllReadyH.cons (o := ?o1_v20) ?hi_v20 (fun K hK => ?rest_v20) AllReadyH.nil
              case hi_v20 => ((simp only [List.getElem?_toArray, List.getElem?_cons_succ, List.getElem?_cons_zero]); rfl)
              go_simp
              (go_at_call 6; (with_reducible refine (CD.out _ (by assumption)).mono ?_); rintro e q1 ⟨⟨b1, m1, rfl, ho1⟩, hbq2⟩)
              try go_simp
              clear ho1
              replace hBM := hBM.later hbq2
              refine hK.out _ _ (by exact (show Below W4.heap.size W4 _ by repeat (first | assumption | exact Below.refl _ _ | refine belDrew ?_ | refine belAlloc ?_ _ | refine belStep ?_ (by assumption)))) (fun hHeld => ?_)
              clear hK K
              try simp only [Act.put, List.setIfInBounds_toArray, List.set_cons_zero, List.set_cons_succ]
              generalize q1 = d3 at *
              refine wpAnyH_take (i := 5) (oi := ?oi_k58) (v := ?v_k58) ?hi_k58 (by kernel_rfl) ?hf_k58 ?hr_k58 ?hQ_k58 (Or.inl ⟨?hw_k58, ?hy_k58⟩) (by assumption) ?rest_k58
              case hi_k58 => ((simp only [List.getElem?_toArray, List.getElem?_cons_succ, List.getElem?_cons_zero]); rfl)
              case hf_k58 => kernel_rfl
              case hr_k58 => kernel_rfl
              case hQ_k58 => exact fun _ _ _ h => h
              case hw_k58 => rfl
              case hy_k58 => ((intro w hSw; (try dsimp only at hSw); go_simp); all_goals (with_reducible rfl))
              try simp only [Act.put, List.setIfInBounds_toArray, List.set_cons_zero, List.set_cons_succ]
              refine wpAnyH_take (i := 6) (oi := ?oi_k59) (v := ?v_k59) ?hi_k59 (by kernel_rfl) ?hf_k59 ?hr_k59 ?hQ_k59 (Or.inl ⟨?hw_k59, ?hy_k59⟩) (by assumption) ?rest_k59
              case hi_k59 => ((simp only [List.getElem?_toArray, List.getElem?_cons_succ, List.getElem?_cons_zero]); rfl)
              case hf_k59 => kernel_rfl
              case hr_k59 => kernel_rfl
              case hQ_k59 => exact fun _ _ _ h => h
              case hw_k59 => rfl
              case hy_k59 => ((intro w hSw; (try dsimp only at hSw); go_simp); all_goals (with_reducible rfl))
              try simp only [Act.put, List.setIfInBounds_toArray, List.set_cons_zero, List.set_cons_succ]
              refine wpAnyH_take (i := 7) (oi := ?oi_k60) (v := ?v_k60) ?hi_k60 (by kernel_rfl) ?hf_k60 ?hr_k60 ?hQ_k60 (Or.inl ⟨?hw_k60, ?hy_k60⟩) (by assumption) ?rest_k60
              case hi_k60 => ((simp only [List.getElem?_toArray, List.getElem?_cons_succ, List.getElem?_cons_zero]); rfl)
              case hf_k60 => kernel_rfl
              case hr_k60 => kernel_rfl
              case hQ_k60 => exact fun _ _ _ h => h
              case hw_k60 => rfl
              case hy_k60 => ((intro w hSw; (try dsimp only at hSw); go_simp); all_goals (with_reducible rfl))
              try simp only [Act.put, List.setIfInBounds_toArray, List.set_cons_zero, List.set_cons_succ]
              have y0 := hBM.cell (j := 0) rfl
              have y1 := hBM.cell (j := 1) rfl
              have y2 := hBM.cell (j := 2) rfl
              have yf := hBM.frozen
              refine wpAnyH_ready (rs := [9]) (by kernel_rfl) (by simp) ?_
              refine AllReadyH.cons (o := ?o1_k61) ?hi_k61 (fun K hK => ?rest_k61) AllReadyH.nil
              case hi_k61 => ((simp only [List.getElem?_toArray, List.getElem?_cons_succ, List.getElem?_cons_zero]); rfl)
              go_simp
              clear y0 y1 y2 yf
              have hb10 := (belSet (belSet (belSet (show Below W4.heap.size W4 d3 from by assumption) ⟨M, 0, none⟩ (.int .i64 k1) hM) ⟨M, 1, none⟩ (.int .i64 g1) hM) ⟨M, 2, none⟩ (.slice b1 G1.length m1) hM)
              have hR10 := (((hBM.set 0 (.int .i64 k1)).set 1 (.int .i64 g1)).set 2 (.slice b1 G1.length m1))
              clear hBM hM
              generalize (((d3.setCell ⟨M, 0, none⟩ (.int .i64 k1)).setCell ⟨M, 1, none⟩ (.int .i64 g1)).setCell ⟨M, 2, none⟩ (.slice b1 G1.length m1)) = W5 at hb10 hR10 ⊢
              refine hK.out _ _ (by exact (show Below W4.heap.size W4 _ by repeat (first | assumption | exact Below.refl _ _ | refine belDrew ?_ | refine belAlloc ?_ _ | refine belStep ?_ (by assumption)))) (fun hHeld => ?_)
              clear hK K
              try simp only [Act.put, List.setIfInBounds_toArray, List.set_cons_zero, List.set_cons_succ]
              refine wpAnyH_take (i := 10) (oi := ?oi_k62) (v := ?v_k62) ?hi_k62 (by kernel_rfl) ?hf_k62 ?hr_k62 ?hQ_k62 (Or.inl ⟨?hw_k62, ?hy_k62⟩) (by assumption) ?rest_k62
              case hi_k62 => ((simp only [List.getElem?_toArray, List.getElem?_cons_succ, List.getElem?_cons_zero]); rfl)
              case hf_k62 => kernel_rfl
              case hr_k62 => kernel_rfl
              case hQ_k62 => exact fun _ _ _ h => h
              case hw_k62 => rfl
              case hy_k62 => ((intro w hSw; (try dsimp only at hSw); go_simp); all_goals (with_reducible rfl))
              try simp only [Act.put, List.setIfInBounds_toArray, List.set_cons_zero, List.set_cons_succ]
              refine wpAnyH_done (by kernel_rfl) ?_ _
              have hj5 : ((j : Int) == 64) = false := by rw [beq_eq_false_iff_ne]; omega
              have hk5 : decide ((1 : Int) ≤ k1) = true := decide_eq_true hk1
              have hk6 : decide (k1 ≤ (4 : Int)) = true := decide_eq_true hk4
              clear hHeld
              have v0 := keep (hR10.cell (j := 0) rfl)
              have v1 := keep (hR10.cell (j := 1) rfl)
              have v2 := keep (hR10.cell (j := 2) rfl)
              have hbel := hb10
              clear hb10 hR10
              replace pp0 := keepOnP pp0 hbel
              replace pp1 := keepOnP pp1 hbel
              replace pp2 := keepOnP pp2 hbel
              replace pp3 := keepOnP pp3 hbel
              replace pp4 := keepOnP pp4 hbel
              replace pp5 := keepOnP pp5 hbel
              replace pp6 := keepOnP pp6 hbel
              replace pp7 := keepOnP pp7 hbel
              replace pp8 := keepOnP pp8 hbel
              replace pp9 := keepOnP pp9 hbel
              replace pp10 := keepOnP pp10 hbel
              have HW5 := Lib.hid (belStep HW4.out hbel)
              clear hbel
              skip
              have hbel : Below W5.heap.size W5 W5 := Below.refl _ _
              go_wp2_with (first | (go_at_call 8; (with_reducible refine (CRP.out _).mono ?_); rintro e w1 ⟨rfl, hb1⟩; replace hbel := belStep hbel hb1; clear hb1))
              go_ret
              exact ⟨rfl, belStep HW5.out hbel⟩

set_option maxRecDepth 100000 in
theorem lifted (os : Os) (started : os.Started) (H : Type) (enc : TypeId × Value → H) :
    ReturnsInHanded {} Try.checked os 3 .any (Rows.admitErrorsSpec.pre6 enc Try.prog Try.f3 Rows.admitErrorsRow.domain false) (Rows.admitErrorsSpec.post enc Try.prog Try.f3 false true false false) := by
  refine returnsInHanded_of_change (C := Try.checked) own started (by kernel_rfl) Try.func3
    (ChangeSpec.witness6 (enc := enc) (C := Try.checked) false ⟨#[], #[.agg #[.string ByteArray.empty, .int .i64 0, .bool false, .int .i64 0, .int .i64 0, .int .i64 0, .int .i64 0, .int .i64 0, .int .i64 0, .string ByteArray.empty, .int .i64 0], .agg #[.bool false, .bool false, .bool false], .int .u8 0, .int .u8 0], []⟩ 8 (by kernel_rfl) (by kernel_rfl) (by kernel_rfl) (by kernel_rfl)) ?_
  intro W base args ds gs before hval0 hW hcnd _
  have hval : ∀ (j : Nat) t v, Try.f3.params[j]? = some t → args[j]? = some v → Value.okWide Try.prog W .any base t v := hval0
  have hW' := hW
  obtain ⟨p, q, hA0, hV, rfl, hfz, hnd⟩ := hW
  have hA : DataW.TrodAll enc Try.prog W 0 (fun _ => true) true Try.f3.params.toList args.toList ds p := hA0
  rw [Try.params3] at hA hval
  obtain ⟨v0, vs0, d0, ds0, p0, q0, hargs, rfl, rfl, h0, r0⟩ := trodAll_cons hA
  obtain ⟨v1, vs1, d1, ds1, p1, q1, rfl, rfl, rfl, h1, r1⟩ := trodAll_cons r0
  obtain ⟨v2, vs2, d2, ds2, p2, q2, rfl, rfl, rfl, h2, r2⟩ := trodAll_cons r1
  obtain ⟨v3, vs3, d3, ds3, p3, q3, rfl, rfl, rfl, h3, r3⟩ := trodAll_cons r2
  obtain ⟨rfl, rfl, rfl⟩ := trodAll_nil r3
  obtain rfl : args = #[v0, v1, v2, v3] := by cases args; simp_all
  obtain ⟨rfl, rfl⟩ := trodVars_none hV
  have k0 := h0
  have lt0 : ∀ x ∈ p0, x.block < W.heap.size := by obtain ⟨m, hm⟩ := k0; exact DataW.trod_lt m _ _ _ hm
  have o0 : Value.okWide Try.prog W .any base 24 v0 := hval 0 24 v0 rfl rfl
  obtain ⟨p0, rfl, f0⟩ := open_pod o0 h0
  have k1 := h1
  have lt1 : ∀ x ∈ p1, x.block < W.heap.size := by obtain ⟨m, hm⟩ := k1; exact DataW.trod_lt m _ _ _ hm
  have o1 : Value.okWide Try.prog W .any base 25 v1 := hval 1 25 v1 rfl rfl
  obtain ⟨O1, rfl⟩ := open_on o1 h1
  have k2 := h2
  have lt2 : ∀ x ∈ p2, x.block < W.heap.size := by obtain ⟨m, hm⟩ := k2; exact DataW.trod_lt m _ _ _ hm
  have o2 : Value.okWide Try.prog W .any base 5 v2 := hval 2 5 v2 rfl rfl
  obtain ⟨a2, rfl, rfl, rfl, w2⟩ := open_int Try.underlying5 o2 h2
  have k3 := h3
  have lt3 : ∀ x ∈ p3, x.block < W.heap.size := by obtain ⟨m, hm⟩ := k3; exact DataW.trod_lt m _ _ _ hm
  have o3 : Value.okWide Try.prog W .any base 5 v3 := hval 3 5 v3 rfl rfl
  obtain ⟨a3, rfl, rfl, rfl, w3⟩ := open_int Try.underlying5 o3 h3
  clear hA0 hval0
  refine (walk p0 O1 a2 a3 W f0  (in8_of_wf w2) (in8_of_wf w3)).mono fun e W' ⟨he, bel⟩ => ?_
  subst he
  exact ⟨_, rfl, _, _, _, [], _, [], hW', trodAll_mk1 (shut_bool Try.underlying4 _), (trodAll_cons_mk (Below.trod laidOut (by kernel_rfl) (of_decide_eq_true (by kernel_rfl)) k0 bel lt0) (trodAll_cons_mk (Below.trod laidOut (by kernel_rfl) (of_decide_eq_true (by kernel_rfl)) k1 bel lt1) (trodAll_cons_mk (Below.trod laidOut (by kernel_rfl) (of_decide_eq_true (by kernel_rfl)) k2 bel lt2) (trodAll_cons_mk (Below.trod laidOut (by kernel_rfl) (of_decide_eq_true (by kernel_rfl)) k3 bel lt3) trodAll_mk0)))), rfl, bel.frame _, fun h => by cases h⟩

theorem over : Rows.admitErrorsRow.holds Try.pinned (OpenSpec.ofChange Rows.admitErrorsSpec) :=
  OpenClaim.holds_of_wide 3 Try.f3 rfl rfl rfl rfl rfl rfl rfl ⟨rfl, rfl, rfl, rfl, rfl⟩ rfl rfl rfl rfl rfl (by kernel_rfl) Try.func3 (by kernel_rfl)
    (of_decide_eq_true (by kernel_rfl)) (by unfold Func.isWrapper; first | (rw [if_pos (by decide +kernel)]; kernel_rfl) | (rw [if_neg (by decide +kernel)]; exact ⟨rfl, rfl⟩))
    (fun os started H enc _ => lifted os started H enc)

/-- The statement. -/
theorem proved : Rows.AdmitErrorsSaid := over
#print axioms proved

end Go.Proofs.Ytbifmmdiekodjaa.admitErrors
