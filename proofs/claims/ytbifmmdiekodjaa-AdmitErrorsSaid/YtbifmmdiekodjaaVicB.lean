
/- victim.Fits and its reference: contracts. -/
import Derived.Test.YtbifmmdiekodjaaVicA
namespace Go.Proofs.Ytbifmmdiekodjaa
open Go.RowKit Go.Sort Go.Lib
set_option linter.unusedVariables false
set_option linter.unusedSimpArgs false

/-- What there is of each resource. -/
structure Room where
  a : Int
  b : Int
  c : Int
def fit1 (room s : Int) : Bool := decide (s ≤ room) && !(s == 9223372036854775807)
def fitsB (R : Room) (L : List PodV) : Bool := fit1 R.a (sumF PodV.r0 L) && (fit1 R.b (sumF PodV.r1 L) && fit1 R.c (sumF PodV.r2 L))
theorem fitsB_perm (R : Room) {L M : List PodV} (h : L.Perm M) : fitsB R L = fitsB R M := by
  unfold fitsB; rw [sumF_perm _ h, sumF_perm _ h, sumF_perm _ h]
theorem fit_cases (room s : Int) : (fit1 room s = true ∧ ¬ room < s ∧ (s == 9223372036854775807) = false) ∨ (fit1 room s = false ∧ (room < s ∨ (¬ room < s ∧ (s == 9223372036854775807) = true))) := by
  unfold fit1
  rcases Int.lt_or_le room s with h | h
  · exact .inr ⟨by rw [decide_eq_false (by omega)]; rfl, .inl h⟩
  · cases hs : (s == 9223372036854775807) with
    | true => exact .inr ⟨by simp, .inr ⟨by omega, rfl⟩⟩
    | false => exact .inl ⟨by rw [decide_eq_true h]; rfl, by omega, rfl⟩

theorem fit_cases2 (room s : Int) : (fit1 room s = true ∧ ¬ room < s ∧ (s == 9223372036854775807) = false) ∨ (fit1 room s = false ∧ ((s == 9223372036854775807) = true ∨ ((s == 9223372036854775807) = false ∧ room < s))) := by
  rcases fit_cases room s with h | ⟨h, k⟩
  · exact .inl h
  · refine .inr ⟨h, ?_⟩
    cases hs : (s == 9223372036854775807) with
    | true => exact .inl rfl
    | false => rcases k with k | ⟨_, k⟩
               · exact .inr ⟨rfl, k⟩
               · rw [hs] at k; cases k

set_option maxRecDepth 100000 in
set_option maxHeartbeats 4000000 in
theorem vic_Fits (R : Room) (a : Option Addr) (len cap : Nat) (L : List PodV) (w : World) (hl : L.length = len) (hok : ∀ x ∈ L, x.ok) (hR : Row w a len cap 11 (L.flatMap PodV.cells)) :
    Calls Try.prog 20 #[.agg #[.int .i64 R.a, .int .i64 R.b, .int .i64 R.c], .slice a len cap] w fun e w' => e = .returned (.bool (fitsB R L)) ∧ Below w.heap.size w w' := by
  have hw : Below w.heap.size w w := Below.refl _ _
  have hbel := hw
  have CS := Lib.hid (fun v (hv : Below w.heap.size w v) => pod_Sums a len cap L v hl hok (hR.later hv))
  obtain ⟨s0, e0⟩ : ∃ s, sumF PodV.r0 L = s := ⟨_, rfl⟩
  obtain ⟨s1, e1⟩ : ∃ s, sumF PodV.r1 L = s := ⟨_, rfl⟩
  obtain ⟨s2, e2⟩ : ∃ s, sumF PodV.r2 L = s := ⟨_, rfl⟩
  have HFB := Lib.hid (show fitsB R L = (fit1 R.a s0 && (fit1 R.b s1 && fit1 R.c s2)) by unfold fitsB; rw [e0, e1, e2])
  rw [e0, e1, e2] at CS
  clear e0 e1 e2 hR hok hl
  go_enter Try.func20, Try.ntmps20
  go_upto_region 1 with fail
  have rm0 : (w.alloc (.cells #[.int .i64 R.a, .int .i64 R.b, .int .i64 R.c] 22)).cell? ⟨w.heap.size, 0, none⟩ = some (.int .i64 R.a) := by first | (simp; done) | (rw [World.cell?_alloc_at _ _ _ _ (by simp)]; rfl) | (rw [World.cell?_alloc_past _ _ _ (by simp <;> omega), World.cell?_alloc_at _ _ _ _ (by simp)]; rfl) | (rw [World.cell?_alloc_past _ _ _ (by simp <;> omega), World.cell?_alloc_past _ _ _ (by simp <;> omega), World.cell?_alloc_at _ _ _ _ (by simp)]; rfl)
  have rm1 : (w.alloc (.cells #[.int .i64 R.a, .int .i64 R.b, .int .i64 R.c] 22)).cell? ⟨w.heap.size, 1, none⟩ = some (.int .i64 R.b) := by first | (simp; done) | (rw [World.cell?_alloc_at _ _ _ _ (by simp)]; rfl) | (rw [World.cell?_alloc_past _ _ _ (by simp <;> omega), World.cell?_alloc_at _ _ _ _ (by simp)]; rfl) | (rw [World.cell?_alloc_past _ _ _ (by simp <;> omega), World.cell?_alloc_past _ _ _ (by simp <;> omega), World.cell?_alloc_at _ _ _ _ (by simp)]; rfl)
  have rm2 : (w.alloc (.cells #[.int .i64 R.a, .int .i64 R.b, .int .i64 R.c] 22)).cell? ⟨w.heap.size, 2, none⟩ = some (.int .i64 R.c) := by first | (simp; done) | (rw [World.cell?_alloc_at _ _ _ _ (by simp)]; rfl) | (rw [World.cell?_alloc_past _ _ _ (by simp <;> omega), World.cell?_alloc_at _ _ _ _ (by simp)]; rfl) | (rw [World.cell?_alloc_past _ _ _ (by simp <;> omega), World.cell?_alloc_past _ _ _ (by simp <;> omega), World.cell?_alloc_at _ _ _ _ (by simp)]; rfl)
  have hb2 := (by repeat (first | exact hbel | refine belAlloc ?_ _ | refine belDrew ?_ | refine belSet ?_ _ _ (by simp)) : Below w.heap.size w (w.alloc (.cells #[.int .i64 R.a, .int .i64 R.b, .int .i64 R.c] 22)))
  replace hw := belStep hw hb2
  clear hb2 hbel
  generalize w.alloc (.cells #[.int .i64 R.a, .int .i64 R.b, .int .i64 R.c] 22) = W1 at *
  replace rm0 := keep rm0
  replace rm1 := keep rm1
  replace rm2 := keep rm2
  have hbel : Below W1.heap.size W1 W1 := Below.refl _ _
  skip
  have hix0 : ∀ (u : World), (Instr.index 22 (.agg #[.int .i64 s0, .int .i64 s1, .int .i64 s2]) (.int .i64 0)).run Try.prog u = .ok (.int .i64 s0) u := fun _ => by kernel_rfl
  have hix1 : ∀ (u : World), (Instr.index 22 (.agg #[.int .i64 s0, .int .i64 s1, .int .i64 s2]) (.int .i64 1)).run Try.prog u = .ok (.int .i64 s1) u := fun _ => by kernel_rfl
  have hix2 : ∀ (u : World), (Instr.index 22 (.agg #[.int .i64 s0, .int .i64 s1, .int .i64 s2]) (.int .i64 2)).run Try.prog u = .ok (.int .i64 s2) u := fun _ => by kernel_rfl
  go_wp2_with (first | (go_at_call 24; (with_reducible refine (CS.out _ (belStep hw hbel)).mono ?_); rintro e w1 ⟨rfl, hb1⟩; replace hbel := belStep hbel hb1; clear hb1))
  go_loopw [9] (fun i wr => ∃ (k : Nat) (I : Int), I = k ∧ k ≤ 3 ∧ i = .int .i64 I ∧ Below W1.heap.size W1 wr ∧ Hid (0 < k → fit1 R.a s0 = true) ∧ Hid (1 < k → fit1 R.b s1 = true) ∧ Hid (2 < k → fit1 R.c s2 = true)) (fun i _ => 3 - (intOf i).toNat)
  case atStart => exact ⟨0, 0, rfl, by omega, rfl, hbel, Lib.hid (fun h => by omega), Lib.hid (fun h => by omega), Lib.hid (fun h => by omega)⟩
  case round =>
    obtain ⟨k, I, hI, hk, rfl, hbr, f0, f1, f2⟩ := hrel
    have key : k = 0 ∨ k = 1 ∨ k = 2 ∨ k = 3 := by omega
    clear hk hbel
    have hbel := hbr
    clear hbr
    rcases key with rfl | rfl | rfl | rfl
    · obtain rfl : I = 0 := hI
      rcases fit_cases R.a s0 with ⟨e, m1, m2⟩ | ⟨e, m⟩
      · have HE := Lib.hid e
        clear e
        go_wp2_with (first | (go_at_call 25; (with_reducible refine (sat_Full _ _).mono ?_); rintro e w' ⟨rfl, rfl⟩))
        go_roundw
        case rel => exact ⟨1, 1, rfl, by omega, rfl, hbel, Lib.hid (fun _ => HE.out), Lib.hid (fun h => by omega), Lib.hid (fun h => by omega)⟩
        case measure => simp [intOf]
      · have HRES := Lib.hid (show fitsB R L = false by rw [HFB.out, e]; simp)
        clear e
        rcases m with m1 | ⟨m1, m2⟩
        all_goals
          go_wp2_with (first | (go_at_call 25; (with_reducible refine (sat_Full _ _).mono ?_); rintro e w' ⟨rfl, rfl⟩))
          go_ret
          exact ⟨ret_bool HRES.out.symm, belStep hw hbel⟩
    · obtain rfl : I = 1 := hI
      rcases fit_cases R.b s1 with ⟨e, m1, m2⟩ | ⟨e, m⟩
      · have HE := Lib.hid e
        clear e
        go_wp2_with (first | (go_at_call 25; (with_reducible refine (sat_Full _ _).mono ?_); rintro e w' ⟨rfl, rfl⟩))
        go_roundw
        case rel => exact ⟨2, 2, rfl, by omega, rfl, hbel, Lib.hid (fun _ => f0.out (by omega)), Lib.hid (fun _ => HE.out), Lib.hid (fun h => by omega)⟩
        case measure => simp [intOf]
      · have HRES := Lib.hid (show fitsB R L = false by rw [HFB.out, f0.out (by omega), e]; simp)
        clear e
        rcases m with m1 | ⟨m1, m2⟩
        all_goals
          go_wp2_with (first | (go_at_call 25; (with_reducible refine (sat_Full _ _).mono ?_); rintro e w' ⟨rfl, rfl⟩))
          go_ret
          exact ⟨ret_bool HRES.out.symm, belStep hw hbel⟩
    · obtain rfl : I = 2 := hI
      rcases fit_cases R.c s2 with ⟨e, m1, m2⟩ | ⟨e, m⟩
      · have HE := Lib.hid e
        clear e
        go_wp2_with (first | (go_at_call 25; (with_reducible refine (sat_Full _ _).mono ?_); rintro e w' ⟨rfl, rfl⟩))
        go_roundw
        case rel => exact ⟨3, 3, rfl, by omega, rfl, hbel, Lib.hid (fun _ => f0.out (by omega)), Lib.hid (fun _ => f1.out (by omega)), Lib.hid (fun _ => HE.out)⟩
        case measure => simp [intOf]
      · have HRES := Lib.hid (show fitsB R L = false by rw [HFB.out, f0.out (by omega), f1.out (by omega), e]; simp)
        clear e
        rcases m with m1 | ⟨m1, m2⟩
        all_goals
          go_wp2_with (first | (go_at_call 25; (with_reducible refine (sat_Full _ _).mono ?_); rintro e w' ⟨rfl, rfl⟩))
          go_ret
          exact ⟨ret_bool HRES.out.symm, belStep hw hbel⟩
    · obtain rfl : I = 3 := hI
      have HRES := Lib.hid (show fitsB R L = true by rw [HFB.out, f0.out (by omega), f1.out (by omega), f2.out (by omega)]; rfl)
      go_wp2
      go_ret
      exact ⟨ret_bool HRES.out.symm, belStep hw hbel⟩
end Go.Proofs.Ytbifmmdiekodjaa
