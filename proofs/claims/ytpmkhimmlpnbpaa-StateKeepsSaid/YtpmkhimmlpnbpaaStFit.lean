
/- victim.Fits, bilgeref23.Within: contracts (taken out of stages 21 and 23). -/
import Derived.Test.YtpmkhimmlpnbpaaStMath
import Derived.Test.YtpmkhimmlpnbpaaPodSums
import Derived.Test.YtpmkhimmlpnbpaaTail
import Derived.Test.YtpmkhimmlpnbpaaKrip
import Derived.Test.YtpmkhimmlpnbpaaGwM
namespace Go.Proofs.Ytpmkhimmlpnbpaa
open Go.RowKit Go.Sort Go.Lib
set_option linter.unusedVariables false
set_option linter.unusedSimpArgs false
theorem info_pod : (Try.prog.info? 44).map (fun i => (i.zero, i.size, i.bytes)) = some (some (.agg #[.string ⟨#[]⟩, .int .i64 0, .bool false, .int .i64 0, .int .i64 0, .int .i64 0, .int .i64 0, .int .i64 0, .int .i64 0, .string ⟨#[]⟩, .int .i64 0]), 11, 104) := by kernel_rfl
theorem pod_one (p : PodV) : ∀ u ∈ p.cells, u.oneCell' = true := by
  intro u hu; unfold PodV.cells at hu; simp at hu
  rcases hu with rfl | rfl | rfl | rfl | rfl | rfl | rfl | rfl | rfl | rfl | rfl <;> rfl
theorem pods_one (L : List PodV) : ∀ u ∈ L.flatMap PodV.cells, u.oneCell' = true := by
  intro u hu
  obtain ⟨p, _, h⟩ := List.mem_flatMap.1 hu
  exact pod_one p u h
theorem own_one (w : World) (p : PodV) : OwnR (w.alloc (.cells #[.string p.id, .int .i64 p.prio, .bool p.crit, .int .i64 p.r0, .int .i64 p.r1, .int .i64 p.r2, .int .i64 p.l0, .int .i64 p.l1, .int .i64 p.l2, .string p.img, .int .i64 p.size] 44)) w.heap.size 44 11 (.slice (some ⟨w.heap.size, 0, none⟩) 1 1) 1 p.cells :=
  ⟨rfl, .inr ⟨w.heap.size, 1, p.cells.toArray, rfl, Nat.le_refl _, heap_alloc_new w _, Nat.le_refl _, by unfold maxLen; omega, rfl, rfl⟩⟩
/-- What there is of each resource. -/
structure Room where
  a : Int
  b : Int
  c : Int
def fit1 (room s : Int) : Bool := decide (s ≤ room) && !(s == 9223372036854775807)
def fitsB (R : Room) (L : List PodV) : Bool := fit1 R.a (sumF PodV.r0 L) && (fit1 R.b (sumF PodV.r1 L) && fit1 R.c (sumF PodV.r2 L))
theorem fit_cases (room s : Int) : (fit1 room s = true ∧ ¬ room < s ∧ (s == 9223372036854775807) = false) ∨ (fit1 room s = false ∧ (room < s ∨ (¬ room < s ∧ (s == 9223372036854775807) = true))) := by
  unfold fit1
  rcases Int.lt_or_le room s with h | h
  · exact .inr ⟨by rw [decide_eq_false (by omega)]; rfl, .inl h⟩
  · cases hs : (s == 9223372036854775807) with
    | true => exact .inr ⟨by simp, .inr ⟨by omega, rfl⟩⟩
    | false => exact .inl ⟨by rw [decide_eq_true h]; rfl, by omega, rfl⟩
theorem fit_cases2 (room s : Int) : (fit1 room s = true ∧ ¬ room < s ∧ (s == 9223372036854775807) = false) ∨ (fit1 room s = false ∧ ((s == 9223372036854775807) = true ∨ ((s == 9223372036854775807) = false ∧ room < s))) := by
  rcases fit_cases room s with h | ⟨h, k⟩
  · exact .inl h
  · refine .inr ⟨h, ?_⟩
    cases hs : (s == 9223372036854775807) with
    | true => exact .inl rfl
    | false => rcases k with k | ⟨_, k⟩
               · exact .inr ⟨rfl, k⟩
               · rw [hs] at k; cases k
set_option maxRecDepth 100000 in
set_option maxHeartbeats 4000000 in
theorem vic_Fits (R : Room) (a : Option Addr) (len cap : Nat) (L : List PodV) (w : World) (hl : L.length = len) (hok : ∀ x ∈ L, x.ok) (hR : Row w a len cap 11 (L.flatMap PodV.cells)) :
    Calls Try.prog 48 #[.agg #[.int .i64 R.a, .int .i64 R.b, .int .i64 R.c], .slice a len cap] w fun e w' => e = .returned (.bool (fitsB R L)) ∧ Below w.heap.size w w' := by
  have hw : Below w.heap.size w w := Below.refl _ _
  have hbel := hw
  have CS := Lib.hid (fun v (hv : Below w.heap.size w v) => pod_Sums a len cap L v hl hok (hR.later hv))
  obtain ⟨s0, e0⟩ : ∃ s, sumF PodV.r0 L = s := ⟨_, rfl⟩
  obtain ⟨s1, e1⟩ : ∃ s, sumF PodV.r1 L = s := ⟨_, rfl⟩
  obtain ⟨s2, e2⟩ : ∃ s, sumF PodV.r2 L = s := ⟨_, rfl⟩
  have HFB := Lib.hid (show fitsB R L = (fit1 R.a s0 && (fit1 R.b s1 && fit1 R.c s2)) by unfold fitsB; rw [e0, e1, e2])
  rw [e0, e1, e2] at CS
  clear e0 e1 e2 hR hok hl
  go_enter Try.func48, Try.ntmps48
  go_upto_region 1 with fail
  have rm0 : (w.alloc (.cells #[.int .i64 R.a, .int .i64 R.b, .int .i64 R.c] 42)).cell? ⟨w.heap.size, 0, none⟩ = some (.int .i64 R.a) := by first | (simp; done) | (rw [World.cell?_alloc_at _ _ _ _ (by simp)]; rfl) | (rw [World.cell?_alloc_past _ _ _ (by simp <;> omega), World.cell?_alloc_at _ _ _ _ (by simp)]; rfl) | (rw [World.cell?_alloc_past _ _ _ (by simp <;> omega), World.cell?_alloc_past _ _ _ (by simp <;> omega), World.cell?_alloc_at _ _ _ _ (by simp)]; rfl)
  have rm1 : (w.alloc (.cells #[.int .i64 R.a, .int .i64 R.b, .int .i64 R.c] 42)).cell? ⟨w.heap.size, 1, none⟩ = some (.int .i64 R.b) := by first | (simp; done) | (rw [World.cell?_alloc_at _ _ _ _ (by simp)]; rfl) | (rw [World.cell?_alloc_past _ _ _ (by simp <;> omega), World.cell?_alloc_at _ _ _ _ (by simp)]; rfl) | (rw [World.cell?_alloc_past _ _ _ (by simp <;> omega), World.cell?_alloc_past _ _ _ (by simp <;> omega), World.cell?_alloc_at _ _ _ _ (by simp)]; rfl)
  have rm2 : (w.alloc (.cells #[.int .i64 R.a, .int .i64 R.b, .int .i64 R.c] 42)).cell? ⟨w.heap.size, 2, none⟩ = some (.int .i64 R.c) := by first | (simp; done) | (rw [World.cell?_alloc_at _ _ _ _ (by simp)]; rfl) | (rw [World.cell?_alloc_past _ _ _ (by simp <;> omega), World.cell?_alloc_at _ _ _ _ (by simp)]; rfl) | (rw [World.cell?_alloc_past _ _ _ (by simp <;> omega), World.cell?_alloc_past _ _ _ (by simp <;> omega), World.cell?_alloc_at _ _ _ _ (by simp)]; rfl)
  have hb2 := (by repeat (first | exact hbel | refine belAlloc ?_ _ | refine belDrew ?_ | refine belSet ?_ _ _ (by simp)) : Below w.heap.size w (w.alloc (.cells #[.int .i64 R.a, .int .i64 R.b, .int .i64 R.c] 42)))
  replace hw := belStep hw hb2
  clear hb2 hbel
  generalize w.alloc (.cells #[.int .i64 R.a, .int .i64 R.b, .int .i64 R.c] 42) = W1 at *
  replace rm0 := keep rm0
  replace rm1 := keep rm1
  replace rm2 := keep rm2
  have hbel : Below W1.heap.size W1 W1 := Below.refl _ _
  skip
  have hix0 : ∀ (u : World), (Instr.index 42 (.agg #[.int .i64 s0, .int .i64 s1, .int .i64 s2]) (.int .i64 0)).run Try.prog u = .ok (.int .i64 s0) u := fun _ => by kernel_rfl
  have hix1 : ∀ (u : World), (Instr.index 42 (.agg #[.int .i64 s0, .int .i64 s1, .int .i64 s2]) (.int .i64 1)).run Try.prog u = .ok (.int .i64 s1) u := fun _ => by kernel_rfl
  have hix2 : ∀ (u : World), (Instr.index 42 (.agg #[.int .i64 s0, .int .i64 s1, .int .i64 s2]) (.int .i64 2)).run Try.prog u = .ok (.int .i64 s2) u := fun _ => by kernel_rfl
  go_wp2_with (first | (go_at_call 57; (with_reducible refine (CS.out _ (belStep hw hbel)).mono ?_); rintro e w1 ⟨rfl, hb1⟩; replace hbel := belStep hbel hb1; clear hb1))
  go_loopw [9] (fun i wr => ∃ (k : Nat) (I : Int), I = k ∧ k ≤ 3 ∧ i = .int .i64 I ∧ Below W1.heap.size W1 wr ∧ Hid (0 < k → fit1 R.a s0 = true) ∧ Hid (1 < k → fit1 R.b s1 = true) ∧ Hid (2 < k → fit1 R.c s2 = true)) (fun i _ => 3 - (intOf i).toNat)
  case atStart => exact ⟨0, 0, rfl, by omega, rfl, hbel, Lib.hid (fun h => by omega), Lib.hid (fun h => by omega), Lib.hid (fun h => by omega)⟩
  case round =>
    obtain ⟨k, I, hI, hk, rfl, hbr, f0, f1, f2⟩ := hrel
    have key : k = 0 ∨ k = 1 ∨ k = 2 ∨ k = 3 := by omega
    clear hk hbel
    have hbel := hbr
    clear hbr
    rcases key with rfl | rfl | rfl | rfl
    · obtain rfl : I = 0 := hI
      rcases fit_cases R.a s0 with ⟨e, m1, m2⟩ | ⟨e, m⟩
      · have HE := Lib.hid e
        clear e
        go_wp2_with (first | (go_at_call 58; (with_reducible refine (sat_Full _ _).mono ?_); rintro e w' ⟨rfl, rfl⟩))
        go_roundw
        case rel => exact ⟨1, 1, rfl, by omega, rfl, hbel, Lib.hid (fun _ => HE.out), Lib.hid (fun h => by omega), Lib.hid (fun h => by omega)⟩
        case measure => simp [intOf]
      · have HRES := Lib.hid (show fitsB R L = false by rw [HFB.out, e]; simp)
        clear e
        rcases m with m1 | ⟨m1, m2⟩
        all_goals
          go_wp2_with (first | (go_at_call 58; (with_reducible refine (sat_Full _ _).mono ?_); rintro e w' ⟨rfl, rfl⟩))
          go_ret
          exact ⟨ret_bool HRES.out.symm, belStep hw hbel⟩
    · obtain rfl : I = 1 := hI
      rcases fit_cases R.b s1 with ⟨e, m1, m2⟩ | ⟨e, m⟩
      · have HE := Lib.hid e
        clear e
        go_wp2_with (first | (go_at_call 58; (with_reducible refine (sat_Full _ _).mono ?_); rintro e w' ⟨rfl, rfl⟩))
        go_roundw
        case rel => exact ⟨2, 2, rfl, by omega, rfl, hbel, Lib.hid (fun _ => f0.out (by omega)), Lib.hid (fun _ => HE.out), Lib.hid (fun h => by omega)⟩
        case measure => simp [intOf]
      · have HRES := Lib.hid (show fitsB R L = false by rw [HFB.out, f0.out (by omega), e]; simp)
        clear e
        rcases m with m1 | ⟨m1, m2⟩
        all_goals
          go_wp2_with (first | (go_at_call 58; (with_reducible refine (sat_Full _ _).mono ?_); rintro e w' ⟨rfl, rfl⟩))
          go_ret
          exact ⟨ret_bool HRES.out.symm, belStep hw hbel⟩
    · obtain rfl : I = 2 := hI
      rcases fit_cases R.c s2 with ⟨e, m1, m2⟩ | ⟨e, m⟩
      · have HE := Lib.hid e
        clear e
        go_wp2_with (first | (go_at_call 58; (with_reducible refine (sat_Full _ _).mono ?_); rintro e w' ⟨rfl, rfl⟩))
        go_roundw
        case rel => exact ⟨3, 3, rfl, by omega, rfl, hbel, Lib.hid (fun _ => f0.out (by omega)), Lib.hid (fun _ => f1.out (by omega)), Lib.hid (fun _ => HE.out)⟩
        case measure => simp [intOf]
      · have HRES := Lib.hid (show fitsB R L = false by rw [HFB.out, f0.out (by omega), f1.out (by omega), e]; simp)
        clear e
        rcases m with m1 | ⟨m1, m2⟩
        all_goals
          go_wp2_with (first | (go_at_call 58; (with_reducible refine (sat_Full _ _).mono ?_); rintro e w' ⟨rfl, rfl⟩))
          go_ret
          exact ⟨ret_bool HRES.out.symm, belStep hw hbel⟩
    · obtain rfl : I = 3 := hI
      have HRES := Lib.hid (show fitsB R L = true by rw [HFB.out, f0.out (by omega), f1.out (by omega), f2.out (by omega)]; rfl)
      go_wp2
      go_ret
      exact ⟨ret_bool HRES.out.symm, belStep hw hbel⟩
def sumX (f : PodV → Int) (L : List PodV) : Int := L.foldl (fun s p => s + f p) 0
theorem sumX_next (f : PodV → Int) {L : List PodV} {k : Nat} {p : PodV} (h : L[k]? = some p) : sumX f (L.take (k + 1)) = sumX f (L.take k) + f p := by
  unfold sumX
  rw [List.take_add_one, h, List.foldl_append]
  rfl
theorem sum_both (f : PodV → Int) : ∀ (L : List PodV) (s S : Int), s = min S 9223372036854775807 → 0 ≤ S → (∀ x ∈ L, 0 ≤ f x) →
    L.foldl (fun s p => satAdd s (f p)) s = min (L.foldl (fun s p => s + f p) S) 9223372036854775807 ∧ 0 ≤ L.foldl (fun s p => s + f p) S
  | [], s, S, h, h0, _ => ⟨h, h0⟩
  | x :: L, s, S, h, h0, hp => by
    have hx := hp x (by simp)
    rw [List.foldl_cons, List.foldl_cons]
    exact sum_both f L _ _ (by unfold satAdd; omega) (by omega) (fun y hy => hp y (by simp [hy]))
theorem sumF_X (f : PodV → Int) (L : List PodV) (h : ∀ x ∈ L, 0 ≤ f x) : sumF f L = min (sumX f L) 9223372036854775807 ∧ 0 ≤ sumX f L := sum_both f L 0 0 (by omega) (by omega) h
def exG (room S : Int) : Bool := decide (S < 9223372036854775807) && decide (S ≤ room)
theorem fit1_X (room : Int) (f : PodV → Int) (L : List PodV) (h : ∀ x ∈ L, 0 ≤ f x) : fit1 room (sumF f L) = exG room (sumX f L) := by
  have hx := (sumF_X f L h).1
  rw [Bool.eq_iff_iff]
  unfold fit1 exG
  simp only [Bool.and_eq_true, decide_eq_true_eq, Bool.not_eq_true', beq_eq_false_iff_ne, ne_eq]
  omega
def exB (R : Room) (L : List PodV) : Nat → Bool
  | 0 => true
  | 1 => exG R.a (sumX PodV.r0 L)
  | 2 => exG R.a (sumX PodV.r0 L) && exG R.b (sumX PodV.r1 L)
  | _ => exG R.a (sumX PodV.r0 L) && exG R.b (sumX PodV.r1 L) && exG R.c (sumX PodV.r2 L)
theorem fits_X (R : Room) (L : List PodV) (h : ∀ x ∈ L, rightB x = true) : fitsB R L = exB R L 3 := by
  show (fit1 R.a (sumF PodV.r0 L) && (fit1 R.b (sumF PodV.r1 L) && fit1 R.c (sumF PodV.r2 L))) = (exG R.a (sumX PodV.r0 L) && exG R.b (sumX PodV.r1 L) && exG R.c (sumX PodV.r2 L))
  rw [fit1_X R.a PodV.r0 L (fun x hx => (PodV.right_pos x (h x hx)).1), fit1_X R.b PodV.r1 L (fun x hx => (PodV.right_pos x (h x hx)).2.1), fit1_X R.c PodV.r2 L (fun x hx => (PodV.right_pos x (h x hx)).2.2), Bool.and_assoc]
theorem ex_cases {room S : Int} (hS : 0 ≤ S) : (exG room S = true ∧ ¬ 0 < S / 18446744073709551616 ∧ ¬ 9223372036854775807 ≤ S % 18446744073709551616 ∧ ¬ room < S % 18446744073709551616) ∨
    (exG room S = false ∧ (0 < S / 18446744073709551616 ∨ (¬ 0 < S / 18446744073709551616 ∧ 9223372036854775807 ≤ S % 18446744073709551616) ∨ (¬ 0 < S / 18446744073709551616 ∧ ¬ 9223372036854775807 ≤ S % 18446744073709551616 ∧ room < S % 18446744073709551616))) := by
  unfold exG
  by_cases h : S < 9223372036854775807 ∧ S ≤ room
  · refine .inl ⟨by simp [h.1, h.2], ?_⟩
    omega
  · refine .inr ⟨?_, ?_⟩
    · rcases Bool.eq_false_or_eq_true (decide (S < 9223372036854775807) && decide (S ≤ room)) with k | k
      · simp only [Bool.and_eq_true, decide_eq_true_eq] at k; exact absurd k h
      · exact k
    · omega
set_option maxRecDepth 100000 in
set_option maxHeartbeats 8000000 in
theorem ref_Exact0 (a : Option Addr) (len cap : Nat) (L : List PodV) (w : World) (hl : L.length = len) (hpos : ∀ x ∈ L, 0 ≤ x.r0 ∧ x.r0 ≤ 9223372036854775807) (hR : Row w a len cap 11 (L.flatMap PodV.cells)) :
    Calls Try.prog 49 #[.slice a len cap, .int .i64 0] w fun e w' => e = .returned (.tuple #[.int .u64 (sumX PodV.r0 L / 18446744073709551616), .int .u64 (sumX PodV.r0 L % 18446744073709551616)]) ∧ w = w' := by
  have hbd : len ≤ cap ∧ cap ≤ 9223372036854775807 := by obtain ⟨_, h1, h2, _⟩ := hR; unfold maxLen at h2; exact ⟨h1, h2⟩
  obtain ⟨hbd1, hbd2⟩ := hbd
  have HR := Lib.hid hR
  have HPOS := Lib.hid hpos
  clear hR hpos
  subst hl
  go_enter Try.func49, Try.ntmps49
  go_wp2
  go_loopw [6, 7, 8] (fun h n i wr => ∃ (k : Nat) (H N : Int), k ≤ L.length ∧ i = .int .i64 k ∧ h = .int .u64 H ∧ n = .int .u64 N ∧ H * 18446744073709551616 + N = sumX PodV.r0 (L.take k) ∧ 0 ≤ N ∧ N < 18446744073709551616 ∧ 0 ≤ H ∧ H ≤ k ∧ w = wr) (fun _ _ i _ => L.length - (intOf i).toNat)
  case atStart => exact ⟨0, 0, 0, Nat.zero_le _, rfl, rfl, rfl, rfl, by omega, by omega, by omega, by omega, (by trivial)⟩
  case round =>
    obtain ⟨k, H, N, hk, rfl, rfl, rfl, hs, hn0, hn1, hh0, hh1, rfl⟩ := hrel
    by_cases hlt : k < L.length
    · obtain ⟨p, hx⟩ : ∃ x, L[k]? = some x := ⟨L[k], List.getElem?_eq_getElem hlt⟩
      obtain ⟨b, off, rfl, _, hc⟩ := HR.out.elem PodV.cells_len (by omega) hx
      obtain ⟨hq0, hq1⟩ := HPOS.out p (List.mem_of_getElem? hx)
      have hnx := sumX_next PodV.r0 hx
      rw [← hs] at hnx
      have HN := Lib.hid hnx
      have y0 := hc (3 + 0) _ rfl
      have hd : decide ((k : Int) < (L.length : Int)) = true := decide_eq_true (by omega)
      generalize p.r0 = X at *
      have u1 : IntKind.u64.wrap X = X := IntWalk.u64_in _ (by omega)
      clear hs hnx hx hc
      by_cases hov : N + X < 18446744073709551616
      · have u2 : IntKind.u64.wrap (N + X) = N + X := IntWalk.u64_in _ (by omega)
        have c1 : ¬ N + X < X := by omega
        go_wp2
        go_roundw
        case rel => exact ⟨k + 1, H, N + X, by omega, by push_cast; rfl, rfl, rfl, by rw [HN.out]; omega, by omega, by omega, by omega, by push_cast; omega, (by trivial)⟩
        case measure => simp [intOf] <;> omega
      · have u2 : IntKind.u64.wrap (N + X) = N + X - 18446744073709551616 := by rw [IntKind.wrap_u64]; omega
        have c1 : N + X - 18446744073709551616 < X := by omega
        have u3 : IntKind.u64.wrap (H + 1) = H + 1 := IntWalk.u64_in _ (by omega)
        go_wp2
        go_roundw
        case rel => exact ⟨k + 1, H + 1, N + X - 18446744073709551616, by omega, by push_cast; rfl, rfl, rfl, by rw [HN.out]; omega, by omega, by omega, by omega, by push_cast; omega, (by trivial)⟩
        case measure => simp [intOf] <;> omega
    · obtain rfl : k = L.length := by omega
      rw [List.take_length] at hs
      have e1 : sumX PodV.r0 L / 18446744073709551616 = H := by omega
      have e2 : sumX PodV.r0 L % 18446744073709551616 = N := by omega
      have E1 := Lib.hid e1
      have E2 := Lib.hid e2
      clear e1 e2 hs
      go_wp2
      go_ret2
      exact ⟨by rw [E1.out, E2.out]; rfl, (by trivial)⟩
set_option maxRecDepth 100000 in
set_option maxHeartbeats 8000000 in
theorem ref_Exact1 (a : Option Addr) (len cap : Nat) (L : List PodV) (w : World) (hl : L.length = len) (hpos : ∀ x ∈ L, 0 ≤ x.r1 ∧ x.r1 ≤ 9223372036854775807) (hR : Row w a len cap 11 (L.flatMap PodV.cells)) :
    Calls Try.prog 49 #[.slice a len cap, .int .i64 1] w fun e w' => e = .returned (.tuple #[.int .u64 (sumX PodV.r1 L / 18446744073709551616), .int .u64 (sumX PodV.r1 L % 18446744073709551616)]) ∧ w = w' := by
  have hbd : len ≤ cap ∧ cap ≤ 9223372036854775807 := by obtain ⟨_, h1, h2, _⟩ := hR; unfold maxLen at h2; exact ⟨h1, h2⟩
  obtain ⟨hbd1, hbd2⟩ := hbd
  have HR := Lib.hid hR
  have HPOS := Lib.hid hpos
  clear hR hpos
  subst hl
  go_enter Try.func49, Try.ntmps49
  go_wp2
  go_loopw [6, 7, 8] (fun h n i wr => ∃ (k : Nat) (H N : Int), k ≤ L.length ∧ i = .int .i64 k ∧ h = .int .u64 H ∧ n = .int .u64 N ∧ H * 18446744073709551616 + N = sumX PodV.r1 (L.take k) ∧ 0 ≤ N ∧ N < 18446744073709551616 ∧ 0 ≤ H ∧ H ≤ k ∧ w = wr) (fun _ _ i _ => L.length - (intOf i).toNat)
  case atStart => exact ⟨0, 0, 0, Nat.zero_le _, rfl, rfl, rfl, rfl, by omega, by omega, by omega, by omega, (by trivial)⟩
  case round =>
    obtain ⟨k, H, N, hk, rfl, rfl, rfl, hs, hn0, hn1, hh0, hh1, rfl⟩ := hrel
    by_cases hlt : k < L.length
    · obtain ⟨p, hx⟩ : ∃ x, L[k]? = some x := ⟨L[k], List.getElem?_eq_getElem hlt⟩
      obtain ⟨b, off, rfl, _, hc⟩ := HR.out.elem PodV.cells_len (by omega) hx
      obtain ⟨hq0, hq1⟩ := HPOS.out p (List.mem_of_getElem? hx)
      have hnx := sumX_next PodV.r1 hx
      rw [← hs] at hnx
      have HN := Lib.hid hnx
      have y0 := hc (3 + 1) _ rfl
      have hd : decide ((k : Int) < (L.length : Int)) = true := decide_eq_true (by omega)
      generalize p.r1 = X at *
      have u1 : IntKind.u64.wrap X = X := IntWalk.u64_in _ (by omega)
      clear hs hnx hx hc
      by_cases hov : N + X < 18446744073709551616
      · have u2 : IntKind.u64.wrap (N + X) = N + X := IntWalk.u64_in _ (by omega)
        have c1 : ¬ N + X < X := by omega
        go_wp2
        go_roundw
        case rel => exact ⟨k + 1, H, N + X, by omega, by push_cast; rfl, rfl, rfl, by rw [HN.out]; omega, by omega, by omega, by omega, by push_cast; omega, (by trivial)⟩
        case measure => simp [intOf] <;> omega
      · have u2 : IntKind.u64.wrap (N + X) = N + X - 18446744073709551616 := by rw [IntKind.wrap_u64]; omega
        have c1 : N + X - 18446744073709551616 < X := by omega
        have u3 : IntKind.u64.wrap (H + 1) = H + 1 := IntWalk.u64_in _ (by omega)
        go_wp2
        go_roundw
        case rel => exact ⟨k + 1, H + 1, N + X - 18446744073709551616, by omega, by push_cast; rfl, rfl, rfl, by rw [HN.out]; omega, by omega, by omega, by omega, by push_cast; omega, (by trivial)⟩
        case measure => simp [intOf] <;> omega
    · obtain rfl : k = L.length := by omega
      rw [List.take_length] at hs
      have e1 : sumX PodV.r1 L / 18446744073709551616 = H := by omega
      have e2 : sumX PodV.r1 L % 18446744073709551616 = N := by omega
      have E1 := Lib.hid e1
      have E2 := Lib.hid e2
      clear e1 e2 hs
      go_wp2
      go_ret2
      exact ⟨by rw [E1.out, E2.out]; rfl, (by trivial)⟩
set_option maxRecDepth 100000 in
set_option maxHeartbeats 8000000 in
theorem ref_Exact2 (a : Option Addr) (len cap : Nat) (L : List PodV) (w : World) (hl : L.length = len) (hpos : ∀ x ∈ L, 0 ≤ x.r2 ∧ x.r2 ≤ 9223372036854775807) (hR : Row w a len cap 11 (L.flatMap PodV.cells)) :
    Calls Try.prog 49 #[.slice a len cap, .int .i64 2] w fun e w' => e = .returned (.tuple #[.int .u64 (sumX PodV.r2 L / 18446744073709551616), .int .u64 (sumX PodV.r2 L % 18446744073709551616)]) ∧ w = w' := by
  have hbd : len ≤ cap ∧ cap ≤ 9223372036854775807 := by obtain ⟨_, h1, h2, _⟩ := hR; unfold maxLen at h2; exact ⟨h1, h2⟩
  obtain ⟨hbd1, hbd2⟩ := hbd
  have HR := Lib.hid hR
  have HPOS := Lib.hid hpos
  clear hR hpos
  subst hl
  go_enter Try.func49, Try.ntmps49
  go_wp2
  go_loopw [6, 7, 8] (fun h n i wr => ∃ (k : Nat) (H N : Int), k ≤ L.length ∧ i = .int .i64 k ∧ h = .int .u64 H ∧ n = .int .u64 N ∧ H * 18446744073709551616 + N = sumX PodV.r2 (L.take k) ∧ 0 ≤ N ∧ N < 18446744073709551616 ∧ 0 ≤ H ∧ H ≤ k ∧ w = wr) (fun _ _ i _ => L.length - (intOf i).toNat)
  case atStart => exact ⟨0, 0, 0, Nat.zero_le _, rfl, rfl, rfl, rfl, by omega, by omega, by omega, by omega, (by trivial)⟩
  case round =>
    obtain ⟨k, H, N, hk, rfl, rfl, rfl, hs, hn0, hn1, hh0, hh1, rfl⟩ := hrel
    by_cases hlt : k < L.length
    · obtain ⟨p, hx⟩ : ∃ x, L[k]? = some x := ⟨L[k], List.getElem?_eq_getElem hlt⟩
      obtain ⟨b, off, rfl, _, hc⟩ := HR.out.elem PodV.cells_len (by omega) hx
      obtain ⟨hq0, hq1⟩ := HPOS.out p (List.mem_of_getElem? hx)
      have hnx := sumX_next PodV.r2 hx
      rw [← hs] at hnx
      have HN := Lib.hid hnx
      have y0 := hc (3 + 2) _ rfl
      have hd : decide ((k : Int) < (L.length : Int)) = true := decide_eq_true (by omega)
      generalize p.r2 = X at *
      have u1 : IntKind.u64.wrap X = X := IntWalk.u64_in _ (by omega)
      clear hs hnx hx hc
      by_cases hov : N + X < 18446744073709551616
      · have u2 : IntKind.u64.wrap (N + X) = N + X := IntWalk.u64_in _ (by omega)
        have c1 : ¬ N + X < X := by omega
        go_wp2
        go_roundw
        case rel => exact ⟨k + 1, H, N + X, by omega, by push_cast; rfl, rfl, rfl, by rw [HN.out]; omega, by omega, by omega, by omega, by push_cast; omega, (by trivial)⟩
        case measure => simp [intOf] <;> omega
      · have u2 : IntKind.u64.wrap (N + X) = N + X - 18446744073709551616 := by rw [IntKind.wrap_u64]; omega
        have c1 : N + X - 18446744073709551616 < X := by omega
        have u3 : IntKind.u64.wrap (H + 1) = H + 1 := IntWalk.u64_in _ (by omega)
        go_wp2
        go_roundw
        case rel => exact ⟨k + 1, H + 1, N + X - 18446744073709551616, by omega, by push_cast; rfl, rfl, rfl, by rw [HN.out]; omega, by omega, by omega, by omega, by push_cast; omega, (by trivial)⟩
        case measure => simp [intOf] <;> omega
    · obtain rfl : k = L.length := by omega
      rw [List.take_length] at hs
      have e1 : sumX PodV.r2 L / 18446744073709551616 = H := by omega
      have e2 : sumX PodV.r2 L % 18446744073709551616 = N := by omega
      have E1 := Lib.hid e1
      have E2 := Lib.hid e2
      clear e1 e2 hs
      go_wp2
      go_ret2
      exact ⟨by rw [E1.out, E2.out]; rfl, (by trivial)⟩
set_option maxRecDepth 100000 in
set_option maxHeartbeats 16000000 in
theorem rref_Within (R : Room) (a : Option Addr) (len cap : Nat) (L : List PodV) (w : World) (hl : L.length = len) (hok : ∀ x ∈ L, x.ok) (hR : Row w a len cap 11 (L.flatMap PodV.cells)) (hr : ∀ x ∈ L, rightB x = true) (ha : 0 ≤ R.a ∧ InI R.a) (hb : 0 ≤ R.b ∧ InI R.b) (hc : 0 ≤ R.c ∧ InI R.c) :
    Calls Try.prog 31 #[.agg #[.int .i64 R.a, .int .i64 R.b, .int .i64 R.c], .slice a len cap] w fun e w' => e = .returned (.bool (fitsB R L)) ∧ Below w.heap.size w w' := by
  have hw : Below w.heap.size w w := Below.refl _ _
  have hbel := hw
  have HR := Lib.hid hR
  subst hl
  have S0 := (sumF_X PodV.r0 L (fun x hx => (PodV.right_pos x (hr x hx)).1)).2
  have CE0 := Lib.hid (fun v (hv : Below w.heap.size w v) => ref_Exact0 a L.length cap L v rfl (fun x hx => ⟨(PodV.right_pos x (hr x hx)).1, by have := hok x hx; unfold PodV.ok InI at this; omega⟩) (HR.out.later hv))
  have u0 : IntKind.u64.wrap R.a = R.a := IntWalk.u64_in _ (by unfold InI at ha; omega)
  have S1 := (sumF_X PodV.r1 L (fun x hx => (PodV.right_pos x (hr x hx)).2.1)).2
  have CE1 := Lib.hid (fun v (hv : Below w.heap.size w v) => ref_Exact1 a L.length cap L v rfl (fun x hx => ⟨(PodV.right_pos x (hr x hx)).2.1, by have := hok x hx; unfold PodV.ok InI at this; omega⟩) (HR.out.later hv))
  have u1 : IntKind.u64.wrap R.b = R.b := IntWalk.u64_in _ (by unfold InI at hb; omega)
  have S2 := (sumF_X PodV.r2 L (fun x hx => (PodV.right_pos x (hr x hx)).2.2)).2
  have CE2 := Lib.hid (fun v (hv : Below w.heap.size w v) => ref_Exact2 a L.length cap L v rfl (fun x hx => ⟨(PodV.right_pos x (hr x hx)).2.2, by have := hok x hx; unfold PodV.ok InI at this; omega⟩) (HR.out.later hv))
  have u2 : IntKind.u64.wrap R.c = R.c := IntWalk.u64_in _ (by unfold InI at hc; omega)
  have HX := Lib.hid (fits_X R L hr)
  clear hR hok hr ha hb hc
  go_enter Try.func31, Try.ntmps31
  go_upto_region 1 with fail
  have rm0 : (w.alloc (.cells #[.int .i64 R.a, .int .i64 R.b, .int .i64 R.c] 42)).cell? ⟨w.heap.size, 0, none⟩ = some (.int .i64 R.a) := by first | (simp; done) | (rw [World.cell?_alloc_at _ _ _ _ (by simp)]; rfl) | (rw [World.cell?_alloc_past _ _ _ (by simp <;> omega), World.cell?_alloc_at _ _ _ _ (by simp)]; rfl) | (rw [World.cell?_alloc_past _ _ _ (by simp <;> omega), World.cell?_alloc_past _ _ _ (by simp <;> omega), World.cell?_alloc_at _ _ _ _ (by simp)]; rfl)
  have rm1 : (w.alloc (.cells #[.int .i64 R.a, .int .i64 R.b, .int .i64 R.c] 42)).cell? ⟨w.heap.size, 1, none⟩ = some (.int .i64 R.b) := by first | (simp; done) | (rw [World.cell?_alloc_at _ _ _ _ (by simp)]; rfl) | (rw [World.cell?_alloc_past _ _ _ (by simp <;> omega), World.cell?_alloc_at _ _ _ _ (by simp)]; rfl) | (rw [World.cell?_alloc_past _ _ _ (by simp <;> omega), World.cell?_alloc_past _ _ _ (by simp <;> omega), World.cell?_alloc_at _ _ _ _ (by simp)]; rfl)
  have rm2 : (w.alloc (.cells #[.int .i64 R.a, .int .i64 R.b, .int .i64 R.c] 42)).cell? ⟨w.heap.size, 2, none⟩ = some (.int .i64 R.c) := by first | (simp; done) | (rw [World.cell?_alloc_at _ _ _ _ (by simp)]; rfl) | (rw [World.cell?_alloc_past _ _ _ (by simp <;> omega), World.cell?_alloc_at _ _ _ _ (by simp)]; rfl) | (rw [World.cell?_alloc_past _ _ _ (by simp <;> omega), World.cell?_alloc_past _ _ _ (by simp <;> omega), World.cell?_alloc_at _ _ _ _ (by simp)]; rfl)
  have hb2 := (by repeat (first | exact hbel | refine belAlloc ?_ _ | refine belDrew ?_ | refine belSet ?_ _ _ (by simp)) : Below w.heap.size w (w.alloc (.cells #[.int .i64 R.a, .int .i64 R.b, .int .i64 R.c] 42)))
  replace hw := belStep hw hb2
  clear hb2 hbel
  generalize w.alloc (.cells #[.int .i64 R.a, .int .i64 R.b, .int .i64 R.c] 42) = W1 at *
  replace rm0 := keep rm0
  replace rm1 := keep rm1
  replace rm2 := keep rm2
  have hbel : Below W1.heap.size W1 W1 := Below.refl _ _
  skip
  have HB := Lib.hid hbel
  clear hbel
  go_wp2
  go_loopw [5] (fun i wr => ∃ k : Nat, k ≤ 3 ∧ i = .int .i64 k ∧ Hid (exB R L k = true) ∧ Below W1.heap.size W1 wr) (fun i _ => 3 - (intOf i).toNat)
  case atStart => exact ⟨0, by omega, rfl, Lib.hid rfl, HB.out⟩
  case round =>
    obtain ⟨k, hk, rfl, HE, hbel⟩ := hrel
    have key : k = 0 ∨ k = 1 ∨ k = 2 ∨ k = 3 := by omega
    clear hk HB
    rcases key with rfl | rfl | rfl | rfl
    · have q1 := ex_cases (room := R.a) S0
      have q2 := CE0
      have HYES : Hid (exG R.a (sumX PodV.r0 L) = true → exB R L 1 = true) := Lib.hid (fun h => by exact h)
      have HNO : Hid (exG R.a (sumX PodV.r0 L) = false → fitsB R L = false) := Lib.hid (fun h => by rw [HX.out]; show (exG R.a (sumX PodV.r0 L) && exG R.b (sumX PodV.r1 L) && exG R.c (sumX PodV.r2 L)) = false; rw [h]; simp)
      generalize sumX PodV.r0 L / 18446744073709551616 = H at q1 q2
      generalize sumX PodV.r0 L % 18446744073709551616 = N at q1 q2
      clear S0 S1 S2 CE0 CE1 CE2
      rcases q1 with ⟨k0, k1, k2, k3⟩ | ⟨k0, k1 | ⟨k1, k2⟩ | ⟨k1, k2, k3⟩⟩
      · have HY := Lib.hid (HYES.out k0)
        clear k0
        go_wp2_with (go_at_call 49; (with_reducible refine (q2.out _ (belStep hw hbel)).mono ?_); rintro e w5 ⟨rfl, rfl⟩)
        go_roundw
        case rel => exact ⟨1, by omega, rfl, HY, hbel⟩
        case measure => simp [intOf] <;> omega
      · have HN := Lib.hid (HNO.out k0)
        clear k0
        go_wp2_with (go_at_call 49; (with_reducible refine (q2.out _ (belStep hw hbel)).mono ?_); rintro e w5 ⟨rfl, rfl⟩)
        go_ret
        exact ⟨by rw [HN.out]; rfl, belStep hw hbel⟩
      · have HN := Lib.hid (HNO.out k0)
        clear k0
        go_wp2_with (go_at_call 49; (with_reducible refine (q2.out _ (belStep hw hbel)).mono ?_); rintro e w5 ⟨rfl, rfl⟩)
        go_ret
        exact ⟨by rw [HN.out]; rfl, belStep hw hbel⟩
      · have HN := Lib.hid (HNO.out k0)
        clear k0
        go_wp2_with (go_at_call 49; (with_reducible refine (q2.out _ (belStep hw hbel)).mono ?_); rintro e w5 ⟨rfl, rfl⟩)
        go_ret
        exact ⟨by rw [HN.out]; rfl, belStep hw hbel⟩
    · have q1 := ex_cases (room := R.b) S1
      have q2 := CE1
      have HYES : Hid (exG R.b (sumX PodV.r1 L) = true → exB R L 2 = true) := Lib.hid (fun h => by have e := HE.out; show (exG R.a (sumX PodV.r0 L) && exG R.b (sumX PodV.r1 L)) = true; rw [h, show exG R.a (sumX PodV.r0 L) = true from e]; rfl)
      have HNO : Hid (exG R.b (sumX PodV.r1 L) = false → fitsB R L = false) := Lib.hid (fun h => by rw [HX.out]; show (exG R.a (sumX PodV.r0 L) && exG R.b (sumX PodV.r1 L) && exG R.c (sumX PodV.r2 L)) = false; rw [h]; simp)
      generalize sumX PodV.r1 L / 18446744073709551616 = H at q1 q2
      generalize sumX PodV.r1 L % 18446744073709551616 = N at q1 q2
      clear S0 S1 S2 CE0 CE1 CE2
      rcases q1 with ⟨k0, k1, k2, k3⟩ | ⟨k0, k1 | ⟨k1, k2⟩ | ⟨k1, k2, k3⟩⟩
      · have HY := Lib.hid (HYES.out k0)
        clear k0
        go_wp2_with (go_at_call 49; (with_reducible refine (q2.out _ (belStep hw hbel)).mono ?_); rintro e w5 ⟨rfl, rfl⟩)
        go_roundw
        case rel => exact ⟨2, by omega, rfl, HY, hbel⟩
        case measure => simp [intOf] <;> omega
      · have HN := Lib.hid (HNO.out k0)
        clear k0
        go_wp2_with (go_at_call 49; (with_reducible refine (q2.out _ (belStep hw hbel)).mono ?_); rintro e w5 ⟨rfl, rfl⟩)
        go_ret
        exact ⟨by rw [HN.out]; rfl, belStep hw hbel⟩
      · have HN := Lib.hid (HNO.out k0)
        clear k0
        go_wp2_with (go_at_call 49; (with_reducible refine (q2.out _ (belStep hw hbel)).mono ?_); rintro e w5 ⟨rfl, rfl⟩)
        go_ret
        exact ⟨by rw [HN.out]; rfl, belStep hw hbel⟩
      · have HN := Lib.hid (HNO.out k0)
        clear k0
        go_wp2_with (go_at_call 49; (with_reducible refine (q2.out _ (belStep hw hbel)).mono ?_); rintro e w5 ⟨rfl, rfl⟩)
        go_ret
        exact ⟨by rw [HN.out]; rfl, belStep hw hbel⟩
    · have q1 := ex_cases (room := R.c) S2
      have q2 := CE2
      have HYES : Hid (exG R.c (sumX PodV.r2 L) = true → exB R L 3 = true) := Lib.hid (fun h => by have e := HE.out; show (exG R.a (sumX PodV.r0 L) && exG R.b (sumX PodV.r1 L) && exG R.c (sumX PodV.r2 L)) = true; rw [h, show (exG R.a (sumX PodV.r0 L) && exG R.b (sumX PodV.r1 L)) = true from e]; rfl)
      have HNO : Hid (exG R.c (sumX PodV.r2 L) = false → fitsB R L = false) := Lib.hid (fun h => by rw [HX.out]; show (exG R.a (sumX PodV.r0 L) && exG R.b (sumX PodV.r1 L) && exG R.c (sumX PodV.r2 L)) = false; rw [h]; simp)
      generalize sumX PodV.r2 L / 18446744073709551616 = H at q1 q2
      generalize sumX PodV.r2 L % 18446744073709551616 = N at q1 q2
      clear S0 S1 S2 CE0 CE1 CE2
      rcases q1 with ⟨k0, k1, k2, k3⟩ | ⟨k0, k1 | ⟨k1, k2⟩ | ⟨k1, k2, k3⟩⟩
      · have HY := Lib.hid (HYES.out k0)
        clear k0
        go_wp2_with (go_at_call 49; (with_reducible refine (q2.out _ (belStep hw hbel)).mono ?_); rintro e w5 ⟨rfl, rfl⟩)
        go_roundw
        case rel => exact ⟨3, by omega, rfl, HY, hbel⟩
        case measure => simp [intOf] <;> omega
      · have HN := Lib.hid (HNO.out k0)
        clear k0
        go_wp2_with (go_at_call 49; (with_reducible refine (q2.out _ (belStep hw hbel)).mono ?_); rintro e w5 ⟨rfl, rfl⟩)
        go_ret
        exact ⟨by rw [HN.out]; rfl, belStep hw hbel⟩
      · have HN := Lib.hid (HNO.out k0)
        clear k0
        go_wp2_with (go_at_call 49; (with_reducible refine (q2.out _ (belStep hw hbel)).mono ?_); rintro e w5 ⟨rfl, rfl⟩)
        go_ret
        exact ⟨by rw [HN.out]; rfl, belStep hw hbel⟩
      · have HN := Lib.hid (HNO.out k0)
        clear k0
        go_wp2_with (go_at_call 49; (with_reducible refine (q2.out _ (belStep hw hbel)).mono ?_); rintro e w5 ⟨rfl, rfl⟩)
        go_ret
        exact ⟨by rw [HN.out]; rfl, belStep hw hbel⟩
    · have HY := Lib.hid (HX.out.trans HE.out)
      go_wp2
      go_ret
      exact ⟨by rw [HY.out]; rfl, belStep hw hbel⟩
end Go.Proofs.Ytpmkhimmlpnbpaa
