/- Exact sums: the two words of bilgeref21.Exact, and what they say of fitting. -/
import Derived.Test.YtafojeeehehplaaVicOpen
namespace Go.Proofs.Ytafojeeehehplaa
open Go.RowKit
set_option linter.unusedVariables false
set_option linter.unusedSimpArgs false
def sumX (f : PodV → Int) (L : List PodV) : Int := L.foldl (fun s p => s + f p) 0
theorem sumX_next (f : PodV → Int) {L : List PodV} {k : Nat} {p : PodV} (h : L[k]? = some p) : sumX f (L.take (k + 1)) = sumX f (L.take k) + f p := by
  unfold sumX
  rw [List.take_add_one, h, List.foldl_append]
  rfl
theorem sum_both (f : PodV → Int) : ∀ (L : List PodV) (s S : Int), s = min S 9223372036854775807 → 0 ≤ S → (∀ x ∈ L, 0 ≤ f x) →
    L.foldl (fun s p => satAdd s (f p)) s = min (L.foldl (fun s p => s + f p) S) 9223372036854775807 ∧ 0 ≤ L.foldl (fun s p => s + f p) S
  | [], s, S, h, h0, _ => ⟨h, h0⟩
  | x :: L, s, S, h, h0, hp => by
    have hx := hp x (by simp)
    rw [List.foldl_cons, List.foldl_cons]
    exact sum_both f L _ _ (by unfold satAdd; omega) (by omega) (fun y hy => hp y (by simp [hy]))
theorem sumF_X (f : PodV → Int) (L : List PodV) (h : ∀ x ∈ L, 0 ≤ f x) : sumF f L = min (sumX f L) 9223372036854775807 ∧ 0 ≤ sumX f L := sum_both f L 0 0 (by omega) (by omega) h
def exG (room S : Int) : Bool := decide (S < 9223372036854775807) && decide (S ≤ room)
theorem fit1_X (room : Int) (f : PodV → Int) (L : List PodV) (h : ∀ x ∈ L, 0 ≤ f x) : fit1 room (sumF f L) = exG room (sumX f L) := by
  have hx := (sumF_X f L h).1
  rw [Bool.eq_iff_iff]
  unfold fit1 exG
  simp only [Bool.and_eq_true, decide_eq_true_eq, Bool.not_eq_true', beq_eq_false_iff_ne, ne_eq]
  omega
def exB (R : Room) (L : List PodV) : Nat → Bool
  | 0 => true
  | 1 => exG R.a (sumX PodV.r0 L)
  | 2 => exG R.a (sumX PodV.r0 L) && exG R.b (sumX PodV.r1 L)
  | _ => exG R.a (sumX PodV.r0 L) && exG R.b (sumX PodV.r1 L) && exG R.c (sumX PodV.r2 L)
theorem fits_X (R : Room) (L : List PodV) (h : ∀ x ∈ L, rightB x = true) : fitsB R L = exB R L 3 := by
  show (fit1 R.a (sumF PodV.r0 L) && (fit1 R.b (sumF PodV.r1 L) && fit1 R.c (sumF PodV.r2 L))) = (exG R.a (sumX PodV.r0 L) && exG R.b (sumX PodV.r1 L) && exG R.c (sumX PodV.r2 L))
  rw [fit1_X R.a PodV.r0 L (fun x hx => (PodV.right_pos x (h x hx)).1), fit1_X R.b PodV.r1 L (fun x hx => (PodV.right_pos x (h x hx)).2.1), fit1_X R.c PodV.r2 L (fun x hx => (PodV.right_pos x (h x hx)).2.2), Bool.and_assoc]
theorem ex_cases {room S : Int} (hS : 0 ≤ S) : (exG room S = true ∧ ¬ 0 < S / 18446744073709551616 ∧ ¬ 9223372036854775807 ≤ S % 18446744073709551616 ∧ ¬ room < S % 18446744073709551616) ∨
    (exG room S = false ∧ (0 < S / 18446744073709551616 ∨ (¬ 0 < S / 18446744073709551616 ∧ 9223372036854775807 ≤ S % 18446744073709551616) ∨ (¬ 0 < S / 18446744073709551616 ∧ ¬ 9223372036854775807 ≤ S % 18446744073709551616 ∧ room < S % 18446744073709551616))) := by
  unfold exG
  by_cases h : S < 9223372036854775807 ∧ S ≤ room
  · refine .inl ⟨by simp [h.1, h.2], ?_⟩
    omega
  · refine .inr ⟨?_, ?_⟩
    · rcases Bool.eq_false_or_eq_true (decide (S < 9223372036854775807) && decide (S ≤ room)) with k | k
      · simp only [Bool.and_eq_true, decide_eq_true_eq] at k; exact absurd k h
      · exact k
    · omega
set_option maxRecDepth 100000 in
set_option maxHeartbeats 8000000 in
theorem ref_Exact0 (a : Option Addr) (len cap : Nat) (L : List PodV) (w : World) (hl : L.length = len) (hpos : ∀ x ∈ L, 0 ≤ x.r0 ∧ x.r0 ≤ 9223372036854775807) (hR : Row w a len cap 11 (L.flatMap PodV.cells)) :
    Calls Try.prog 34 #[.slice a len cap, .int .i64 0] w fun e w' => e = .returned (.tuple #[.int .u64 (sumX PodV.r0 L / 18446744073709551616), .int .u64 (sumX PodV.r0 L % 18446744073709551616)]) ∧ w = w' := by
  have hbd : len ≤ cap ∧ cap ≤ 9223372036854775807 := by obtain ⟨_, h1, h2, _⟩ := hR; unfold maxLen at h2; exact ⟨h1, h2⟩
  obtain ⟨hbd1, hbd2⟩ := hbd
  have HR := Lib.hid hR
  have HPOS := Lib.hid hpos
  clear hR hpos
  subst hl
  go_enter Try.func34, Try.ntmps34
  go_wp2
  go_loopw [6, 7, 8] (fun h n i wr => ∃ (k : Nat) (H N : Int), k ≤ L.length ∧ i = .int .i64 k ∧ h = .int .u64 H ∧ n = .int .u64 N ∧ H * 18446744073709551616 + N = sumX PodV.r0 (L.take k) ∧ 0 ≤ N ∧ N < 18446744073709551616 ∧ 0 ≤ H ∧ H ≤ k ∧ w = wr) (fun _ _ i _ => L.length - (intOf i).toNat)
  case atStart => exact ⟨0, 0, 0, Nat.zero_le _, rfl, rfl, rfl, rfl, by omega, by omega, by omega, by omega, (by trivial)⟩
  case round =>
    obtain ⟨k, H, N, hk, rfl, rfl, rfl, hs, hn0, hn1, hh0, hh1, rfl⟩ := hrel
    by_cases hlt : k < L.length
    · obtain ⟨p, hx⟩ : ∃ x, L[k]? = some x := ⟨L[k], List.getElem?_eq_getElem hlt⟩
      obtain ⟨b, off, rfl, _, hc⟩ := HR.out.elem PodV.cells_len (by omega) hx
      obtain ⟨hq0, hq1⟩ := HPOS.out p (List.mem_of_getElem? hx)
      have hnx := sumX_next PodV.r0 hx
      rw [← hs] at hnx
      have HN := Lib.hid hnx
      have y0 := hc (3 + 0) _ rfl
      have hd : decide ((k : Int) < (L.length : Int)) = true := decide_eq_true (by omega)
      generalize p.r0 = X at *
      have u1 : IntKind.u64.wrap X = X := IntWalk.u64_in _ (by omega)
      clear hs hnx hx hc
      by_cases hov : N + X < 18446744073709551616
      · have u2 : IntKind.u64.wrap (N + X) = N + X := IntWalk.u64_in _ (by omega)
        have c1 : ¬ N + X < X := by omega
        go_wp2
        go_roundw
        case rel => exact ⟨k + 1, H, N + X, by omega, by push_cast; rfl, rfl, rfl, by rw [HN.out]; omega, by omega, by omega, by omega, by push_cast; omega, (by trivial)⟩
        case measure => simp [intOf] <;> omega
      · have u2 : IntKind.u64.wrap (N + X) = N + X - 18446744073709551616 := by rw [IntKind.wrap_u64]; omega
        have c1 : N + X - 18446744073709551616 < X := by omega
        have u3 : IntKind.u64.wrap (H + 1) = H + 1 := IntWalk.u64_in _ (by omega)
        go_wp2
        go_roundw
        case rel => exact ⟨k + 1, H + 1, N + X - 18446744073709551616, by omega, by push_cast; rfl, rfl, rfl, by rw [HN.out]; omega, by omega, by omega, by omega, by push_cast; omega, (by trivial)⟩
        case measure => simp [intOf] <;> omega
    · obtain rfl : k = L.length := by omega
      rw [List.take_length] at hs
      have e1 : sumX PodV.r0 L / 18446744073709551616 = H := by omega
      have e2 : sumX PodV.r0 L % 18446744073709551616 = N := by omega
      have E1 := Lib.hid e1
      have E2 := Lib.hid e2
      clear e1 e2 hs
      go_wp2
      go_ret2
      exact ⟨by rw [E1.out, E2.out]; rfl, (by trivial)⟩
set_option maxRecDepth 100000 in
set_option maxHeartbeats 8000000 in
theorem ref_Exact1 (a : Option Addr) (len cap : Nat) (L : List PodV) (w : World) (hl : L.length = len) (hpos : ∀ x ∈ L, 0 ≤ x.r1 ∧ x.r1 ≤ 9223372036854775807) (hR : Row w a len cap 11 (L.flatMap PodV.cells)) :
    Calls Try.prog 34 #[.slice a len cap, .int .i64 1] w fun e w' => e = .returned (.tuple #[.int .u64 (sumX PodV.r1 L / 18446744073709551616), .int .u64 (sumX PodV.r1 L % 18446744073709551616)]) ∧ w = w' := by
  have hbd : len ≤ cap ∧ cap ≤ 9223372036854775807 := by obtain ⟨_, h1, h2, _⟩ := hR; unfold maxLen at h2; exact ⟨h1, h2⟩
  obtain ⟨hbd1, hbd2⟩ := hbd
  have HR := Lib.hid hR
  have HPOS := Lib.hid hpos
  clear hR hpos
  subst hl
  go_enter Try.func34, Try.ntmps34
  go_wp2
  go_loopw [6, 7, 8] (fun h n i wr => ∃ (k : Nat) (H N : Int), k ≤ L.length ∧ i = .int .i64 k ∧ h = .int .u64 H ∧ n = .int .u64 N ∧ H * 18446744073709551616 + N = sumX PodV.r1 (L.take k) ∧ 0 ≤ N ∧ N < 18446744073709551616 ∧ 0 ≤ H ∧ H ≤ k ∧ w = wr) (fun _ _ i _ => L.length - (intOf i).toNat)
  case atStart => exact ⟨0, 0, 0, Nat.zero_le _, rfl, rfl, rfl, rfl, by omega, by omega, by omega, by omega, (by trivial)⟩
  case round =>
    obtain ⟨k, H, N, hk, rfl, rfl, rfl, hs, hn0, hn1, hh0, hh1, rfl⟩ := hrel
    by_cases hlt : k < L.length
    · obtain ⟨p, hx⟩ : ∃ x, L[k]? = some x := ⟨L[k], List.getElem?_eq_getElem hlt⟩
      obtain ⟨b, off, rfl, _, hc⟩ := HR.out.elem PodV.cells_len (by omega) hx
      obtain ⟨hq0, hq1⟩ := HPOS.out p (List.mem_of_getElem? hx)
      have hnx := sumX_next PodV.r1 hx
      rw [← hs] at hnx
      have HN := Lib.hid hnx
      have y0 := hc (3 + 1) _ rfl
      have hd : decide ((k : Int) < (L.length : Int)) = true := decide_eq_true (by omega)
      generalize p.r1 = X at *
      have u1 : IntKind.u64.wrap X = X := IntWalk.u64_in _ (by omega)
      clear hs hnx hx hc
      by_cases hov : N + X < 18446744073709551616
      · have u2 : IntKind.u64.wrap (N + X) = N + X := IntWalk.u64_in _ (by omega)
        have c1 : ¬ N + X < X := by omega
        go_wp2
        go_roundw
        case rel => exact ⟨k + 1, H, N + X, by omega, by push_cast; rfl, rfl, rfl, by rw [HN.out]; omega, by omega, by omega, by omega, by push_cast; omega, (by trivial)⟩
        case measure => simp [intOf] <;> omega
      · have u2 : IntKind.u64.wrap (N + X) = N + X - 18446744073709551616 := by rw [IntKind.wrap_u64]; omega
        have c1 : N + X - 18446744073709551616 < X := by omega
        have u3 : IntKind.u64.wrap (H + 1) = H + 1 := IntWalk.u64_in _ (by omega)
        go_wp2
        go_roundw
        case rel => exact ⟨k + 1, H + 1, N + X - 18446744073709551616, by omega, by push_cast; rfl, rfl, rfl, by rw [HN.out]; omega, by omega, by omega, by omega, by push_cast; omega, (by trivial)⟩
        case measure => simp [intOf] <;> omega
    · obtain rfl : k = L.length := by omega
      rw [List.take_length] at hs
      have e1 : sumX PodV.r1 L / 18446744073709551616 = H := by omega
      have e2 : sumX PodV.r1 L % 18446744073709551616 = N := by omega
      have E1 := Lib.hid e1
      have E2 := Lib.hid e2
      clear e1 e2 hs
      go_wp2
      go_ret2
      exact ⟨by rw [E1.out, E2.out]; rfl, (by trivial)⟩
set_option maxRecDepth 100000 in
set_option maxHeartbeats 8000000 in
theorem ref_Exact2 (a : Option Addr) (len cap : Nat) (L : List PodV) (w : World) (hl : L.length = len) (hpos : ∀ x ∈ L, 0 ≤ x.r2 ∧ x.r2 ≤ 9223372036854775807) (hR : Row w a len cap 11 (L.flatMap PodV.cells)) :
    Calls Try.prog 34 #[.slice a len cap, .int .i64 2] w fun e w' => e = .returned (.tuple #[.int .u64 (sumX PodV.r2 L / 18446744073709551616), .int .u64 (sumX PodV.r2 L % 18446744073709551616)]) ∧ w = w' := by
  have hbd : len ≤ cap ∧ cap ≤ 9223372036854775807 := by obtain ⟨_, h1, h2, _⟩ := hR; unfold maxLen at h2; exact ⟨h1, h2⟩
  obtain ⟨hbd1, hbd2⟩ := hbd
  have HR := Lib.hid hR
  have HPOS := Lib.hid hpos
  clear hR hpos
  subst hl
  go_enter Try.func34, Try.ntmps34
  go_wp2
  go_loopw [6, 7, 8] (fun h n i wr => ∃ (k : Nat) (H N : Int), k ≤ L.length ∧ i = .int .i64 k ∧ h = .int .u64 H ∧ n = .int .u64 N ∧ H * 18446744073709551616 + N = sumX PodV.r2 (L.take k) ∧ 0 ≤ N ∧ N < 18446744073709551616 ∧ 0 ≤ H ∧ H ≤ k ∧ w = wr) (fun _ _ i _ => L.length - (intOf i).toNat)
  case atStart => exact ⟨0, 0, 0, Nat.zero_le _, rfl, rfl, rfl, rfl, by omega, by omega, by omega, by omega, (by trivial)⟩
  case round =>
    obtain ⟨k, H, N, hk, rfl, rfl, rfl, hs, hn0, hn1, hh0, hh1, rfl⟩ := hrel
    by_cases hlt : k < L.length
    · obtain ⟨p, hx⟩ : ∃ x, L[k]? = some x := ⟨L[k], List.getElem?_eq_getElem hlt⟩
      obtain ⟨b, off, rfl, _, hc⟩ := HR.out.elem PodV.cells_len (by omega) hx
      obtain ⟨hq0, hq1⟩ := HPOS.out p (List.mem_of_getElem? hx)
      have hnx := sumX_next PodV.r2 hx
      rw [← hs] at hnx
      have HN := Lib.hid hnx
      have y0 := hc (3 + 2) _ rfl
      have hd : decide ((k : Int) < (L.length : Int)) = true := decide_eq_true (by omega)
      generalize p.r2 = X at *
      have u1 : IntKind.u64.wrap X = X := IntWalk.u64_in _ (by omega)
      clear hs hnx hx hc
      by_cases hov : N + X < 18446744073709551616
      · have u2 : IntKind.u64.wrap (N + X) = N + X := IntWalk.u64_in _ (by omega)
        have c1 : ¬ N + X < X := by omega
        go_wp2
        go_roundw
        case rel => exact ⟨k + 1, H, N + X, by omega, by push_cast; rfl, rfl, rfl, by rw [HN.out]; omega, by omega, by omega, by omega, by push_cast; omega, (by trivial)⟩
        case measure => simp [intOf] <;> omega
      · have u2 : IntKind.u64.wrap (N + X) = N + X - 18446744073709551616 := by rw [IntKind.wrap_u64]; omega
        have c1 : N + X - 18446744073709551616 < X := by omega
        have u3 : IntKind.u64.wrap (H + 1) = H + 1 := IntWalk.u64_in _ (by omega)
        go_wp2
        go_roundw
        case rel => exact ⟨k + 1, H + 1, N + X - 18446744073709551616, by omega, by push_cast; rfl, rfl, rfl, by rw [HN.out]; omega, by omega, by omega, by omega, by push_cast; omega, (by trivial)⟩
        case measure => simp [intOf] <;> omega
    · obtain rfl : k = L.length := by omega
      rw [List.take_length] at hs
      have e1 : sumX PodV.r2 L / 18446744073709551616 = H := by omega
      have e2 : sumX PodV.r2 L % 18446744073709551616 = N := by omega
      have E1 := Lib.hid e1
      have E2 := Lib.hid e2
      clear e1 e2 hs
      go_wp2
      go_ret2
      exact ⟨by rw [E1.out, E2.out]; rfl, (by trivial)⟩
end Go.Proofs.Ytafojeeehehplaa
