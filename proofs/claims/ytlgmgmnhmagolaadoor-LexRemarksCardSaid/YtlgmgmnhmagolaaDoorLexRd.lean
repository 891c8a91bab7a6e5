
/- bilgeref04.Readable: contract. -/
import Derived.Test.YtlgmgmnhmagolaaDoorLexCard
namespace Go.Proofs.YtlgmgmnhmagolaaDoor
open Go.RowKit
set_option linter.unusedVariables false
set_option linter.unusedSimpArgs false
theorem okB_num (c : UInt8) (n : Int) (h : (c.toNat : Int) = n) : okB c = decide (n = 9 ∨ n = 10 ∨ n = 13 ∨ (32 ≤ n ∧ n ≤ 126)) := by
  have k1 := byte_eq c 10
  have k2 := byte_eq c 9
  have k3 := byte_eq c 13
  have k4 := byte_eq c 32
  rw [show ((10 : UInt8).toNat : Int) = 10 from rfl] at k1
  rw [show ((9 : UInt8).toNat : Int) = 9 from rfl] at k2
  rw [show ((13 : UInt8).toNat : Int) = 13 from rfl] at k3
  rw [show ((32 : UInt8).toNat : Int) = 32 from rfl] at k4
  rw [h] at k1 k2 k3 k4
  unfold okB blankB
  rw [← k1, ← k2, ← k3, ← k4]
  rw [Bool.eq_iff_iff]
  simp only [Bool.or_eq_true, beq_iff_eq, Bool.and_eq_true, decide_eq_true_eq]
  omega
set_option maxRecDepth 100000 in
set_option maxHeartbeats 4000000 in
theorem rlex_Readable (a : Option Addr) (len cap : Nat) (L : List UInt8) (w : World) (hI : Ints .u8 w a len cap (numsL L)) : Calls Tryd.prog 11 #[.slice a len cap] w fun e w' => e = .returned (.bool (readB L)) ∧ w = w' := by
  have hb := hI.bounds
  obtain ⟨hb1, hb2, hb3⟩ := hb
  have hl : L.length = len := by simpa [numsL] using hb1
  clear hb1
  subst hl
  have hcell : ∀ k (h : k < L.length), ∃ b off, a = some ⟨b, off, none⟩ ∧ w.cell? ⟨b, off + k, none⟩ = some (.int .u8 (L[k].toNat : Int)) := by
    intro k h
    obtain ⟨b, off, ha, _, hc⟩ := hI.opened (by omega)
    refine ⟨b, off, ha, ?_⟩
    rw [hc k h]
    simp [numsL, el, List.getD, List.getElem?_eq_getElem h]
  have HC := Lib.hid hcell
  clear hcell hI
  go_enter Tryd.func11, Tryd.ntmps11
  go_wp2
  go_loopg [3] L.length (fun g i wr => ∃ k : Nat, k + g = L.length ∧ i = .int .i64 k ∧ Hid ((L.take k).all okB = true) ∧ w = wr)
  case atStart => exact ⟨0, by omega, rfl, Lib.hid rfl, rfl⟩
  case round =>
    obtain ⟨k, hkg, rfl, HE, rfl⟩ := hrel
    cases gk with
    | zero =>
      obtain rfl : k = L.length := by omega
      have hd : decide ((L.length : Int) < (L.length : Int)) = false := decide_eq_false (by omega)
      have HR := Lib.hid (show readB L = decide (L.length ≤ 65536) by rw [readB_eq]; have := HE.out; rw [List.take_length] at this; rw [this]; rfl)
      by_cases h6 : (L.length : Int) ≤ 65536
      · have HR2 := Lib.hid (show readB L = true by rw [HR.out]; exact decide_eq_true (by omega))
        go_wp2
        go_ret
        exact ⟨ret_bool HR2.out.symm, by first | rfl | trivial⟩
      · have HR2 := Lib.hid (show readB L = false by rw [HR.out]; exact decide_eq_false (by omega))
        go_wp2
        go_ret
        exact ⟨ret_bool HR2.out.symm, by first | rfl | trivial⟩
    | succ g =>
      have hlt : k < L.length := by omega
      obtain ⟨b, off, rfl, hc⟩ := HC.out k hlt
      have hd : decide ((k : Int) < (L.length : Int)) = true := decide_eq_true (by omega)
      have hki : (k : Int) < (L.length : Int) := by omega
      have hk0 : (0 : Int) ≤ (k : Int) := by omega
      have hx : L[k]? = some L[k] := List.getElem?_eq_getElem hlt
      have HX := Lib.hid (show (L.take (k + 1)).all okB = ((L.take k).all okB && okB L[k]) by rw [List.take_add_one, hx, List.all_append]; simp)
      have HBAD := Lib.hid (show okB L[k] = false → readB L = false from fun h => by
        rw [readB_eq]
        have : L.all okB = false := by
          rw [List.all_eq_false]
          exact ⟨L[k], List.getElem_mem hlt, by rw [h]; simp⟩
        rw [this]; rfl)
      clear hx
      generalize L[k] = c at *
      obtain ⟨n, hn⟩ : ∃ n, (c.toNat : Int) = n := ⟨_, rfl⟩
      have HOK := Lib.hid (okB_num c n hn)
      rw [hn] at hc
      have hn0 : 0 ≤ n := by omega
      clear hn
      have good : n = 9 ∨ n = 10 ∨ n = 13 ∨ (n ≠ 9 ∧ n ≠ 10 ∧ n ≠ 13 ∧ n < 32) ∨ (n ≠ 9 ∧ n ≠ 10 ∧ n ≠ 13 ∧ ¬ n < 32 ∧ 126 < n) ∨ (n ≠ 9 ∧ n ≠ 10 ∧ n ≠ 13 ∧ ¬ n < 32 ∧ ¬ 126 < n) := by omega
      rcases good with rfl | rfl | rfl | ⟨m1, m2, m3, m4⟩ | ⟨m1, m2, m3, m4, m5⟩ | ⟨m1, m2, m3, m4, m5⟩
      · have HN := Lib.hid (show (L.take (k + 1)).all okB = true by rw [HX.out, HE.out, HOK.out]; decide)
        go_wp2
        go_roundg g
        case rel => exact ⟨k + 1, by omega, by push_cast; rfl, HN, by first | rfl | trivial⟩
        case measure => omega
      · have HN := Lib.hid (show (L.take (k + 1)).all okB = true by rw [HX.out, HE.out, HOK.out]; decide)
        go_wp2
        go_roundg g
        case rel => exact ⟨k + 1, by omega, by push_cast; rfl, HN, by first | rfl | trivial⟩
        case measure => omega
      · have HN := Lib.hid (show (L.take (k + 1)).all okB = true by rw [HX.out, HE.out, HOK.out]; decide)
        go_wp2
        go_roundg g
        case rel => exact ⟨k + 1, by omega, by push_cast; rfl, HN, by first | rfl | trivial⟩
        case measure => omega
      · have HN := Lib.hid (HBAD.out (by rw [HOK.out]; exact decide_eq_false (by omega)))
        have p1 : (n == 9) = false := by simpa using m1
        have p2 : (n == 10) = false := by simpa using m2
        have p3 : (n == 13) = false := by simpa using m3
        have p4 : decide ((32 : Int) ≤ n) = false := decide_eq_false (by omega)
        have p5 : ¬ (32 : Int) ≤ n := by omega
        go_wp2
        go_ret
        exact ⟨ret_bool HN.out.symm, by first | rfl | trivial⟩
      · have HN := Lib.hid (HBAD.out (by rw [HOK.out]; exact decide_eq_false (by omega)))
        have p1 : (n == 9) = false := by simpa using m1
        have p2 : (n == 10) = false := by simpa using m2
        have p3 : (n == 13) = false := by simpa using m3
        have p4 : decide ((32 : Int) ≤ n) = true := decide_eq_true (by omega)
        have p5 : (32 : Int) ≤ n := by omega
        have p6 : decide (n ≤ (126 : Int)) = false := decide_eq_false (by omega)
        have p7 : ¬ n ≤ 126 := by omega
        go_wp2
        go_ret
        exact ⟨ret_bool HN.out.symm, by first | rfl | trivial⟩
      · have HN := Lib.hid (show (L.take (k + 1)).all okB = true by rw [HX.out, HE.out, HOK.out]; simp; omega)
        have p1 : (n == 9) = false := by simpa using m1
        have p2 : (n == 10) = false := by simpa using m2
        have p3 : (n == 13) = false := by simpa using m3
        have p4 : decide ((32 : Int) ≤ n) = true := decide_eq_true (by omega)
        have p5 : (32 : Int) ≤ n := by omega
        have p6 : decide (n ≤ (126 : Int)) = true := decide_eq_true (by omega)
        have p7 : n ≤ 126 := by omega
        go_wp2
        go_roundg g
        case rel => exact ⟨k + 1, by omega, by push_cast; rfl, HN, by first | rfl | trivial⟩
        case measure => omega
end Go.Proofs.YtlgmgmnhmagolaaDoor
