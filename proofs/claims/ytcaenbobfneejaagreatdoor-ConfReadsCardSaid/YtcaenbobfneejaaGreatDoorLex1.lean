
/- lex.blank, lex.end, lex.readable: contracts. -/
import Derived.Test.YtcaenbobfneejaaGreatDoorLexSplit
import Derived.Test.YtcaenbobfneejaaGreatDoorRowK
namespace Go.Proofs.YtcaenbobfneejaaGreatDoor
open Go.RowKit
set_option linter.unusedVariables false
set_option linter.unusedSimpArgs false
def numsL (L : List UInt8) : List Int := L.map (fun c => (c.toNat : Int))
theorem byte_eq (c k : UInt8) : ((c.toNat : Int) == (k.toNat : Int)) = (c == k) := by
  rw [Bool.eq_iff_iff, beq_iff_eq, beq_iff_eq, ← UInt8.toNat_inj]
  omega
set_option maxRecDepth 100000 in
theorem lex_blank (c : UInt8) (w : World) : Calls Tryz.prog 32 #[.int .u8 (c.toNat : Int)] w fun e w' => e = .returned (.bool (blankB c)) ∧ w = w' := by
  have k1 := byte_eq c 32
  have k2 := byte_eq c 9
  have k3 := byte_eq c 13
  rw [show ((32 : UInt8).toNat : Int) = 32 from rfl] at k1
  rw [show ((9 : UInt8).toNat : Int) = 9 from rfl] at k2
  rw [show ((13 : UInt8).toNat : Int) = 13 from rfl] at k3
  unfold blankB
  generalize (c == 32) = b1 at *
  generalize (c == 9) = b2 at *
  generalize (c == 13) = b3 at *
  generalize (c.toNat : Int) = n at *
  rcases b1 with _ | _ <;> rcases b2 with _ | _ <;> rcases b3 with _ | _
  all_goals
    go_enter Tryz.func32, Tryz.ntmps32
    go_wp2
    go_ret
    exact ⟨rfl, rfl⟩
theorem size_list (s : ByteArray) : s.data.toList.length = s.size := Array.length_toList
theorem at_list (s : ByteArray) {k : Nat} (h : k < s.size) : s.data.toList[k]? = some s[k] := by
  rw [List.getElem?_eq_getElem (by simpa using h)]; rfl
set_option maxRecDepth 100000 in
set_option maxHeartbeats 4000000 in
theorem lex_end (s : ByteArray) (p : Nat) (w : World) (hp : p ≤ s.size) (hs : s.size ≤ 9223372036854775806) : Calls Tryz.prog 33 #[.string s, .int .i64 (p : Int)] w fun e w' => e = .returned (.int .i64 (endP s.data.toList p)) ∧ w = w' := by
  have hpp := Lib.hid hp
  clear hp
  go_enter Tryz.func33, Tryz.ntmps33
  go_wp2
  go_loopw [1] (fun i wr => ∃ k : Nat, k ≤ s.size ∧ i = .int .i64 k ∧ Hid (endP s.data.toList k = endP s.data.toList p) ∧ w = wr) (fun i _ => s.size - (intOf i).toNat)
  case atStart => exact ⟨p, hpp.out, rfl, Lib.hid rfl, rfl⟩
  case round =>
    obtain ⟨k, hk, rfl, HE, rfl⟩ := hrel
    by_cases hlt : k < s.size
    · have HL := Lib.hid (at_list s hlt)
      obtain ⟨b, hb⟩ : ∃ b, blankB s[k] = b := ⟨_, rfl⟩
      have CB := Lib.hid (fun u => hb ▸ lex_blank s[k] u)
      have HB := Lib.hid hb
      clear hb
      have hd : decide ((k : Int) < (s.size : Int)) = true := decide_eq_true (by omega)
      rcases b with _ | _
      · go_wp2_with (go_at_call 32; (with_reducible refine (CB.out _).mono ?_); rintro e w' ⟨rfl, rfl⟩)
        go_roundw
        case rel => exact ⟨k + 1, by omega, by push_cast; rfl, Lib.hid (by rw [← HE.out]; exact (endP_step HL.out HB.out).symm), by first | rfl | trivial⟩
        case measure => simp [intOf] <;> omega
      · go_wp2_with (go_at_call 32; (with_reducible refine (CB.out _).mono ?_); rintro e w' ⟨rfl, rfl⟩)
        go_ret
        refine ⟨?_, by first | rfl | trivial⟩
        rw [← HE.out, endP_stop HL.out HB.out]; rfl
    · obtain rfl : k = s.size := by omega
      have hd : decide ((s.size : Int) < (s.size : Int)) = false := decide_eq_false (by omega)
      go_wp2
      go_ret
      refine ⟨?_, by first | rfl | trivial⟩
      rw [← HE.out, endP_over (Nat.le_of_eq (size_list s))]; rfl
def okB (c : UInt8) : Bool := c == 10 || blankB c || (decide (32 ≤ c.toNat) && decide (c.toNat ≤ 126))
theorem readB_eq (L : List UInt8) : readB L = (L.all okB && decide (L.length ≤ 65536)) := rfl
set_option maxRecDepth 100000 in
set_option maxHeartbeats 4000000 in
theorem lex_readable (a : Option Addr) (len cap : Nat) (L : List UInt8) (w : World) (hI : Ints .u8 w a len cap (numsL L)) : Calls Tryz.prog 30 #[.slice a len cap] w fun e w' => e = .returned (.bool (readB L)) ∧ w = w' := by
  have hb := hI.bounds
  obtain ⟨hb1, hb2, hb3⟩ := hb
  have hl : L.length = len := by simpa [numsL] using hb1
  clear hb1
  subst hl
  have hcell : ∀ k (h : k < L.length), ∃ b off, a = some ⟨b, off, none⟩ ∧ w.cell? ⟨b, off + k, none⟩ = some (.int .u8 (L[k].toNat : Int)) := by
    intro k h
    obtain ⟨b, off, ha, _, hc⟩ := hI.opened (by omega)
    refine ⟨b, off, ha, ?_⟩
    rw [hc k h]
    simp [numsL, el, List.getD, List.getElem?_eq_getElem h]
  have HC := Lib.hid hcell
  clear hcell hI
  go_enter Tryz.func30, Tryz.ntmps30
  go_wp2
  go_loopw [7] (fun i wr => ∃ k : Nat, k ≤ L.length ∧ i = .int .i64 k ∧ Hid ((L.take k).all okB = true) ∧ w = wr) (fun i _ => L.length - (intOf i).toNat)
  case atStart => exact ⟨0, Nat.zero_le _, rfl, Lib.hid rfl, rfl⟩
  case round =>
    obtain ⟨k, hk, rfl, HE, rfl⟩ := hrel
    by_cases hlt : k < L.length
    · obtain ⟨b, off, rfl, hc⟩ := HC.out k hlt
      have hd : decide ((k : Int) < (L.length : Int)) = true := decide_eq_true (by omega)
      have hx : L[k]? = some L[k] := List.getElem?_eq_getElem hlt
      have hnx : (L.take (k + 1)).all okB = ((L.take k).all okB && okB L[k]) := by rw [List.take_add_one, hx, List.all_append]; simp
      have hbad : okB L[k] = false → readB L = false := fun h => by
        rw [readB_eq]
        have : L.all okB = false := by
          rw [List.all_eq_false]
          exact ⟨L[k], List.getElem_mem hlt, by rw [h]; simp⟩
        rw [this]; rfl
      have HX := Lib.hid hnx
      have HBAD := Lib.hid hbad
      clear hnx hbad hx
      generalize L[k] = c at *
      have CB := Lib.hid (fun u => lex_blank c u)
      have k1 := byte_eq c 10
      rw [show ((10 : UInt8).toNat : Int) = 10 from rfl] at k1
      have hok : okB c = ((c == 10) || blankB c || (decide (32 ≤ c.toNat) && decide (c.toNat ≤ 126))) := rfl
      have h0 : (0 : Int) ≤ (c.toNat : Int) := by omega
      have e1 : decide (32 ≤ c.toNat) = decide ((32 : Int) ≤ (c.toNat : Int)) := decide_eq_decide.2 (by omega)
      have e2 : decide (c.toNat ≤ 126) = decide ((c.toNat : Int) ≤ 126) := decide_eq_decide.2 (by omega)
      rw [e1, e2] at hok
      have HOK := Lib.hid hok
      clear hok e1 e2
      generalize (c == 10) = b1 at *
      generalize blankB c = b2 at *
      generalize (c.toNat : Int) = n at *
      have key : (b1 = true) ∨ (b1 = false ∧ b2 = true) ∨ (b1 = false ∧ b2 = false ∧ n < 32) ∨ (b1 = false ∧ b2 = false ∧ ¬ n < 32 ∧ 126 < n) ∨ (b1 = false ∧ b2 = false ∧ ¬ n < 32 ∧ ¬ 126 < n) := by
        cases b1 <;> cases b2 <;> simp <;> omega
      rcases key with rfl | ⟨rfl, rfl⟩ | ⟨rfl, rfl, m1⟩ | ⟨rfl, rfl, m1, m2⟩ | ⟨rfl, rfl, m1, m2⟩
      · obtain rfl : n = 10 := by simpa using k1
        clear k1
        have HN := Lib.hid (show (L.take (k + 1)).all okB = true by rw [HX.out, HE.out, HOK.out]; rfl)
        go_wp2_with (go_at_call 32; (with_reducible refine (CB.out _).mono ?_); rintro e w' ⟨rfl, rfl⟩)
        go_roundw
        case rel => exact ⟨k + 1, by omega, by push_cast; rfl, HN, by first | rfl | trivial⟩
        case measure => simp [intOf] <;> omega
      · have k4 : (n != 10) = true := by simp [bne, k1]
        have k5 : ¬ n = 10 := by intro h; rw [h] at k1; cases k1
        clear k1
        have HN := Lib.hid (show (L.take (k + 1)).all okB = true by rw [HX.out, HE.out, HOK.out]; rfl)
        go_wp2_with (go_at_call 32; (with_reducible refine (CB.out _).mono ?_); rintro e w' ⟨rfl, rfl⟩)
        go_roundw
        case rel => exact ⟨k + 1, by omega, by push_cast; rfl, HN, by first | rfl | trivial⟩
        case measure => simp [intOf] <;> omega
      · have k4 : (n != 10) = true := by simp [bne, k1]
        have k5 : ¬ n = 10 := by intro h; rw [h] at k1; cases k1
        clear k1
        have HN := Lib.hid (HBAD.out (by rw [HOK.out, decide_eq_false (show ¬ (32 : Int) ≤ n by omega)]; rfl))
        go_wp2_with (go_at_call 32; (with_reducible refine (CB.out _).mono ?_); rintro e w' ⟨rfl, rfl⟩)
        go_ret
        exact ⟨ret_bool HN.out.symm, by first | rfl | trivial⟩
      · have k4 : (n != 10) = true := by simp [bne, k1]
        have k5 : ¬ n = 10 := by intro h; rw [h] at k1; cases k1
        clear k1
        have HN := Lib.hid (HBAD.out (by rw [HOK.out, decide_eq_false (show ¬ n ≤ 126 by omega)]; simp))
        go_wp2_with (go_at_call 32; (with_reducible refine (CB.out _).mono ?_); rintro e w' ⟨rfl, rfl⟩)
        go_ret
        exact ⟨ret_bool HN.out.symm, by first | rfl | trivial⟩
      · have k4 : (n != 10) = true := by simp [bne, k1]
        have k5 : ¬ n = 10 := by intro h; rw [h] at k1; cases k1
        clear k1
        have HN := Lib.hid (show (L.take (k + 1)).all okB = true by rw [HX.out, HE.out, HOK.out, decide_eq_true (show (32 : Int) ≤ n by omega), decide_eq_true (show n ≤ 126 by omega)]; rfl)
        go_wp2_with (go_at_call 32; (with_reducible refine (CB.out _).mono ?_); rintro e w' ⟨rfl, rfl⟩)
        go_roundw
        case rel => exact ⟨k + 1, by omega, by push_cast; rfl, HN, by first | rfl | trivial⟩
        case measure => simp [intOf] <;> omega
    · obtain rfl : k = L.length := by omega
      have hd : decide ((L.length : Int) < (L.length : Int)) = false := decide_eq_false (by omega)
      have HR := Lib.hid (show readB L = decide (L.length ≤ 65536) by rw [readB_eq]; have := HE.out; rw [List.take_length] at this; rw [this]; rfl)
      by_cases h6 : (L.length : Int) ≤ 65536
      · have HR2 := Lib.hid (show readB L = true by rw [HR.out]; exact decide_eq_true (by omega))
        go_wp2
        go_ret
        exact ⟨ret_bool HR2.out.symm, by first | rfl | trivial⟩
      · have HR2 := Lib.hid (show readB L = false by rw [HR.out]; exact decide_eq_false (by omega))
        go_wp2
        go_ret
        exact ⟨ret_bool HR2.out.symm, by first | rfl | trivial⟩
end Go.Proofs.YtcaenbobfneejaaGreatDoor
