
/- pod.Named: contract (taken out of stage 12). -/
import Derived.Test.YtcgpmihjodolmaaPodRef
namespace Go.Proofs.Ytcgpmihjodolmaa
open Go.RowKit
set_option linter.unusedVariables false
set_option linter.unusedSimpArgs false
theorem okc_cases2 (c : Int) :
    (okc c = true ∧ ((c != 45) = false ∨ ((c != 45) = true ∧ ¬ c < 97 ∧ ¬ 122 < c) ∨ ((c != 45) = true ∧ c < 97 ∧ ¬ c < 48 ∧ ¬ 57 < c))) ∨
    (okc c = false ∧ (((c != 45) = true ∧ c < 97 ∧ c < 48) ∨ ((c != 45) = true ∧ c < 97 ∧ ¬ c < 48 ∧ 57 < c) ∨ ((c != 45) = true ∧ ¬ c < 97 ∧ 122 < c ∧ ¬ c < 48 ∧ 57 < c))) := by
  unfold okc
  rcases Int.lt_or_le c 97 with a | a <;> rcases Int.lt_or_le 122 c with b | b <;> rcases Int.lt_or_le c 48 with d | d <;> rcases Int.lt_or_le 57 c with e | e <;> rcases Int.decEq c 45 with f | f <;> simp [f] <;> omega
set_option maxHeartbeats 2000000 in
theorem pod_Named (s : ByteArray) (w : World) (hs : s.size ≤ maxLen) :
    Calls Try.prog 63 #[.string s] w fun e w' => e = .returned (.bool (nameB s)) ∧ w = w' := by
  have hs' : (s.size : Int) ≤ 9223372036854775807 := by unfold maxLen at hs; omega
  go_enter Try.func63, Try.ntmps63
  go_wp2
  go_loopw [7] (fun i wr => ∃ k : Nat, k ≤ s.size ∧ i = .int .i64 k ∧ namedN s k = true ∧ w = wr) (fun i _ => s.size - (intOf i).toNat)
  case atStart => exact ⟨0, Nat.zero_le _, rfl, rfl, rfl⟩
  case round =>
    obtain ⟨k, hk, rfl, hn, rfl⟩ := hrel
    by_cases hlt : k < s.size
    · have hb : byteI s k = (s[k].toNat : Int) := by unfold byteI; rw [dif_pos hlt]
      have h0 : (0 : Int) ≤ (s[k].toNat : Int) := by omega
      have hnext : namedN s (k + 1) = (namedN s k && okc (byteI s k)) := rfl
      have hfalse := fun (h : okc (byteI s k) = false) => namedN_false s hlt h
      have key := okc_cases2 (byteI s k)
      rw [hn] at hnext
      rw [hb] at key hnext hfalse
      clear hb
      have HN := Lib.hid hnext
      have HF := Lib.hid hfalse
      clear hnext hfalse
      rcases key with ⟨e, m⟩ | ⟨e, m⟩
      · have HE := Lib.hid e
        clear e
        rcases m with m1 | ⟨m1, m2, m3⟩ | ⟨m1, m2, m3, m4⟩
        all_goals
          go_wp2
          go_roundw
          case rel => exact ⟨k + 1, by omega, by push_cast; rfl, by rw [HN.out, HE.out]; rfl, by first | rfl | trivial⟩
          case measure => simp [intOf] <;> omega
      · have HE := Lib.hid (HF.out e)
        clear e HF
        rcases m with ⟨m1, m2, m3⟩ | ⟨m1, m2, m3, m4⟩ | ⟨m1, m2, m3, m4, m5⟩
        all_goals
          go_wp2
          go_ret
          exact ⟨ret_bool (by unfold nameB; rw [HE.out]; rfl), by first | rfl | trivial⟩
    · obtain rfl : k = s.size := by omega
      have HN := Lib.hid hn
      clear hn
      have key : (1 ≤ s.size ∧ s.size ≤ 24) ∨ (1 ≤ s.size ∧ ¬ s.size ≤ 24) ∨ ¬ 1 ≤ s.size := by omega
      rcases key with ⟨m1, m2⟩ | ⟨m1, m2⟩ | m1
      all_goals
        go_wp2
        go_ret
        exact ⟨ret_bool (by unfold nameB; rw [HN.out]; simp [*] <;> omega), by first | rfl | trivial⟩
end Go.Proofs.Ytcgpmihjodolmaa
