
/- Stage 27: the reference: words: contracts. -/
import Derived.Test.YtekakalhknjdaaaDoorLg1
namespace Go.Proofs.YtekakalhknjdaaaDoor
open Go.RowKit
set_option linter.unusedVariables false
set_option linter.unusedSimpArgs false
/-- The word of a kind, by the reference. -/
def kwI (k : Int) : List UInt8 := if 0 ≤ k ∧ k ≤ 16 then kwE k.toNat else []
theorem kwE_size : ∀ k, (kwE k).length ≤ 10 := by
  intro k
  have h : ∀ k ∈ List.range 17, (kwE k).length ≤ 10 := by decide +kernel
  by_cases hk : k < 17
  · exact h k (List.mem_range.2 hk)
  · have e : kwE k = [] := by unfold kwE; split <;> first | rfl | omega
    rw [e]; simp
theorem kwB_cells {k : Nat} (hk : k < 17) : ([.string ⟨#[]⟩, .string ⟨#[97, 100, 109, 105, 116]⟩, .string ⟨#[112, 114, 101, 101, 109, 112, 116]⟩, .string ⟨#[114, 101, 106, 101, 99, 116]⟩, .string ⟨#[100, 101, 108, 101, 116, 101]⟩, .string ⟨#[101, 118, 105, 99, 116]⟩, .string ⟨#[111, 110]⟩, .string ⟨#[111, 102, 102]⟩, .string ⟨#[98, 101, 103, 105, 110]⟩, .string ⟨#[112, 117, 108, 108]⟩, .string ⟨#[117, 112]⟩, .string ⟨#[102, 97, 105, 108]⟩, .string ⟨#[103, 111, 110, 101]⟩, .string ⟨#[100, 101, 97, 100]⟩, .string ⟨#[105, 109, 97, 103, 101]⟩, .string ⟨#[115, 116, 111, 112]⟩, .string ⟨#[114, 101, 99, 111, 118, 101, 114]⟩] : List Value)[k]? = some (.string (bA (kwE k))) := by
  have h : ∀ k ∈ List.range 17, ([.string ⟨#[]⟩, .string ⟨#[97, 100, 109, 105, 116]⟩, .string ⟨#[112, 114, 101, 101, 109, 112, 116]⟩, .string ⟨#[114, 101, 106, 101, 99, 116]⟩, .string ⟨#[100, 101, 108, 101, 116, 101]⟩, .string ⟨#[101, 118, 105, 99, 116]⟩, .string ⟨#[111, 110]⟩, .string ⟨#[111, 102, 102]⟩, .string ⟨#[98, 101, 103, 105, 110]⟩, .string ⟨#[112, 117, 108, 108]⟩, .string ⟨#[117, 112]⟩, .string ⟨#[102, 97, 105, 108]⟩, .string ⟨#[103, 111, 110, 101]⟩, .string ⟨#[100, 101, 97, 100]⟩, .string ⟨#[105, 109, 97, 103, 101]⟩, .string ⟨#[115, 116, 111, 112]⟩, .string ⟨#[114, 101, 99, 111, 118, 101, 114]⟩] : List Value)[k]? = some (.string (bA (kwE k))) := by
    intro k hk
    simp only [List.mem_range] at hk
    rcases (show k = 0 ∨ k = 1 ∨ k = 2 ∨ k = 3 ∨ k = 4 ∨ k = 5 ∨ k = 6 ∨ k = 7 ∨ k = 8 ∨ k = 9 ∨ k = 10 ∨ k = 11 ∨ k = 12 ∨ k = 13 ∨ k = 14 ∨ k = 15 ∨ k = 16 by omega) with rfl | rfl | rfl | rfl | rfl | rfl | rfl | rfl | rfl | rfl | rfl | rfl | rfl | rfl | rfl | rfl | rfl <;> rfl
  exact h k (List.mem_range.2 hk)
/-- What the reference answers of a round and an event. -/
def RlnP (r : Int) (e : EvV) (x : Ending) : Prop := match lineE r e with
  | some s => x = .returned (.tuple #[.string (bA s), .bool true])
  | none => ∃ t, x = .returned (.tuple #[.string t, .bool false])
theorem rln_yes {r : Int} {e : EvV} {s : List UInt8} {t : ByteArray} (h : lineE r e = some s) (ht : t.data.toList = s) : RlnP r e (.returned (.tuple #[.string t, .bool true])) := by unfold RlnP; rw [h]; simp only; rw [← ht, bA_self]
theorem rln_no {r : Int} {e : EvV} {t : ByteArray} (h : lineE r e = none) : RlnP r e (.returned (.tuple #[.string t, .bool false])) := by unfold RlnP; rw [h]; exact ⟨t, rfl⟩
set_option maxRecDepth 100000 in
set_option maxHeartbeats 16000000 in
theorem rf_Word26 (s : ByteArray) (w : World) (hs : s.size ≤ maxLen) :
    Calls Tryd.prog 26 #[.string s] w fun e w' => e = .returned (.bool (wordB s.data.toList)) ∧ w = w' := by
  have hs2 : (s.size : Int) ≤ 9223372036854775807 := by unfold maxLen at hs; omega
  clear hs
  go_enter Tryd.func26, Tryd.ntmps26
  go_wp2
  go_loopw [3] (fun iv wr => ∃ k : Nat, k ≤ s.size ∧ iv = .int .i64 k ∧ Hid (∀ j (hj : j < s.size), j < k → 33 ≤ s[j].toNat ∧ s[j].toNat ≤ 126) ∧ wr = w) (fun iv _ => s.size - (intOf iv).toNat)
  case atStart => exact ⟨0, Nat.zero_le _, rfl, Lib.hid (fun j hj h => absurd h (by omega)), rfl⟩
  case round =>
    obtain ⟨k, hk, rfl, HA, rfl⟩ := hrel
    by_cases hlt : k < s.size
    · have hd : decide ((k : Int) < (s.size : Int)) = true := decide_eq_true (by omega)
      have hki : (k : Int) < (s.size : Int) := by omega
      have hk0 : (0 : Int) ≤ (k : Int) := by omega
      have hc8 := s[k].toNat_lt
      by_cases h1 : s[k].toNat < 33
      · have HF := Lib.hid (word_bad hlt (by omega))
        have t1 : decide ((s[k].toNat : Int) < 33) = true := decide_eq_true (by omega)
        have t1i : (s[k].toNat : Int) < 33 := by omega
        go_wp2
        go_ret
        exact ⟨by rw [HF.out] <;> rfl, by first | rfl | trivial⟩
      · have t1 : decide ((s[k].toNat : Int) < 33) = false := decide_eq_false (by omega)
        have t1i : ¬ (s[k].toNat : Int) < 33 := by omega
        by_cases h2 : 126 < s[k].toNat
        · have HF := Lib.hid (word_bad hlt (by omega))
          have t2 : decide ((126 : Int) < (s[k].toNat : Int)) = true := decide_eq_true (by omega)
          have t2i : (126 : Int) < (s[k].toNat : Int) := by omega
          go_wp2
          go_ret
          exact ⟨by rw [HF.out] <;> rfl, by first | rfl | trivial⟩
        · have t2 : decide ((126 : Int) < (s[k].toNat : Int)) = false := decide_eq_false (by omega)
          have t2i : ¬ (126 : Int) < (s[k].toNat : Int) := by omega
          have HN := Lib.hid (show ∀ j (hj : j < s.size), j < k + 1 → 33 ≤ s[j].toNat ∧ s[j].toNat ≤ 126 from fun j hj h => (Nat.lt_or_ge j k).elim (HA.out j hj) (fun h9 => by have e9 : j = k := (by omega); subst e9; omega))
          go_wp2
          go_roundw
          case rel => exact ⟨k + 1, by omega, by push_cast; rfl, HN, by first | rfl | trivial⟩
          case measure => simp [intOf] <;> omega
    · obtain rfl : k = s.size := by omega
      have HE := Lib.hid (word_end (fun j hj => HA.out j hj hj))
      have hd : decide ((s.size : Int) < (s.size : Int)) = false := decide_eq_false (by omega)
      by_cases h0 : s.size = 0
      · have t1 : decide ((1 : Int) ≤ (s.size : Int)) = false := decide_eq_false (by omega)
        have t1i : ¬ (1 : Int) ≤ (s.size : Int) := by omega
        have HR := Lib.hid (show wordB s.data.toList = false from by rw [HE.out, decide_eq_false (show ¬ 1 ≤ s.size by omega)]; rfl)
        clear h0
        go_wp2
        go_ret
        exact ⟨by rw [HR.out] <;> rfl, by first | rfl | trivial⟩
      · have t1 : decide ((1 : Int) ≤ (s.size : Int)) = true := decide_eq_true (by omega)
        have t1i : (1 : Int) ≤ (s.size : Int) := by omega
        have h0l : 0 < s.size := by omega
        have h0i : (0 : Int) < (s.size : Int) := by omega
        clear h0
        by_cases h6 : s.size ≤ 60
        · have t2 : decide ((s.size : Int) ≤ 60) = true := decide_eq_true (by omega)
          have t2i : (s.size : Int) ≤ 60 := by omega
          rcases Classical.em (s[0] = 35) with q | q
          · have t3 : ((s[0].toNat : Int) == 35) = true := by rw [q]; rfl
            have t4 : ((s[0].toNat : Int) != 35) = false := by rw [q]; rfl
            have HR := Lib.hid (show wordB s.data.toList = false from by rw [HE.out, head_at h0l, q]; simp)
            clear q
            go_wp2
            go_ret
            exact ⟨by rw [HR.out] <;> rfl, by first | rfl | trivial⟩
          · have t3 : ((s[0].toNat : Int) == 35) = false := by rw [beq_eq_false_iff_ne]; exact u8_neL q
            have t4 : ((s[0].toNat : Int) != 35) = true := by rw [bne_iff_ne]; exact u8_neL q
            have HR := Lib.hid (show wordB s.data.toList = true from by rw [HE.out, head_at h0l]; simp [q]; omega)
            clear q
            go_wp2
            go_ret
            exact ⟨by rw [HR.out] <;> rfl, by first | rfl | trivial⟩
        · have t2 : decide ((s.size : Int) ≤ 60) = false := decide_eq_false (by omega)
          have t2i : ¬ (s.size : Int) ≤ 60 := by omega
          have HR := Lib.hid (show wordB s.data.toList = false from by rw [HE.out, decide_eq_false h6]; simp)
          go_wp2
          go_ret
          exact ⟨by rw [HR.out] <;> rfl, by first | rfl | trivial⟩
set_option maxRecDepth 100000 in
set_option maxHeartbeats 16000000 in
theorem rf_Word27 (k : Int) (w : World) :
    Calls Tryd.prog 24 #[.int .i64 k] w fun e w' => e = .returned (.string (bA (kwI k))) ∧ Below w.heap.size w w' := by
  have hbel : Below w.heap.size w w := Below.refl _ _
  by_cases h1 : k < 0
  · have t1 : decide (k < 0) = true := decide_eq_true h1
    have HK := Lib.hid (show kwI k = [] from by unfold kwI; rw [if_neg (by omega)])
    go_enter Tryd.func24, Tryd.ntmps24
    go_wp2
    go_ret
    exact ⟨by rw [HK.out] <;> rfl, belAlloc hbel _⟩
  · have t1 : decide (k < 0) = false := decide_eq_false h1
    by_cases h2 : 16 < k
    · have t2 : decide ((16 : Int) < k) = true := decide_eq_true h2
      have HK := Lib.hid (show kwI k = [] from by unfold kwI; rw [if_neg (by omega)])
      go_enter Tryd.func24, Tryd.ntmps24
      go_wp2
      go_ret
      exact ⟨by rw [HK.out] <;> rfl, belAlloc hbel _⟩
    · have t2 : decide ((16 : Int) < k) = false := decide_eq_false h2
      obtain ⟨n, rfl⟩ : ∃ n : Nat, k = n := ⟨k.toNat, by omega⟩
      have hn : n < 17 := by omega
      have hni : (n : Int) < 17 := by omega
      have HK := Lib.hid (show kwI (n : Int) = kwE n from by unfold kwI; rw [if_pos (by omega)]; rfl)
      have h0 : (0 : Int) ≤ (n : Int) := by omega
      clear h1 h2
      have bn := (Blk.new w [.string ⟨#[]⟩, .string ⟨#[97, 100, 109, 105, 116]⟩, .string ⟨#[112, 114, 101, 101, 109, 112, 116]⟩, .string ⟨#[114, 101, 106, 101, 99, 116]⟩, .string ⟨#[100, 101, 108, 101, 116, 101]⟩, .string ⟨#[101, 118, 105, 99, 116]⟩, .string ⟨#[111, 110]⟩, .string ⟨#[111, 102, 102]⟩, .string ⟨#[98, 101, 103, 105, 110]⟩, .string ⟨#[112, 117, 108, 108]⟩, .string ⟨#[117, 112]⟩, .string ⟨#[102, 97, 105, 108]⟩, .string ⟨#[103, 111, 110, 101]⟩, .string ⟨#[100, 101, 97, 100]⟩, .string ⟨#[105, 109, 97, 103, 101]⟩, .string ⟨#[115, 116, 111, 112]⟩, .string ⟨#[114, 101, 99, 111, 118, 101, 114]⟩] 9).cell (kwB_cells hn)
      go_enter Tryd.func24, Tryd.ntmps24
      go_wp2
      go_ret
      exact ⟨by rw [HK.out] <;> rfl, belAlloc hbel _⟩
end Go.Proofs.YtekakalhknjdaaaDoor
