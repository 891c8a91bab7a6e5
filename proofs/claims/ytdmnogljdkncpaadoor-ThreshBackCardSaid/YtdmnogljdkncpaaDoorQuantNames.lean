
/- quant.Units, bilgeref05.Names, bilgeref05.Unit: contracts. -/
import Derived.Test.YtdmnogljdkncpaaDoorQuant
namespace Go.Proofs.YtdmnogljdkncpaaDoor
open Go.RowKit
set_option linter.unusedVariables false
set_option linter.unusedSimpArgs false

def nmL : Nat → List UInt8
  | 0 => [84, 105] | 1 => [84] | 2 => [71, 105] | 3 => [71] | 4 => [77, 105] | 5 => [77] | 6 => [75, 105] | _ => [107]
def nmB (k : Nat) : ByteArray := ⟨(nmL k).toArray⟩
def nmC : List Value := (List.range 8).map fun j => .string (nmB j)
theorem nmB_list (k : Nat) : (nmB k).toList = nmL k := by rw [sl]; rfl
theorem nmC_at {k : Nat} (h : k < 8) : nmC[k]? = some (.string (nmB k)) := by unfold nmC; simp [h]
def unitP (k : Nat) : Int := if k % 2 = 0 then 1024 ^ (4 - k / 2) else 1000 ^ (4 - k / 2)
theorem unit_name {k : Nat} (h : k < 8) : unitL (nmL k) = unitP k := by
  rcases (show k = 0 ∨ k = 1 ∨ k = 2 ∨ k = 3 ∨ k = 4 ∨ k = 5 ∨ k = 6 ∨ k = 7 by omega) with rfl | rfl | rfl | rfl | rfl | rfl | rfl | rfl <;> rfl
theorem unit_some {l : List UInt8} (h : unitL l ≠ 0) : l = [] ∨ ∃ k, k < 8 ∧ l = nmL k := by
  rcases Classical.em (l = []) with e | e
  · exact .inl e
  · right
    unfold unitL at h
    rw [if_neg e] at h
    split at h; · rename_i q; exact ⟨7, by omega, q⟩
    split at h; · rename_i q; exact ⟨5, by omega, q⟩
    split at h; · rename_i q; exact ⟨3, by omega, q⟩
    split at h; · rename_i q; exact ⟨1, by omega, q⟩
    split at h; · rename_i q; exact ⟨6, by omega, q⟩
    split at h; · rename_i q; exact ⟨4, by omega, q⟩
    split at h; · rename_i q; exact ⟨2, by omega, q⟩
    split at h; · rename_i q; exact ⟨0, by omega, q⟩
    exact absurd rfl h
theorem unit_none {l : List UInt8} (h0 : l ≠ []) (h : ∀ j, j < 8 → (nmL j == l) = false) : unitL l = 0 := by
  rcases Int.decEq (unitL l) 0 with e | e
  · rcases unit_some e with q | ⟨k, hk, q⟩
    · exact absurd q h0
    · have := h k hk
      rw [q] at this; simp at this
  · exact e
theorem pw_bd (b : Nat) (j : Nat) (hj : j ≤ 3) (hb : b = 1024 ∨ b = 1000) : (1 : Int) ≤ (b : Int) ^ j ∧ (b : Int) ^ j ≤ 1073741824 := by
  rcases hb with rfl | rfl <;> rcases (show j = 0 ∨ j = 1 ∨ j = 2 ∨ j = 3 by omega) with rfl | rfl | rfl | rfl <;> decide

set_option maxHeartbeats 1000000 in
theorem ref_Names (w : World) : Calls Tryd.prog 31 #[] w fun e w' => e = .returned (.slice (some ⟨w.heap.size, 0, none⟩) 8 8) ∧ Blk w' w.heap.size nmC 9 ∧ Below w.heap.size w w' := by
  go_enter Tryd.func31, Tryd.ntmps31
  go_wp2
  go_ret
  exact ⟨rfl, Blk.new w nmC 9, belAlloc (Below.refl _ _) _⟩
set_option maxHeartbeats 1000000 in
theorem quant_Units (w : World) : Calls Tryd.prog 29 #[] w fun e w' => e = .returned (.slice (some ⟨w.heap.size, 0, none⟩) 8 8) ∧ Blk w' w.heap.size nmC 9 ∧ Below w.heap.size w w' := by
  go_enter Tryd.func29, Tryd.ntmps29
  go_wp2
  go_ret
  exact ⟨rfl, Blk.new w nmC 9, belAlloc (Below.refl _ _) _⟩

theorem iem {l : List UInt8} (h : l.isEmpty = false) : l ≠ [] := by intro e; rw [e] at h; cases h
set_option maxRecDepth 100000 in
set_option maxHeartbeats 4000000 in
theorem ref_Unit (s : ByteArray) (w : World) : Calls Tryd.prog 32 #[.string s] w fun e w' => e = .returned (.int .i64 (unitL s.toList)) ∧ Below w.heap.size w w' := by
  cases hemp : s.toList.isEmpty with
  | true =>
    have HU := Lib.hid (show unitL s.toList = 1 by rw [List.isEmpty_iff] at hemp; rw [hemp]; rfl)
    go_enter Tryd.func32, Tryd.ntmps32
    go_wp2
    go_ret
    exact ⟨ret_i64 HU.out.symm, Below.refl _ _⟩
  | false =>
    have HE := Lib.hid (iem hemp)
    go_enter Tryd.func32, Tryd.ntmps32
    go_wp2_with (go_at_call 31; (with_reducible refine (ref_Names _).mono ?_); rintro e w1 ⟨rfl, hb1, hbel⟩)
    clear hemp
    go_loopw [4] (fun i wr => ∃ k : Nat, k ≤ 8 ∧ i = .int .i64 k ∧ (∀ j, j < k → (nmL j == s.toList) = false) ∧ w1 = wr) (fun i _ => 8 - (intOf i).toNat)
    case atStart => exact ⟨0, Nat.zero_le _, rfl, fun j hj => absurd hj (by omega), rfl⟩
    case round =>
      obtain ⟨k, hk, rfl, hall, rfl⟩ := hrel
      by_cases hlt : k < 8
      · have c0 := hb1.cell (nmC_at hlt)
        have HB := Lib.hid hb1
        have HA := Lib.hid hall
        have hnl := nmB_list k
        cases ht : (nmB k).toList == s.toList with
        | false =>
          have HT := Lib.hid (hnl ▸ ht)
          clear hb1 hall hnl
          go_wp2
          go_roundw
          case rel =>
            refine ⟨k + 1, by omega, by push_cast; rfl, fun j hj => ?_, by first | rfl | trivial⟩
            rcases Nat.lt_or_ge j k with q | q
            · exact HA.out j q
            · obtain rfl : j = k := by omega
              exact HT.out
          case measure => simp [intOf] <;> omega
        | true =>
          have HU := Lib.hid (show unitL s.toList = unitP k by
            have e : nmL k = s.toList := by rw [← hnl]; exact beq_iff_eq.1 ht
            rw [← e]; exact unit_name hlt)
          clear hb1 hall hnl
          have hk2 : (k : Int) / 2 = ((k / 2 : Nat) : Int) := by omega
          obtain ⟨q, hq⟩ : ∃ q, k / 2 = q := ⟨_, rfl⟩
          have hq4 : q < 4 := by omega
          have HQ := Lib.hid hq
          rw [hq] at hk2
          clear hq
          rcases (show (((k : Int) % 2 == 0) = true ∧ (k : Int) % 2 = 0) ∨ (((k : Int) % 2 == 0) = false ∧ ¬ (k : Int) % 2 = 0) by rcases Int.decEq ((k : Int) % 2) 0 with c | c <;> simp [c]) with ⟨p1, p2⟩ | ⟨p1, p2⟩
          · go_wp2
            go_loop [5, 6] (fun n m => ∃ j : Nat, q + j ≤ 4 ∧ m = .int .i64 ((q + j : Nat) : Int) ∧ n = .int .i64 (1024 ^ j)) (fun _ m => 4 - (intOf m).toNat)
            case atStart => exact ⟨0, by omega, rfl, rfl⟩
            case round =>
              obtain ⟨j, hj, rfl, rfl⟩ := hrel
              by_cases hj4 : q + j < 4
              · obtain ⟨b1, b2⟩ := pw_bd 1024 j (by omega) (.inl rfl)
                have HP := Lib.hid (show (1024 : Int) ^ (j + 1) = 1024 ^ j * 1024 from Int.pow_succ 1024 j)
                have e0 : (((1024 : Nat) : Int)) = 1024 := rfl
                rw [e0] at b1 b2
                clear e0
                generalize (1024 : Int) ^ j = pj at *
                have hlt4 : ((q + j : Nat) : Int) < 4 := by omega
                go_wp2
                go_round
                case rel => exact ⟨j + 1, by omega, by go_num, by rw [HP.out]⟩
                case measure => simp [intOf] <;> omega
              · have hj5 : q + j = 4 := by omega
                have HJ := Lib.hid hj5
                have hge4 : ¬ ((q + j : Nat) : Int) < 4 := by omega
                clear hj5
                go_wp2
                go_ret
                exact ⟨ret_i64 (by rw [HU.out]; unfold unitP; rw [if_pos (by omega), HQ.out, show 4 - q = j by have := HJ.out; omega]), hbel⟩
          · go_wp2
            go_loop [5, 6] (fun n m => ∃ j : Nat, q + j ≤ 4 ∧ m = .int .i64 ((q + j : Nat) : Int) ∧ n = .int .i64 (1000 ^ j)) (fun _ m => 4 - (intOf m).toNat)
            case atStart => exact ⟨0, by omega, rfl, rfl⟩
            case round =>
              obtain ⟨j, hj, rfl, rfl⟩ := hrel
              by_cases hj4 : q + j < 4
              · obtain ⟨b1, b2⟩ := pw_bd 1000 j (by omega) (.inr rfl)
                have HP := Lib.hid (show (1000 : Int) ^ (j + 1) = 1000 ^ j * 1000 from Int.pow_succ 1000 j)
                have e0 : (((1000 : Nat) : Int)) = 1000 := rfl
                rw [e0] at b1 b2
                clear e0
                generalize (1000 : Int) ^ j = pj at *
                have hlt4 : ((q + j : Nat) : Int) < 4 := by omega
                go_wp2
                go_round
                case rel => exact ⟨j + 1, by omega, by go_num, by rw [HP.out]⟩
                case measure => simp [intOf] <;> omega
              · have hj5 : q + j = 4 := by omega
                have HJ := Lib.hid hj5
                have hge4 : ¬ ((q + j : Nat) : Int) < 4 := by omega
                clear hj5
                go_wp2
                go_ret
                exact ⟨ret_i64 (by rw [HU.out]; unfold unitP; rw [if_neg (by omega), HQ.out, show 4 - q = j by have := HJ.out; omega]), hbel⟩
      · obtain rfl : k = 8 := by omega
        have HU := Lib.hid (unit_none HE.out hall)
        clear hall hb1
        go_wp2
        go_ret
        exact ⟨ret_i64 HU.out.symm, hbel⟩
end Go.Proofs.YtdmnogljdkncpaaDoor
