
/- bilgeref04.Join, Readable: contracts. -/
import Derived.Test.YtgmgeefipkfdcaaDoorLexCard
namespace Go.Proofs.YtgmgeefipkfdcaaDoor
open Go.RowKit
set_option linter.unusedVariables false
set_option linter.unusedSimpArgs false
theorem one_byte (c : UInt8) : (⟨#[c]⟩ : ByteArray) = bA [c] := rfl
set_option maxRecDepth 100000 in
set_option maxHeartbeats 16000000 in
theorem rlex_Join (B0 : Nat) (a : Option Addr) (cap : Nat) (LL : List (List FldV)) (vs : List Value) (w : World) (hR : RowsF w B0 (.slice a LL.length cap) LL vs) (hM : (joinF LL).length ≤ 140737488355328) :
    Calls Tryd.prog 15 #[.slice a LL.length cap] w fun e w' => e = .returned (.string (bA (joinF LL))) ∧ w = w' := by
  have HR := Lib.hid hR
  have HM := Lib.hid hM
  have hlen : LL.length ≤ 9223372036854775807 := by
    rcases own_shape hR.out with ⟨_, e⟩ | ⟨g, c, e, h1, h2, h3, h4⟩ <;> omega
  clear hR hM
  go_enter Tryd.func15, Tryd.ntmps15
  go_wp2
  go_loopg [3, 4] LL.length (fun g sv iv wr => ∃ k : Nat, k + g = LL.length ∧ sv = .string (bA (joinF (LL.take k))) ∧ iv = .int .i64 k ∧ w = wr)
  case atStart => exact ⟨0, by omega, rfl, rfl, rfl⟩
  case round =>
    obtain ⟨k, hkg, rfl, rfl, rfl⟩ := hrel
    cases gk with
    | zero =>
      obtain rfl : k = LL.length := by omega
      have hd : decide ((LL.length : Int) < (LL.length : Int)) = false := decide_eq_false (by omega)
      rw [List.take_length]
      go_wp2
      go_ret
      exact ⟨rfl, rfl⟩
    | succ g =>
      have hlt : k < LL.length := by omega
      have hd : decide ((k : Int) < (LL.length : Int)) = true := decide_eq_true (by omega)
      have hki : (k : Int) < (LL.length : Int) := by omega
      have hk0 : (0 : Int) ≤ (k : Int) := by omega
      obtain ⟨og, oc, ea, _, _, _, _⟩ := HR.out.open (by omega)
      obtain rfl : a = some ⟨og, 0, none⟩ := by simpa using (Value.slice.inj ea).1
      clear ea
      obtain ⟨F, hF⟩ : ∃ F, LL[k]? = some F := ⟨LL[k], List.getElem?_eq_getElem hlt⟩
      obtain ⟨ra, rn, hrow, hown⟩ := rows_at HR.out hF
      have HOWN := Lib.hid hown
      have HJ := Lib.hid (joinF_take hF)
      have hjl : (joinF (LL.take k)).length + (wordsF true F).length + 1 ≤ 140737488355328 := by
        have h1 := joinF_le (k + 1) LL
        rw [HJ.out] at h1
        simp only [List.length_append, List.length_cons, List.length_nil] at h1
        have := HM.out
        omega
      have hFl : F.length ≤ 9223372036854775807 := by
        rcases own_shape hown with ⟨_, e⟩ | ⟨g, c, e, h1, h2, h3, h4⟩ <;> omega
      clear hF hown
      generalize joinF (LL.take k) = acc at *
      go_wp2
      go_loopg [3, 5] F.length (fun g2 sv iv wr => ∃ j : Nat, j + g2 = F.length ∧ sv = .string (bA (acc ++ wordsF true (F.take j))) ∧ iv = .int .i64 j ∧ w = wr)
      case atStart => exact ⟨0, by omega, by rw [List.take_zero]; show _ = Value.string (bA (acc ++ [])); rw [List.append_nil], rfl, rfl⟩
      case round =>
        obtain ⟨j, hjg, rfl, rfl, rfl⟩ := hrel
        cases gk with
        | zero =>
          obtain rfl : j = F.length := by omega
          have hdj : decide ((F.length : Int) < (F.length : Int)) = false := decide_eq_false (by omega)
          rw [List.take_length]
          have hz0 : (bA (acc ++ wordsF true F)).size + 1 ≤ 9223372036854775807 := by rw [bA_size, List.length_append]; omega
          have hz1 : (bA (acc ++ wordsF true F)).size + (⟨#[10]⟩ : ByteArray).size ≤ 9223372036854775807 := hz0
          have hz2 : (bA (acc ++ wordsF true F)).size + (⟨#[10]⟩ : ByteArray).size ≤ maxLen := hz0
          have HE := Lib.hid (show bA (acc ++ wordsF true F) ++ (⟨#[10]⟩ : ByteArray) = bA (acc ++ (wordsF true F ++ [10])) by rw [one_byte, bA_app, List.append_assoc])
          generalize bA (acc ++ wordsF true F) = sx at *
          go_wp2
          go_roundg g
          case rel => exact ⟨k + 1, by omega, by rw [HJ.out, ← HE.out], by push_cast; rfl, by first | rfl | trivial⟩
          case measure => omega
        | succ g2 =>
          have hjlt : j < F.length := by omega
          have hdj : decide ((j : Int) < (F.length : Int)) = true := decide_eq_true (by omega)
          have hji : (j : Int) < (F.length : Int) := by omega
          have hj0 : (0 : Int) ≤ (j : Int) := by omega
          obtain ⟨f, hf⟩ : ∃ f, F[j]? = some f := ⟨F[j], List.getElem?_eq_getElem hjlt⟩
          have HT := Lib.hid (wordsF_take hf)
          have hle := wordsF_le (j + 1) F
          rw [HT.out] at hle
          simp only [List.length_append] at hle
          obtain ⟨fg, rfl, hfg1, hfg2, _, e0, e1, e2⟩ := fld_at HOWN.out hf
          clear hf
          generalize wordsF true (F.take j) = ws at *
          have hes : (bA f.text).size = f.text.length := bA_size _
          by_cases hjz : j = 0
          · subst hjz
            rw [if_pos rfl] at hle HT
            simp only [List.length_nil] at hle
            rw [List.nil_append] at HT
            simp only [Nat.zero_mul, Nat.zero_add] at e0 e1 e2
            have hdz : decide ((0 : Int) < (0 : Int)) = false := rfl
            have hz0 : (bA (acc ++ ws)).size + (bA f.text).size ≤ 9223372036854775807 := by rw [bA_size, bA_size, List.length_append]; omega
            have hz1 : (bA (acc ++ ws)).size + (bA f.text).size ≤ maxLen := hz0
            have HE := Lib.hid (show bA (acc ++ ws) ++ bA f.text = bA (acc ++ (ws ++ f.text)) by rw [bA_app, List.append_assoc])
            generalize bA (acc ++ ws) = sx at *
            generalize bA f.text = sy at *
            go_wp2
            go_roundg g2
            case rel => exact ⟨0 + 1, by omega, by rw [HT.out, ← HE.out], by push_cast; rfl, by first | rfl | trivial⟩
            case measure => omega
          · have hdz : decide ((0 : Int) < (j : Int)) = true := decide_eq_true (by omega)
            have hjp : (0 : Int) < (j : Int) := by omega
            rw [if_neg hjz] at hle HT
            simp only [List.length_cons, List.length_nil] at hle
            have hz0 : (bA (acc ++ ws)).size + 1 ≤ 9223372036854775807 := by rw [bA_size, List.length_append]; omega
            have hz1 : (bA (acc ++ ws)).size + (⟨#[32]⟩ : ByteArray).size ≤ 9223372036854775807 := hz0
            have hz2 : (bA (acc ++ ws)).size + (⟨#[32]⟩ : ByteArray).size ≤ maxLen := hz0
            have hz3 : (bA (acc ++ ws) ++ (⟨#[32]⟩ : ByteArray)).size + (bA f.text).size ≤ 9223372036854775807 := by rw [one_byte, bA_app, bA_size, bA_size]; simp only [List.length_append, List.length_cons, List.length_nil]; omega
            have hz4 : (bA (acc ++ ws) ++ (⟨#[32]⟩ : ByteArray)).size + (bA f.text).size ≤ maxLen := hz3
            have HE := Lib.hid (show bA (acc ++ ws) ++ (⟨#[32]⟩ : ByteArray) ++ bA f.text = bA (acc ++ (ws ++ ([32] ++ f.text))) by rw [one_byte, bA_app, bA_app]; simp only [List.append_assoc])
            generalize bA (acc ++ ws) = sx at *
            generalize bA f.text = sy at *
            go_wp2
            go_roundg g2
            case rel => exact ⟨j + 1, by omega, by rw [HT.out, ← HE.out], by push_cast; rfl, by first | rfl | trivial⟩
            case measure => omega
theorem okB_eq (c : UInt8) : okB c = (c == 9 || (c == 10 || (c == 13 || (decide (32 ≤ (c.toNat : Int)) && decide ((c.toNat : Int) ≤ 126))))) := by
  have e1 : decide (32 ≤ c.toNat) = decide ((32 : Int) ≤ (c.toNat : Int)) := decide_eq_decide.2 (by omega)
  have e2 : decide (c.toNat ≤ 126) = decide ((c.toNat : Int) ≤ 126) := decide_eq_decide.2 (by omega)
  have e3 : (c == 32) = true → decide (32 ≤ (c.toNat : Int)) = true ∧ decide ((c.toNat : Int) ≤ 126) = true := fun h => by
    obtain rfl : c = 32 := by simpa using h
    exact ⟨by decide, by decide⟩
  unfold okB blankB
  rw [e1, e2]
  cases h1 : (c == 9) <;> cases h2 : (c == 10) <;> cases h3 : (c == 13) <;> cases h4 : (c == 32)
  all_goals (try simp)
  all_goals (have := e3 h4; simp_all)
end Go.Proofs.YtgmgeefipkfdcaaDoor
