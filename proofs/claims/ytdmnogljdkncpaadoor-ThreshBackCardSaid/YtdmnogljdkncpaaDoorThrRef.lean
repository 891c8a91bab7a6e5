
/- bilgeref06.find, number: contracts. -/
import Derived.Test.YtdmnogljdkncpaaDoorThrTextMath
namespace Go.Proofs.YtdmnogljdkncpaaDoor
open Go.RowKit
set_option linter.unusedVariables false
set_option linter.unusedSimpArgs false

/-- The first place of a byte. -/
def fiI (c : UInt8) (l : List UInt8) : Int := if (cutC c l).2.2 then ((cutC c l).1.length : Int) else -1
theorem at_list (s : ByteArray) {k : Nat} (h : k < s.size) : s.toList = s.toList.take k ++ s[k] :: s.toList.drop (k + 1) := by
  have h2 : k < s.toList.length := by rw [sl_len]; exact h
  have e : s.toList[k] = s[k] := by simp only [sl]; rfl
  rw [← e, ← List.drop_eq_getElem_cons h2, List.take_append_drop]
theorem take_not (s : ByteArray) {k : Nat} (c : UInt8) (hk : k ≤ s.size) (h : ∀ j (hj : j < s.size), j < k → s[j] ≠ c) : c ∉ s.toList.take k := by
  intro hm
  obtain ⟨j, hj, e⟩ := List.mem_take_iff_getElem.1 hm
  rw [sl_len] at hj
  have e2 : s.toList[j]'(by rw [sl_len]; omega) = s[j]'(by omega) := by simp only [sl]; rfl
  exact h j (by omega) (by omega) (e2 ▸ e)
theorem fi_hit (s : ByteArray) {k : Nat} (c : UInt8) (h : k < s.size) (hc : s[k] = c) (hn : ∀ j (hj : j < s.size), j < k → s[j] ≠ c) : fiI c s.toList = k := by
  have e := at_list s h
  rw [hc] at e
  have e2 := cutC_app c (s.toList.drop (k + 1)) (s.toList.take k) (take_not s c (by omega) hn)
  rw [← e] at e2
  unfold fiI
  rw [e2]
  simp only [if_true, List.length_take, sl_len]
  omega
theorem fi_miss (s : ByteArray) (c : UInt8) (hn : ∀ j (hj : j < s.size), j < s.size → s[j] ≠ c) : fiI c s.toList = -1 := by
  have h := take_not s c (Nat.le_refl _) hn
  rw [List.take_of_length_le (by rw [sl_len]; omega)] at h
  unfold fiI
  rw [cutC_no c _ h]; rfl
theorem u8_ne {a c : UInt8} (h : a ≠ c) : (a.toNat : Int) ≠ (c.toNat : Int) := fun e => h (UInt8.toNat_inj.1 (by omega))
/-- The reference's number, by its loop. -/
theorem numR_end (l : List UInt8) (h1 : l.length ≠ 0) (h2 : l.length ≤ 4) (h3 : ¬ (l.head? = some 48 ∧ 1 < l.length)) (h4 : ∀ c ∈ l, isDg c = true) : numR l = (valN 0 l : Int) := by
  unfold numR
  rw [if_neg]
  rintro (q | q | q | q)
  · exact h1 q
  · omega
  · exact h3 q
  · rw [List.all_eq_true.2 h4] at q; cases q
theorem numR_bad (l : List UInt8) (h : l.length = 0 ∨ 4 < l.length ∨ (l.head? = some 48 ∧ 1 < l.length)) : numR l = -1 := by
  unfold numR
  rw [if_pos]
  rcases h with h | h | h
  · exact .inl h
  · exact .inr (.inl h)
  · exact .inr (.inr (.inl h))
theorem val_bd4 (l : List UInt8) (h : ∀ c ∈ l, isDg c = true) (h4 : l.length ≤ 4) : valN 0 l ≤ 9999 := by
  have := valN_bd l h
  have h2 : 10 ^ l.length ≤ 10 ^ 4 := Nat.pow_le_pow_right (by omega) h4
  omega
end Go.Proofs.YtdmnogljdkncpaaDoor
