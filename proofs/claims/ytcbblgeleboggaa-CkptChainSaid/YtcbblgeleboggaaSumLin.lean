
/- The sum is linear: plain mathematics. -/
import Derived.Test.YtcbblgeleboggaaSumMore
namespace Go.Proofs.Ytcbblgeleboggaa
open Go.RowKit
set_option linter.unusedVariables false

theorem stN_xor (k : Nat) {u v : Nat} (hu : u < 4294967296) (hv : v < 4294967296) : stN k (u ^^^ v) = stN k u ^^^ stN k v := by
  induction k with
  | zero => rfl
  | succ k ih => show st1 (stN k (u ^^^ v)) = st1 (stN k u) ^^^ st1 (stN k v); rw [ih, st1_xor]
/-- The first k elements, noughts behind the end. -/
def padT (l : List Int) (k : Nat) : List Int := (List.range k).map (el l)
theorem padT_len (l : List Int) (k : Nat) : (padT l k).length = k := by simp [padT]
theorem padT_snoc (l : List Int) (k : Nat) : padT l (k + 1) = padT l k ++ [el l k] := by simp [padT, List.range_succ]
theorem padT_all (l : List Int) : padT l l.length = l := by
  apply List.ext_getElem
  · simp [padT]
  · intro i h1 h2; simp [padT, el, h2]
theorem el_bd {l : List Int} (h : Bytes l) (i : Nat) : 0 ≤ el l i ∧ el l i ≤ 255 := by
  by_cases hi : i < l.length
  · exact h _ (el_mem hi)
  · unfold el; rw [List.getD_eq_getElem?_getD, List.getElem?_eq_none (by omega)]; simp
theorem el_out {l : List Int} {i : Nat} (hi : ¬ i < l.length) : el l i = 0 := by
  unfold el; rw [List.getD_eq_getElem?_getD, List.getElem?_eq_none (by omega)]; rfl
theorem padT_bytes {l : List Int} (h : Bytes l) (k : Nat) : Bytes (padT l k) := fun c hc => by
  obtain ⟨i, _, rfl⟩ := List.mem_map.1 hc
  exact el_bd h i
def mixT (a b c : List Int) (k : Nat) : List Int := (List.range k).map fun i => bits .xor .u8 (bits .xor .u8 (el a i) (el b i)) (el c i)
theorem mixT_len (a b c : List Int) (k : Nat) : (mixT a b c k).length = k := by simp [mixT]
theorem mixT_snoc (a b c : List Int) (k : Nat) : mixT a b c (k + 1) = mixT a b c k ++ [bits .xor .u8 (bits .xor .u8 (el a k) (el b k)) (el c k)] := by simp [mixT, List.range_succ]
theorem mixT_bytes (a b c : List Int) (k : Nat) : Bytes (mixT a b c k) := fun x hx => by
  obtain ⟨i, _, rfl⟩ := List.mem_map.1 hx
  exact xor8_bd _ _
theorem crcL_snoc (w : Nat) (l : List Int) (c : Int) : crcL w (l ++ [c]) = stN 8 (crcL w l ^^^ c.toNat) := by rw [crcL_append]; rfl
theorem crc_mix {a b c : List Int} (ha : Bytes a) (hb : Bytes b) (hc : Bytes c) (w1 w2 w3 : Nat) (h1 : w1 < 4294967296) (h2 : w2 < 4294967296) (h3 : w3 < 4294967296) (k : Nat) :
    crcL (w1 ^^^ w2 ^^^ w3) (mixT a b c k) = crcL w1 (padT a k) ^^^ crcL w2 (padT b k) ^^^ crcL w3 (padT c k) := by
  induction k with
  | zero => rfl
  | succ k ih =>
    rw [mixT_snoc, padT_snoc, padT_snoc, padT_snoc, crcL_snoc, crcL_snoc, crcL_snoc, crcL_snoc, ih]
    have q1 := crcL_lt _ w1 h1 (padT_bytes ha k)
    have q2 := crcL_lt _ w2 h2 (padT_bytes hb k)
    have q3 := crcL_lt _ w3 h3 (padT_bytes hc k)
    have b1 := el_bd ha k
    have b2 := el_bd hb k
    have b3 := el_bd hc k
    obtain ⟨x, ex⟩ : ∃ x : Nat, el a k = x := ⟨(el a k).toNat, by omega⟩
    obtain ⟨y, ey⟩ : ∃ x : Nat, el b k = x := ⟨(el b k).toNat, by omega⟩
    obtain ⟨z, ez⟩ : ∃ x : Nat, el c k = x := ⟨(el c k).toNat, by omega⟩
    rw [ex, ey, ez, xor8 x y (by omega) (by omega), xor8 (x ^^^ y) z (by have : x ^^^ y < 2 ^ 8 := Nat.xor_lt_two_pow (by omega) (by omega); omega) (by omega)]
    simp only [Int.toNat_natCast]
    generalize crcL w1 (padT a k) = u1 at *
    generalize crcL w2 (padT b k) = u2 at *
    generalize crcL w3 (padT c k) = u3 at *
    have e : u1 ^^^ u2 ^^^ u3 ^^^ (x ^^^ y ^^^ z) = (u1 ^^^ x) ^^^ (u2 ^^^ y) ^^^ (u3 ^^^ z) := by
      apply Nat.eq_of_testBit_eq; intro i; simp only [Nat.testBit_xor]
      cases u1.testBit i <;> cases u2.testBit i <;> cases u3.testBit i <;> cases x.testBit i <;> cases y.testBit i <;> cases z.testBit i <;> rfl
    rw [e, stN_xor 8 (xor32_lt (xor32_lt q1 (by omega)) (xor32_lt q2 (by omega))) (xor32_lt q3 (by omega)), stN_xor 8 (xor32_lt q1 (by omega)) (xor32_lt q2 (by omega))]
theorem sum_mix {a b c : List Int} (ha : Bytes a) (hb : Bytes b) (hc : Bytes c) (k : Nat) : sumOf (mixT a b c k) = sumOf (padT a k) ^^^ sumOf (padT b k) ^^^ sumOf (padT c k) := by
  have h := crc_mix ha hb hc 4294967295 4294967295 4294967295 (by omega) (by omega) (by omega) k
  rw [show 4294967295 ^^^ 4294967295 ^^^ 4294967295 = 4294967295 by decide] at h
  unfold sumOf
  rw [h]
  apply Nat.eq_of_testBit_eq; intro i; simp only [Nat.testBit_xor]
  generalize (crcL 4294967295 (padT a k)).testBit i = p
  generalize (crcL 4294967295 (padT b k)).testBit i = q
  generalize (crcL 4294967295 (padT c k)).testBit i = r
  generalize (4294967295 : Nat).testBit i = s
  cases p <;> cases q <;> cases r <;> cases s <;> rfl
end Go.Proofs.Ytcbblgeleboggaa
