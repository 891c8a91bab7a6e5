
/- What is cut is put as it stood. -/
import Derived.Test.YtpmkhimmlpnbpaaPodBackMath
import Derived.Test.YtpmkhimmlpnbpaaPodCutMath
namespace Go.Proofs.Ytpmkhimmlpnbpaa
open Go.RowKit
set_option linter.unusedVariables false
set_option linter.unusedSimpArgs false

theorem sbl_strOf {l : List Int} (h : Bytes l) : sbl (strOfNums l) = l := by
  unfold sbl strOfNums
  simp only [List.map_map, List.toList_toArray]
  conv => rhs; rw [← List.map_id l]
  refine List.map_congr_left (fun x hx => ?_)
  have := h x hx
  simp
  omega
theorem nameF_inv {l x r : List Int} (hb : Bytes l) (h : nameF l = some (x, r)) : l = [(x.length : Int)] ++ (x ++ r) := by
  match l, h with
  | c :: q, h =>
    unfold nameF at h
    simp only at h
    have hc := hb c List.mem_cons_self
    by_cases hl : q.length < c.toNat
    · rw [if_pos hl] at h; cases h
    · rw [if_neg hl] at h
      simp at h
      obtain ⟨rfl, rfl⟩ := h
      rw [List.take_append_drop, List.length_take, show min c.toNat q.length = c.toNat by omega, Int.toNat_of_nonneg hc.1]
      rfl
theorem W8_N8 {l : List Int} (hb : Bytes l) (hl : l.length = 8) : W8 (N8 l) = l := by
  match l, hl with
  | [a, b, c, d, e, f, g, i], _ =>
    have h1 := hb a (by simp); have h2 := hb b (by simp); have h3 := hb c (by simp); have h4 := hb d (by simp)
    have h5 := hb e (by simp); have h6 := hb f (by simp); have h7 := hb g (by simp); have h8 := hb i (by simp)
    unfold W8 N8
    rw [show List.range 8 = [0, 1, 2, 3, 4, 5, 6, 7] from rfl]
    simp only [List.foldl_cons, List.foldl_nil, List.map_cons, List.map_nil]
    simp only [Nat.mul_zero, Nat.sub_zero, Nat.mul_one, show 56 - 8 = 48 from rfl, show 56 - 8 * 2 = 40 from rfl, show 56 - 8 * 3 = 32 from rfl, show 56 - 8 * 4 = 24 from rfl, show 56 - 8 * 5 = 16 from rfl, show 56 - 8 * 6 = 8 from rfl, show 56 - 8 * 7 = 0 from rfl,
      show (2 : Nat) ^ 56 = 72057594037927936 from rfl, show (2 : Nat) ^ 48 = 281474976710656 from rfl, show (2 : Nat) ^ 40 = 1099511627776 from rfl, show (2 : Nat) ^ 32 = 4294967296 from rfl, show (2 : Nat) ^ 24 = 16777216 from rfl, show (2 : Nat) ^ 16 = 65536 from rfl, show (2 : Nat) ^ 8 = 256 from rfl, show (2 : Nat) ^ 0 = 1 from rfl]
    obtain ⟨a, rfl⟩ := Int.eq_ofNat_of_zero_le h1.1
    obtain ⟨b, rfl⟩ := Int.eq_ofNat_of_zero_le h2.1
    obtain ⟨c, rfl⟩ := Int.eq_ofNat_of_zero_le h3.1
    obtain ⟨d, rfl⟩ := Int.eq_ofNat_of_zero_le h4.1
    obtain ⟨e, rfl⟩ := Int.eq_ofNat_of_zero_le h5.1
    obtain ⟨f, rfl⟩ := Int.eq_ofNat_of_zero_le h6.1
    obtain ⟨g, rfl⟩ := Int.eq_ofNat_of_zero_le h7.1
    obtain ⟨i, rfl⟩ := Int.eq_ofNat_of_zero_le h8.1
    simp only [Int.toNat_natCast]
    clear hb
    congr 1; · omega
    congr 1; · omega
    congr 1; · omega
    congr 1; · omega
    congr 1; · omega
    congr 1; · omega
    congr 1; · omega
    congr 1; omega
theorem numF_inv {l r : List Int} {n : Nat} (hb : Bytes l) (h : numF l = some (n, r)) : l = W8 n ++ r := by
  unfold numF at h
  by_cases h8 : l.length < 8
  · rw [if_pos h8] at h; cases h
  · rw [if_neg h8] at h
    split at h
    · simp at h
      obtain ⟨rfl, rfl⟩ := h
      rw [W8_N8 (hb.take 8) (by rw [List.length_take]; omega), List.take_append_drop]
    · cases h
theorem numsF_inv : ∀ {k : Nat} {l ns r : List Int}, Bytes l → numsF k l = some (ns, r) → l = (ns.map Int.toNat).flatMap W8 ++ r
  | 0, l, ns, r, hb, h => by simp [numsF] at h; obtain ⟨rfl, rfl⟩ := h; rfl
  | k + 1, l, ns, r, hb, h => by
    simp only [numsF] at h
    cases h1 : numsF k l with
    | none => rw [h1] at h; simp at h
    | some z =>
      obtain ⟨ms, q⟩ := z
      rw [h1] at h
      simp only at h
      have e1 := numsF_inv hb h1
      have hq : Bytes q := fun c hc => hb c (by rw [e1]; exact List.mem_append_right _ hc)
      cases h2 : numF q with
      | none => rw [h2] at h; simp at h
      | some z =>
        obtain ⟨n, q2⟩ := z
        rw [h2] at h
        simp at h
        obtain ⟨rfl, rfl⟩ := h
        have e2 := numF_inv hq h2
        rw [List.map_append, List.flatMap_append, List.append_assoc]
        simp only [List.map_cons, List.map_nil, List.flatMap_cons, List.flatMap_nil, List.append_nil, Int.toNat_natCast]
        rw [← e2]
        exact e1
theorem list8 {l : List Int} (h : l.length = 8) : ∃ a b c d e f g i, l = [a, b, c, d, e, f, g, i] := by
  match l, h with | [a, b, c, d, e, f, g, i], _ => exact ⟨a, b, c, d, e, f, g, i, rfl⟩
theorem cutF_inv {l r : List Int} {p : PodV} (hb : Bytes l) (h : cutF l = some (p, r)) : l = p.bytes ++ r := by
  unfold cutF at h
  cases h1 : nameF l with
  | none => rw [h1] at h; simp at h
  | some z =>
    obtain ⟨x, r1⟩ := z
    rw [h1] at h
    simp only at h
    have e1 := nameF_inv hb h1
    have hb1 : Bytes (x ++ r1) := fun c hc => hb c (by rw [e1]; exact List.mem_append_right _ hc)
    have hx : Bytes x := fun c hc => hb1 c (List.mem_append_left _ hc)
    have hr1 : Bytes r1 := fun c hc => hb1 c (List.mem_append_right _ hc)
    cases h2 : nameF r1 with
    | none => rw [h2] at h; simp at h
    | some z =>
      obtain ⟨y, r2⟩ := z
      rw [h2] at h
      simp only at h
      have e2 := nameF_inv hr1 h2
      have hb2 : Bytes (y ++ r2) := fun c hc => hr1 c (by rw [e2]; exact List.mem_append_right _ hc)
      have hy : Bytes y := fun c hc => hb2 c (List.mem_append_left _ hc)
      have hr2 : Bytes r2 := fun c hc => hb2 c (List.mem_append_right _ hc)
      cases h3 : numsF 8 r2 with
      | none => rw [h3] at h; simp at h
      | some z =>
        obtain ⟨ns, r3⟩ := z
        rw [h3] at h
        simp only at h
        have e3 := numsF_inv hr2 h3
        have h8 := numsF_len h3
        cases r3 with
        | nil => simp at h
        | cons c r4 =>
          simp only at h
          by_cases hc : c ≤ 1
          · rw [if_pos hc] at h
            simp at h
            obtain ⟨rfl, rfl⟩ := h
            have hc0 : 0 ≤ c := (hr2 c (by rw [e3]; exact List.mem_append_right _ List.mem_cons_self)).1
            obtain ⟨n0, n1, n2, n3, n4, n5, n6, n7, rfl⟩ := list8 h8
            rw [e1, e2, e3]
            have ec : (if (c == 1) = true then (1 : Int) else 0) = c := by
              rcases (show c = 0 ∨ c = 1 by omega) with rfl | rfl <;> rfl
            unfold PodV.bytes PodV.head PodV.nums mkPod
            dsimp only
            rw [sbl_strOf hx, sbl_strOf hy, size_strOf, size_strOf, ec]
            simp only [el, List.getD_cons_zero, List.getD_cons_succ, List.map_cons, List.map_nil, List.append_assoc]
            rw [show n0 - 1073741824 + 1073741824 = n0 by omega]
            rfl
          · rw [if_neg hc] at h; cases h
end Go.Proofs.Ytpmkhimmlpnbpaa
