
/- bilgeref12.Cut's reading is pod.Cut's. -/
import Derived.Test.YtpmkhimmlpnbpaaPodNumRef
import Derived.Test.YtpmkhimmlpnbpaaPodCut
namespace Go.Proofs.Ytpmkhimmlpnbpaa
open Go.RowKit
set_option linter.unusedVariables false
set_option linter.unusedSimpArgs false

/-- The number that stands at place 8 i. -/
def nAt (l : List Int) (i : Nat) : List Int := (l.drop (8 * i)).take 8
theorem numsF_some (l : List Int) : ∀ k, 8 * k ≤ l.length → (∀ i, i < k → N8 (nAt l i) < 9223372036854775808) → numsF k l = some ((List.range k).map (fun i => ((N8 (nAt l i) : Nat) : Int)), l.drop (8 * k))
  | 0, _, _ => by simp [numsF]
  | k + 1, h, hn => by
    have ih := numsF_some l k (by omega) (fun i hi => hn i (by omega))
    have h2 : numF (l.drop (8 * k)) = some (N8 (nAt l k), l.drop (8 * (k + 1))) := by
      unfold numF
      rw [if_neg (by rw [List.length_drop]; omega), if_pos (show N8 (List.take 8 (List.drop (8 * k) l)) < 9223372036854775808 from hn k (by omega)), List.drop_drop]
      rfl
    simp only [numsF, ih, h2, List.range_succ, List.map_append, List.map_cons, List.map_nil]
theorem numsF_no (l : List Int) : ∀ k, ¬(8 * k ≤ l.length ∧ ∀ i, i < k → N8 (nAt l i) < 9223372036854775808) → numsF k l = none
  | 0, h => absurd ⟨by omega, fun i hi => by omega⟩ h
  | k + 1, h => by
    by_cases hk : 8 * k ≤ l.length ∧ ∀ i, i < k → N8 (nAt l i) < 9223372036854775808
    · have ih := numsF_some l k hk.1 hk.2
      have h2 : numF (l.drop (8 * k)) = none := by
        unfold numF
        by_cases h8 : (l.drop (8 * k)).length < 8
        · rw [if_pos h8]
        · rw [if_neg h8, if_neg]
          intro hlt
          rw [List.length_drop] at h8
          exact h ⟨by omega, fun i hi => by
            rcases Nat.lt_or_ge i k with q | q
            · exact hk.2 i q
            · obtain rfl : i = k := by omega
              exact hlt⟩
      simp only [numsF, ih, h2]
    · simp only [numsF, numsF_no l k hk]
/-- The reference's reading of a pod: the pod, and how many bytes it has. -/
def rpod (l : List Int) (a b : Nat) : PodV :=
  ⟨strOfNums ((l.drop 1).take a), rnum (nAt (l.drop (2 + a + b)) 0) - 1073741824, el l (2 + a + b + 64) == 1, rnum (nAt (l.drop (2 + a + b)) 2), rnum (nAt (l.drop (2 + a + b)) 3), rnum (nAt (l.drop (2 + a + b)) 4), rnum (nAt (l.drop (2 + a + b)) 5), rnum (nAt (l.drop (2 + a + b)) 6), rnum (nAt (l.drop (2 + a + b)) 7), strOfNums ((l.drop (2 + a)).take b), rnum (nAt (l.drop (2 + a + b)) 1)⟩
def rfin (l : List Int) (a b : Nat) : Option (PodV × Nat) :=
  if rnum (nAt (l.drop (2 + a + b)) 0) < 0 ∨ 2147483648 < rnum (nAt (l.drop (2 + a + b)) 0) ∨ 1 < el l (2 + a + b + 64) then none
  else if rightB (rpod l a b) = true then some (rpod l a b, 2 + a + b + 65) else none
def rcut (l : List Int) : Option (PodV × Nat) :=
  if l.length < 1 ∨ l.length < (el l 0).toNat + 2 then none
  else if l.length < 2 + (el l 0).toNat + (el l (1 + (el l 0).toNat)).toNat + 65 then none
  else rfin l (el l 0).toNat (el l (1 + (el l 0).toNat)).toNat
def cutR (l : List Int) : Option (PodV × Nat) := (cutF l).bind fun x => if rightB x.1 = true then some (x.1, l.length - x.2.length) else none
theorem el_drop (l : List Int) (n i : Nat) : el (l.drop n) i = el l (n + i) := by
  unfold el; rw [List.getD_eq_getElem?_getD, List.getD_eq_getElem?_getD, List.getElem?_drop]
theorem el_range (f : Nat → Int) {n i : Nat} (h : i < n) : el ((List.range n).map f) i = f i := by
  unfold el; rw [List.getD_eq_getElem?_getD, List.getElem?_map, List.getElem?_range h]; rfl
theorem nAt_len {l : List Int} {i : Nat} (h : 8 * i + 8 ≤ l.length) : (nAt l i).length = 8 := by
  unfold nAt; rw [List.length_take, List.length_drop]; omega
theorem nAt_B {l : List Int} (h : Bytes l) (i : Nat) : Bytes (nAt l i) := (h.drop _).take _
theorem rnum_at {l : List Int} (h : Bytes l) {i : Nat} (hi : 8 * i + 8 ≤ l.length) : rnum (nAt l i) = if N8 (nAt l i) < 9223372036854775808 then (N8 (nAt l i) : Int) else -1 := rnum_eq (nAt_B h i) (nAt_len hi)
/-- What stands behind the two names. -/
theorem rfin_eq {l R x y : List Int} {a b : Nat} (hb : Bytes l) (hR : l.drop (2 + a + b) = R) (hl : 65 ≤ R.length) (hll : l.length = 2 + a + b + R.length) (hx : (l.drop 1).take a = x) (hy : (l.drop (2 + a)).take b = y) :
    rfin l a b = (match numsF 8 R with | none => none | some (ns, r3) => match r3 with | [] => none | c :: r4 => if c ≤ 1 then some (mkPod x y ns (c == 1), r4) else none : Option (PodV × List Int)).bind fun x => if rightB x.1 = true then some (x.1, l.length - x.2.length) else none := by
  have hRb : Bytes R := by rw [← hR]; exact hb.drop _
  obtain ⟨e, r4, he⟩ : ∃ e r4, R.drop 64 = e :: r4 := by
    cases h : R.drop 64 with
    | nil => have := congrArg List.length h; rw [List.length_drop] at this; simp at this; omega
    | cons e r4 => exact ⟨e, r4, rfl⟩
  have hel : el l (2 + a + b + 64) = e := by
    rw [← el_drop, hR]
    have h1 := el_drop R 64 0
    rw [he] at h1
    rw [Nat.add_zero] at h1
    rw [← h1]; rfl
  have hr4 : R.length = 65 + r4.length := by have := congrArg List.length he; rw [List.length_drop] at this; simp at this; omega
  have hz : ∀ i, i < 8 → rnum (nAt R i) = if N8 (nAt R i) < 9223372036854775808 then (N8 (nAt R i) : Int) else -1 := fun i hi => rnum_at hRb (by omega)
  unfold rfin rpod
  rw [hR, hel, hx, hy]
  by_cases h5 : ∀ i, i < 8 → N8 (nAt R i) < 9223372036854775808
  · rw [numsF_some R 8 (by omega) h5]
    have hz2 : ∀ i, i < 8 → rnum (nAt R i) = (N8 (nAt R i) : Int) := fun i hi => by rw [hz i hi, if_pos (h5 i hi)]
    have he2 : R.drop (8 * 8) = e :: r4 := he
    rw [he2]
    unfold mkPod
    simp only [el_range _ (show 0 < 8 by omega), el_range _ (show 1 < 8 by omega), el_range _ (show 2 < 8 by omega), el_range _ (show 3 < 8 by omega), el_range _ (show 4 < 8 by omega), el_range _ (show 5 < 8 by omega), el_range _ (show 6 < 8 by omega), el_range _ (show 7 < 8 by omega)]
    rw [hz2 0 (by omega), hz2 1 (by omega), hz2 2 (by omega), hz2 3 (by omega), hz2 4 (by omega), hz2 5 (by omega), hz2 6 (by omega), hz2 7 (by omega)]
    by_cases h1 : 1 < e
    · rw [if_pos (.inr (.inr h1)), if_neg (show ¬ e ≤ 1 by omega)]; rfl
    · rw [if_pos (show e ≤ 1 by omega)]
      simp only [Option.bind_some]
      rw [show l.length - r4.length = 2 + a + b + 65 by omega]
      by_cases h31 : 2147483648 < (N8 (nAt R 0) : Int)
      · rw [if_pos (.inr (.inl h31)), if_neg]
        intro hr
        have := (PodV.fine hr).prio
        dsimp only at this
        omega
      · rw [if_neg (by omega)]
  · rw [numsF_no R 8 (fun h => h5 h.2)]
    simp only [Option.bind_none]
    by_cases h0 : rnum (nAt R 0) < 0 ∨ 2147483648 < rnum (nAt R 0) ∨ 1 < e
    · rw [if_pos h0]
    · rw [if_neg h0, if_neg]
      intro hr
      have hf := PodV.fine hr
      have f1 := hf.size
      have f2 := hf.r0
      have f3 := hf.r1
      have f4 := hf.r2
      have f5 := hf.l0
      have f6 := hf.l1
      have f7 := hf.l2
      dsimp only at f1 f2 f3 f4 f5 f6 f7
      refine h5 fun i hi => ?_
      by_cases hn : N8 (nAt R i) < 9223372036854775808
      · exact hn
      · exfalso
        have h := hz i hi
        rw [if_neg hn] at h
        match i, hi with
        | 0, _ => omega
        | 1, _ => omega
        | 2, _ => omega
        | 3, _ => omega
        | 4, _ => omega
        | 5, _ => omega
        | 6, _ => omega
        | 7, _ => omega
theorem rcut_eq (l : List Int) (hb : Bytes l) : rcut l = cutR l := by
  unfold rcut cutR
  match l, hb with
  | [], _ => rfl
  | c :: r, hb =>
    have e0 : el (c :: r) 0 = c := rfl
    rw [e0]
    obtain ⟨a, ha⟩ : ∃ a, c.toNat = a := ⟨_, rfl⟩
    rw [ha]
    simp only [List.length_cons]
    by_cases h1 : r.length < a
    · rw [if_pos (by omega)]
      unfold cutF nameF
      simp only [ha, if_pos h1]
      rfl
    · have hn1 : nameF (c :: r) = some (r.take a, r.drop a) := by unfold nameF; show (if r.length < c.toNat then _ else _) = _; rw [ha, if_neg h1]
      cases h2 : r.drop a with
      | nil =>
        have := congrArg List.length h2
        rw [List.length_drop] at this
        simp at this
        rw [if_pos (by omega)]
        unfold cutF
        rw [hn1, h2]
        rfl
      | cons d r2 =>
        have hlr : r.length = a + 1 + r2.length := by have := congrArg List.length h2; rw [List.length_drop] at this; simp at this; omega
        have e1 : el (c :: r) (1 + a) = d := by
          rw [← el_drop]
          have h := el_drop r a 0
          rw [h2, Nat.add_zero] at h
          show el r a = d
          rw [← h]; rfl
        rw [e1]
        obtain ⟨b, hbb⟩ : ∃ b, d.toNat = b := ⟨_, rfl⟩
        rw [hbb, if_neg (by omega)]
        by_cases h3 : r2.length < b
        · rw [if_pos (by omega)]
          unfold cutF
          rw [hn1, h2]
          unfold nameF
          simp only [hbb, if_pos h3]
          rfl
        · have hn2 : nameF (d :: r2) = some (r2.take b, r2.drop b) := by unfold nameF; show (if r2.length < d.toNat then _ else _) = _; rw [hbb, if_neg h3]
          have hd2 : (c :: r).drop (2 + a) = r2 := by
            rw [show 2 + a = (1 + a) + 1 by omega, List.drop_succ_cons, Nat.add_comm 1 a, ← List.drop_drop, h2]; rfl
          have hR : (c :: r).drop (2 + a + b) = r2.drop b := by rw [← List.drop_drop, hd2]
          have hRl : (r2.drop b).length = r2.length - b := List.length_drop
          by_cases h4 : (r2.drop b).length < 65
          · rw [if_pos (by omega)]
            unfold cutF
            rw [hn1, h2]
            simp only [hn2]
            by_cases h5 : 8 * 8 ≤ (r2.drop b).length ∧ ∀ i, i < 8 → N8 (nAt (r2.drop b) i) < 9223372036854775808
            · rw [numsF_some _ 8 h5.1 h5.2]
              have : (r2.drop b).drop (8 * 8) = [] := List.drop_of_length_le (by omega)
              rw [this]
              rfl
            · rw [numsF_no _ 8 h5]
              rfl
          · rw [if_neg (by omega), rfin_eq (R := r2.drop b) (x := r.take a) (y := r2.take b) hb hR (by omega) (by simp only [List.length_cons]; omega) rfl (by rw [hd2])]
            unfold cutF
            rw [hn1, h2]
            simp only [hn2, List.length_cons]
            rfl
end Go.Proofs.Ytpmkhimmlpnbpaa
