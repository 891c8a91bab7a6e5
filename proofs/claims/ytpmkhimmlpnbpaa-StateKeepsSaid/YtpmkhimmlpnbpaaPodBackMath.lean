
/- What is put is cut as it was: plain mathematics. -/
import Derived.Test.YtpmkhimmlpnbpaaPodCutTop
namespace Go.Proofs.Ytpmkhimmlpnbpaa
open Go.RowKit
set_option linter.unusedVariables false
set_option linter.unusedSimpArgs false

theorem strOf_sbl (s : ByteArray) : strOfNums (sbl s) = s := by
  cases s with
  | mk d =>
    unfold strOfNums sbl
    have e : ((fun n : Int => UInt8.ofNat n.toNat) ∘ fun b : UInt8 => (b.toNat : Int)) = id := by funext b; simp
    simp [e]
theorem nameF_put (s : ByteArray) (r : List Int) : nameF ([(s.size : Int)] ++ (sbl s ++ r)) = some (sbl s, r) := by
  show nameF ((s.size : Int) :: (sbl s ++ r)) = _
  simp only [nameF, Int.toNat_natCast]
  rw [if_neg (by rw [List.length_append, sbl_len]; omega), List.take_left' (sbl_len s), List.drop_left' (sbl_len s)]
theorem numF_put (n : Nat) (r : List Int) (h : n < 9223372036854775808) : numF (W8 n ++ r) = some (n, r) := by
  unfold numF
  rw [if_neg (by rw [List.length_append, W8_len]; omega), List.take_left' (W8_len n), List.drop_left' (W8_len n), N8_W8 (by omega), if_pos h]
theorem numsF_put (r : List Int) : ∀ (k : Nat) (ns : List Nat), k ≤ ns.length → (∀ n ∈ ns, n < 9223372036854775808) → numsF k (ns.flatMap W8 ++ r) = some ((ns.take k).map (fun n : Nat => (n : Int)), (ns.drop k).flatMap W8 ++ r)
  | 0, ns, _, _ => by simp [numsF]
  | k + 1, ns, hk, hb => by
    have hi := numsF_put r k ns (by omega) hb
    have e : ns.drop k = ns[k] :: ns.drop (k + 1) := List.drop_eq_getElem_cons (by omega)
    simp only [numsF, hi]
    rw [e, List.flatMap_cons, List.append_assoc, numF_put _ _ (hb _ (List.getElem_mem (by omega)))]
    simp only
    rw [List.take_succ_eq_append_getElem (by omega), List.map_append]
    rfl
theorem nums_bd {p : PodV} (hp : p.ok) (h : p.Fine) : ∀ n ∈ p.nums, n < 9223372036854775808 := by
  obtain ⟨_, _, b0, b1, b2, b3, b4, b5, b6, b7⟩ := hp
  unfold InI at *
  have h0 := h.prio
  intro n hn
  simp [PodV.nums] at hn
  omega
theorem mkPod_put {p : PodV} (hp : p.ok) (h : p.Fine) : mkPod (sbl p.id) (sbl p.img) (p.nums.map fun n : Nat => (n : Int)) p.crit = p := by
  have h0 := h.prio
  have h1 := h.size
  have h2 := h.r0
  have h3 := h.r1
  have h4 := h.r2
  have h5 := h.l0
  have h6 := h.l1
  have h7 := h.l2
  cases p with
  | mk id prio crit r0 r1 r2 l0 l1 l2 img size =>
    unfold mkPod
    simp only [strOf_sbl, PodV.nums, List.map_cons, List.map_nil, el, PodV.mk.injEq] at *
    simp
    omega
theorem cutF_put {p : PodV} (hp : p.ok) (h : p.Fine) (m : List Int) : cutF (p.bytes ++ m) = some (p, m) := by
  have e : p.bytes ++ m = [(p.id.size : Int)] ++ (sbl p.id ++ ([(p.img.size : Int)] ++ (sbl p.img ++ (p.nums.flatMap W8 ++ ([if p.crit then 1 else 0] ++ m))))) := by
    unfold PodV.bytes PodV.head; simp only [List.append_assoc]
  unfold cutF
  rw [e, nameF_put]
  simp only
  rw [nameF_put]
  simp only
  rw [numsF_put _ 8 p.nums (Nat.le_refl 8) (nums_bd hp h)]
  have e8 : p.nums.take 8 = p.nums := rfl
  have e9 : p.nums.drop 8 = [] := rfl
  simp only [e8, e9, List.flatMap_nil, List.nil_append]
  have hm := mkPod_put hp h
  cases hc : p.crit with
  | true =>
    rw [hc] at hm
    simp only [if_true, List.cons_append, List.nil_append]
    rw [if_pos (by omega)]
    rw [show ((1 : Int) == 1) = true from rfl, hm]
  | false =>
    rw [hc] at hm
    simp only [Bool.false_eq_true, if_false, List.cons_append, List.nil_append]
    rw [if_pos (by omega)]
    rw [show ((0 : Int) == 1) = false from rfl, hm]
theorem nameF_app {l x r : List Int} (h : nameF l = some (x, r)) (m : List Int) : nameF (l ++ m) = some (x, r ++ m) := by
  cases l with
  | nil => cases h
  | cons c q =>
    simp only [nameF, List.cons_append] at h ⊢
    split at h
    · cases h
    · rename_i hc
      simp at h
      rw [if_neg (by rw [List.length_append]; omega), ← h.1, ← h.2, List.take_append_of_le_length (by omega), List.drop_append_of_le_length (by omega)]
theorem numF_app {l r : List Int} {n : Nat} (h : numF l = some (n, r)) (m : List Int) : numF (l ++ m) = some (n, r ++ m) := by
  unfold numF at h ⊢
  split at h
  · cases h
  · rename_i hc
    rw [if_neg (by rw [List.length_append]; omega), List.take_append_of_le_length (by omega), List.drop_append_of_le_length (by omega)]
    split at h
    · rename_i h2
      simp at h
      rw [if_pos h2, h.1, h.2]
    · cases h
theorem numsF_app {l : List Int} (m : List Int) : ∀ {k : Nat} {ns r : List Int}, numsF k l = some (ns, r) → numsF k (l ++ m) = some (ns, r ++ m)
  | 0, ns, r, h => by simp [numsF] at h ⊢; exact ⟨h.1, by rw [h.2]⟩
  | k + 1, ns, r, h => by
    simp only [numsF] at h ⊢
    cases h1 : numsF k l with
    | none => rw [h1] at h; simp at h
    | some z =>
      obtain ⟨ms, q⟩ := z
      rw [h1] at h
      rw [numsF_app m h1]
      simp only at h ⊢
      cases h2 : numF q with
      | none => rw [h2] at h; simp at h
      | some z =>
        obtain ⟨n, q2⟩ := z
        rw [h2] at h
        rw [numF_app h2 m]
        simp at h ⊢
        exact ⟨h.1, by rw [h.2]⟩
theorem cutF_app {l r : List Int} {p : PodV} (h : cutF l = some (p, r)) (m : List Int) : cutF (l ++ m) = some (p, r ++ m) := by
  unfold cutF at h ⊢
  cases h1 : nameF l with
  | none => rw [h1] at h; cases h
  | some q =>
    obtain ⟨x, r1⟩ := q
    rw [h1] at h
    rw [nameF_app h1 m]
    simp only at h ⊢
    cases h2 : nameF r1 with
    | none => rw [h2] at h; cases h
    | some q =>
      obtain ⟨y, r2⟩ := q
      rw [h2] at h
      rw [nameF_app h2 m]
      simp only at h ⊢
      cases h3 : numsF 8 r2 with
      | none => rw [h3] at h; cases h
      | some q =>
        obtain ⟨ns, r3⟩ := q
        rw [h3] at h
        rw [numsF_app m h3]
        simp only at h ⊢
        cases r3 with
        | nil => cases h
        | cons c r4 =>
          simp only [List.cons_append] at h ⊢
          split at h
          · rename_i hc
            simp at h
            rw [if_pos hc, h.1, h.2]
          · cases h
/-- No beginning of a pod's bytes has a pod. -/
theorem cutF_pre {p : PodV} (hp : p.ok) (h : p.Fine) {k : Nat} (hk : k < p.bytes.length) : cutF (p.bytes.take k) = none := by
  cases hc : cutF (p.bytes.take k) with
  | none => rfl
  | some q =>
    obtain ⟨q, r⟩ := q
    have h1 := cutF_app hc (p.bytes.drop k)
    rw [List.take_append_drop] at h1
    have h2 := cutF_put hp h []
    rw [List.append_nil, h1] at h2
    simp at h2
    have := h2.2.2
    omega
theorem bytes_inj {p q : PodV} (hp : p.ok) (hq : q.ok) (h : p.Fine) (k : q.Fine) {m : List Int} (e : p.bytes ++ m = q.bytes) : p = q := by
  have h1 := cutF_put hp h m
  have h2 := cutF_put hq k []
  rw [List.append_nil, ← e, h1] at h2
  simp at h2
  exact h2.1
end Go.Proofs.Ytpmkhimmlpnbpaa
