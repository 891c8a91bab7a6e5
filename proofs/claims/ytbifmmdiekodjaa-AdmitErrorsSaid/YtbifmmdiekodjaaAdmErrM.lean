
/- The table of AdmitErrors: so many entries, each with an id of its own; what Decide tells of it. -/
import Derived.Test.YtbifmmdiekodjaaAdmLM
namespace Go.Proofs.Ytbifmmdiekodjaa
open Go.RowKit
set_option linter.unusedVariables false
set_option linter.unusedSimpArgs false
/-- The number i's id. -/
def idL (i : Nat) : List UInt8 := [110, UInt8.ofNat (97 + i / 26), UInt8.ofNat (97 + i % 26)]
def idE (i : Nat) : ByteArray := ⟨(idL i).toArray⟩
def entE (ph : Int) (i : Nat) : EntV := ⟨⟨idE i, 0, false, 0, 0, 0, 0, 0, 0, ⟨#[120]⟩, 0⟩, ph⟩
def tabE (ph : Int) (k : Nat) : List EntV := (List.range k).map (entE ph)
theorem tabE_len (ph : Int) (k : Nat) : (tabE ph k).length = k := by unfold tabE; simp
theorem tabE_next (ph : Int) (k : Nat) : tabE ph (k + 1) = tabE ph k ++ [entE ph k] := by
  unfold tabE; rw [List.range_succ, List.map_append]; rfl
theorem tabE_get (ph : Int) {k i : Nat} (h : i < k) : (tabE ph k)[i]? = some (entE ph i) := by
  unfold tabE; simp [h]
theorem tabE_take (ph : Int) {k i : Nat} (h : i ≤ k) : (tabE ph k).take i = tabE ph i := by
  unfold tabE
  rw [← List.map_take, List.take_range, Nat.min_eq_left h]
theorem tabE_ok (ph : Int) (hp : InI ph) (k : Nat) : ∀ x ∈ tabE ph k, x.ok := by
  intro x hx
  unfold tabE at hx
  obtain ⟨i, _, rfl⟩ := List.mem_map.1 hx
  have h1 : (idE i).size ≤ maxLen := by
    show (idL i).toArray.size ≤ maxLen
    unfold idL maxLen; simp
  refine ⟨?_, hp⟩
  have h2 : (⟨#[120]⟩ : ByteArray).size ≤ maxLen := by unfold maxLen; decide
  unfold PodV.ok InI
  simp only [entE]
  refine ⟨h1, ?_⟩
  repeat' (first | exact h2 | omega | constructor)
theorem idE_inj {i j : Nat} (hi : i < 65) (hj : j < 65) (h : idE i = idE j) : i = j := by
  have h0 : (idL i).toArray = (idL j).toArray := by
    have := congrArg ByteArray.data h
    exact this
  have h1 : idL i = idL j := by
    have := congrArg Array.toList h0
    simpa using this
  unfold idL at h1
  simp only [List.cons.injEq, and_true, true_and] at h1
  obtain ⟨a, b⟩ := h1
  have a2 := congrArg UInt8.toNat a
  have b2 := congrArg UInt8.toNat b
  simp only [UInt8.toNat_ofNat'] at a2 b2
  omega
theorem tabE_dist (ph : Int) {k : Nat} (hk : k ≤ 65) : Dist (podsOf (tabE ph k)) := by
  unfold Dist podsOf tabE
  rw [List.map_map, List.pairwise_map]
  refine List.Pairwise.imp_of_mem ?_ (List.nodup_range (n := k))
  intro i j hi hj hne e
  rw [List.mem_range] at hi hj
  exact hne (idE_inj (by omega) (by omega) e)
theorem idIn_E (ph : Int) {k i : Nat} (s : ByteArray) (h : i < k) : idIn ((tabE ph k).take (i + 1)) s = (idIn ((tabE ph k).take i) s || ((idE i).toList == s.toList)) := idIn_next (tabE_get ph h)
/-- The text that the law builds. -/
theorem id_built (i : Nat) (h : i < 65) : (⟨#[110]⟩ : ByteArray) ++ strOfNums [97 + (i : Int) / 26, 97 + (i : Int) % 26] = idE i := by
  have e1 : (97 + (i : Int) / 26) = ((97 + i / 26 : Nat) : Int) := by omega
  have e2 : (97 + (i : Int) % 26) = ((97 + i % 26 : Nat) : Int) := by omega
  rw [e1, e2]
  rfl
/-- What a table that lets a pod come in is told. -/
theorem dec_kind {R : Room} {T : List EntV} {O : On} {p : PodV} {k g : Int} {G : List ByteArray} {er : Int} (h : decideF R T O p = (⟨k, g, G⟩, er)) (h0 : refusedF T p = 0) : er = 0 ∧ 1 ≤ k ∧ k ≤ 4 := by
  unfold decideF at h
  rw [if_pos h0] at h
  cases hb : barredF O p with
  | some z =>
    rw [hb] at h
    simp only [Prod.mk.injEq, VerdV.mk.injEq] at h
    omega
  | none =>
    rw [hb] at h
    simp only [Prod.mk.injEq] at h
    obtain ⟨h1, h2⟩ := h
    unfold roomF at h1
    refine ⟨h2.symm, ?_⟩
    split at h1 <;> (first | (simp only [VerdV.mk.injEq] at h1; omega) | (split at h1 <;> (simp only [VerdV.mk.injEq] at h1; omega)))
end Go.Proofs.Ytbifmmdiekodjaa
