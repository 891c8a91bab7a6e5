
/- The order in which pods are evicted: what the laws of the stage want of plain lists. -/
import Derived.Test.YtcgpmihjodolmaaRk5
namespace Go.Proofs.Ytcgpmihjodolmaa
open Go.RowKit Go.Sort
set_option linter.unusedVariables false
set_option linter.unusedSimpArgs false
theorem ahead_irr (g : Nat) (p : PodV) (U : List UseV) : aheadB g p p U = false := swo_cfK.irrefl _
theorem ahead_trans {g : Nat} {p q r : PodV} {U : List UseV} (h1 : aheadB g p q U = true) (h2 : aheadB g q r U = true) : aheadB g p r U = true := swo_cfK.trans _ _ _ h1 h2
theorem ahead_turn {g : Nat} {p q : PodV} {U : List UseV} (h : p.id ≠ q.id) : aheadB g q p U = !aheadB g p q U := by
  have hz : cfK (keyF g p U) (keyF g q U) ≠ 0 := fun e => h (cfK_zero e)
  have ha := ord_cfK.anti (keyF g p U) (keyF g q U)
  have hb := ord_cfK.anti (keyF g q U) (keyF g p U)
  rw [Bool.eq_iff_iff]
  unfold aheadB ltOf
  simp only [Bool.not_eq_true', decide_eq_true_eq, decide_eq_false_iff_not]
  omega
theorem dist_at {T : List EntV} (hd : Dist (podsOf T)) {i j : Nat} {x y : EntV} (hi : T[i]? = some x) (hj : T[j]? = some y) (hne : i ≠ j) : x.pod.id ≠ y.pod.id := by
  unfold Dist podsOf at hd
  rw [List.pairwise_map] at hd
  obtain ⟨h1, rfl⟩ := List.getElem?_eq_some_iff.1 hi
  obtain ⟨h2, rfl⟩ := List.getElem?_eq_some_iff.1 hj
  rcases Nat.lt_or_gt_of_ne hne with h | h
  · exact (List.pairwise_iff_getElem.1 hd) i j h1 h2 h
  · exact fun e => (List.pairwise_iff_getElem.1 hd) j i h2 h1 h e.symm
theorem first_facts {g : Nat} {T : List EntV} {U : List UseV} (hT : TabOK T) :
    (orderF g T U = [] ∧ ∀ x ∈ T, mayE x = false) ∨ ∃ (A : Nat) (z : EntV), T[A]? = some z ∧ mayE z = true ∧ (orderF g T U).isEmpty = false ∧ headS (orderF g T U) = z.pod.id ∧ ∀ (i : Nat) (y : EntV), T[i]? = some y → i ≠ A → mayE y = true → aheadB g z.pod y.pod U = true := by
  unfold orderF
  have hp : (sortK (keysF g T U)).Perm (keysF g T U) := sortBy_perm _ _
  have hw : (sortK (keysF g T U)).Pairwise (fun x y => (!ltOf cfK y x) = true) := sortBy_pw swo_cfK _
  cases h : sortK (keysF g T U) with
  | nil =>
    left
    refine ⟨rfl, fun x hx => ?_⟩
    rw [h] at hp
    have e : keysF g T U = [] := hp.symm.eq_nil
    unfold keysF at e
    rw [List.map_eq_nil_iff, List.filter_eq_nil_iff] at e
    exact Bool.eq_false_iff.2 (e x hx)
  | cons kx rest =>
    right
    rw [h] at hp hw
    have hk : kx ∈ keysF g T U := hp.mem_iff.1 (by simp)
    unfold keysF at hk
    obtain ⟨z, hz, rfl⟩ := List.mem_map.1 hk
    obtain ⟨hz1, hz2⟩ := List.mem_filter.1 hz
    obtain ⟨A, hA⟩ := List.getElem?_of_mem hz1
    refine ⟨A, z, hA, hz2, by rw [List.map_cons, List.isEmpty_cons], by rw [List.map_cons]; unfold headS keyF; rw [List.headD_cons], fun i y hy hne hm => ?_⟩
    have hid : z.pod.id ≠ y.pod.id := dist_at hT.dist hA hy (Ne.symm hne)
    have hyk : keyF g y.pod U ∈ keysF g T U := List.mem_map.2 ⟨y, List.mem_filter.2 ⟨List.mem_of_getElem? hy, hm⟩, rfl⟩
    have hn : aheadB g y.pod z.pod U = false := by
      rcases List.mem_cons.1 (hp.mem_iff.2 hyk) with e | e
      · unfold aheadB; rw [e]; exact swo_cfK.irrefl _
      · have := (List.pairwise_cons.1 hw).1 _ e
        unfold aheadB
        simpa using this
    rw [ahead_turn (Ne.symm hid), hn]; rfl
/-- The place of the pod of a name among the first k. -/
def plF (A k : Nat) : Int := if A < k then (A : Int) else -1
theorem plF_0 (A : Nat) : plF A 0 = -1 := rfl
theorem plF_next {A k : Nat} (h : A ≠ k) : plF A (k + 1) = plF A k := by unfold plF; split <;> split <;> omega
theorem plF_at (A : Nat) : plF A (A + 1) = A := by unfold plF; rw [if_pos (by omega)]
theorem plF_in {A k : Nat} (h : A < k) : plF A k = A := by unfold plF; rw [if_pos h]
theorem order_turned {g : Nat} {T M : List EntV} {U : List UseV} (hd : Dist (podsOf T)) (hp : (M.filter mayE).Perm (T.filter mayE)) : orderF g M U = orderF g T U := by
  have hk : (keysF g M U).Perm (keysF g T U) := by unfold keysF; exact hp.map _
  have h := sortBy_congr swo_cfK (keys_tied (g := g) (U := U) hd) hk
  unfold orderF sortK
  rw [h]
theorem order_cnt (g : Nat) (T : List EntV) (U : List UseV) : (orderF g T U).length = (T.filter mayE).length := by
  unfold orderF sortK
  rw [List.length_map, sortBy_len]
  unfold keysF
  rw [List.length_map]
theorem tab_sub {T M : List EntV} (hT : TabOK T) (hl : M.length ≤ T.length) (hm : ∀ x ∈ M, x ∈ T) (hd : Dist (podsOf M)) : TabOK M := ⟨Nat.le_trans hl hT.len, fun x hx => hT.right x (hm x hx), hd⟩
theorem dist_rev {T : List EntV} (hd : Dist (podsOf T)) : Dist (podsOf T.reverse) := by
  unfold Dist podsOf at *
  rw [List.pairwise_map] at *
  rw [List.pairwise_reverse]
  exact hd.imp (fun h => Ne.symm h)
theorem dist_filter {T : List EntV} (f : EntV → Bool) (hd : Dist (podsOf T)) : Dist (podsOf (T.filter f)) := by
  unfold Dist podsOf at *
  rw [List.pairwise_map] at *
  exact hd.filter f
theorem tab_rev {T : List EntV} (hT : TabOK T) : TabOK T.reverse := tab_sub hT (by simp) (fun x hx => by simpa using hx) (dist_rev hT.dist)
theorem tab_some {T : List EntV} (hT : TabOK T) : TabOK (T.reverse.filter mayE) := tab_sub hT (by have := List.length_filter_le mayE T.reverse; simpa using this) (fun x hx => by simpa using (List.mem_filter.1 hx).1) (dist_filter _ (dist_rev hT.dist))
theorem order_rev {g : Nat} {T : List EntV} {U : List UseV} (hT : TabOK T) : orderF g T.reverse U = orderF g T U := order_turned hT.dist ((List.reverse_perm T).filter mayE)
theorem order_some {g : Nat} {T : List EntV} {U : List UseV} (hT : TabOK T) : orderF g (T.reverse.filter mayE) U = orderF g T U := order_turned hT.dist (by rw [List.filter_filter]; simp only [Bool.and_self]; exact (List.reverse_perm T).filter mayE)
end Go.Proofs.Ytcgpmihjodolmaa
