
/- Who goes and who stays are the list and the pod; what VictimMinimal rests on. -/
import Derived.Test.YtbifmmdiekodjaaVicY
namespace Go.Proofs.Ytbifmmdiekodjaa
open Go.RowKit
set_option linter.unusedVariables false
set_option linter.unusedSimpArgs false
theorem stay_go (R : Room) : ∀ (m st : List PodV), (stayF R st m ++ goF R st m).Perm (st ++ m)
  | [], st => by unfold stayF goF; exact List.Perm.refl _
  | v :: m, st => by
    unfold stayF goF
    by_cases h : fitsB R (st ++ [v]) = true
    · rw [if_pos h, if_pos h]
      have := stay_go R m (st ++ [v])
      rw [List.append_assoc] at this
      exact this
    · rw [if_neg h, if_neg h]
      exact (List.perm_middle).trans (((stay_go R m st).cons v).trans List.perm_middle.symm)
theorem stayF_fits (R : Room) : ∀ (m st : List PodV), fitsB R st = true → fitsB R (stayF R st m) = true
  | [], _, h => h
  | v :: m, st, h => by
    unfold stayF
    by_cases hf : fitsB R (st ++ [v]) = true
    · rw [if_pos hf]; exact stayF_fits R m _ hf
    · rw [if_neg hf]; exact stayF_fits R m st h
theorem stayF_sub (R : Room) : ∀ (m st : List PodV), st.Sublist (stayF R st m)
  | [], _ => List.Sublist.refl _
  | v :: m, st => by
    unfold stayF
    by_cases hf : fitsB R (st ++ [v]) = true
    · rw [if_pos hf]; exact (List.sublist_append_left _ _).trans (stayF_sub R m _)
    · rw [if_neg hf]; exact stayF_sub R m st
/-- Whoever goes doesn't fit beside those that stay in the end. -/
theorem goF_no (R : Room) : ∀ (m st : List PodV), (∀ x ∈ st, rightB x = true) → (∀ x ∈ m, rightB x = true) → ∀ v ∈ goF R st m, fitsB R (stayF R st m ++ [v]) = false
  | [], _, _, _, _, h => by unfold goF at h; cases h
  | x :: m, st, hs, hm, v, h => by
    unfold goF at h
    unfold stayF
    by_cases hf : fitsB R (st ++ [x]) = true
    · rw [if_pos hf] at h ⊢
      exact goF_no R m _ (fun y hy => by rcases List.mem_append.1 hy with k | k; exact hs y k; simp at k; subst k; exact hm y (by simp)) (fun y hy => hm y (by simp [hy])) v h
    · rw [if_neg hf] at h ⊢
      rcases List.mem_cons.1 h with rfl | h
      · rcases Bool.eq_false_or_eq_true (fitsB R (stayF R st m ++ [v])) with k | k
        · exfalso
          refine hf (fits_mono k ((stayF_sub R m st).append (List.Sublist.refl _)) (fun y hy => ?_) (Int.le_refl _) (Int.le_refl _) (Int.le_refl _))
          rcases List.mem_append.1 hy with q | q
          · rcases stayF_mem R m st y q with q | q
            · exact hs y q
            · exact hm y (by simp [q])
          · simp at q; subst q; exact hm y (by simp)
        · exact k
      · exact goF_no R m st hs (fun y hy => hm y (by simp [hy])) v h
theorem has_iff (N : List PodV) (s : ByteArray) : hasB (sortS (N.map PodV.id)) s = true ↔ ∃ y ∈ N, y.id = s := by
  unfold hasB sortS
  rw [List.any_map, List.any_eq_true]
  constructor
  · rintro ⟨l, hl, he⟩
    have hl2 := (List.mergeSort_perm _ _).subset hl
    simp only [List.mem_map] at hl2
    obtain ⟨g, ⟨y, hy, rfl⟩, rfl⟩ := hl2
    refine ⟨y, hy, str_ext ?_⟩
    simp only [Function.comp, beq_iff_eq] at he
    rw [← he, bA_l]
  · rintro ⟨y, hy, rfl⟩
    refine ⟨y.id.toList, (List.mergeSort_perm _ _).symm.subset ?_, ?_⟩
    · simp only [List.mem_map]
      exact ⟨y.id, ⟨y, hy, rfl⟩, rfl⟩
    · simp only [Function.comp, beq_iff_eq]
      rw [bA_l]
theorem goF_sub (R : Room) : ∀ (m st : List PodV), (goF R st m).Sublist m
  | [], _ => by unfold goF; exact List.Sublist.refl _
  | v :: m, st => by
    unfold goF
    by_cases hf : fitsB R (st ++ [v]) = true
    · rw [if_pos hf]; exact (goF_sub R m _).cons v
    · rw [if_neg hf]; exact (goF_sub R m st).cons_cons v
theorem dist_all {L : List PodV} {p : PodV} (hd : Dist L) (hn : ∀ x ∈ L, x.id ≠ p.id) : Dist (L ++ [p]) := by
  unfold Dist at *
  rw [List.pairwise_append]
  exact ⟨hd, by simp, fun a ha b hb => by simp at hb; subst hb; exact hn a ha⟩
/-- The list less those that go, and the pod: those that stay. -/
theorem kept_perm (R : Room) (L : List PodV) (p : PodV) (hd : Dist L) (hn : ∀ x ∈ L, x.id ≠ p.id) (N : List PodV) (hN : goF R (stF L p ++ [p]) (sortP (mayF L p)) = N) :
    (L.filter (fun x => !hasB (sortS (N.map PodV.id)) x.id) ++ [p]).Perm (stayF R (stF L p ++ [p]) (sortP (mayF L p))) := by
  have hall := (stay_go R (sortP (mayF L p)) (stF L p ++ [p])).trans (perm_all L p)
  rw [hN] at hall
  have hda : Dist (stayF R (stF L p ++ [p]) (sortP (mayF L p)) ++ N) := (dist_all hd hn).perm hall.symm
  have hf := hall.filter (fun x => !hasB (sortS (N.map PodV.id)) x.id)
  rw [List.filter_append, List.filter_append] at hf
  have e1 : (stayF R (stF L p ++ [p]) (sortP (mayF L p))).filter (fun x => !hasB (sortS (N.map PodV.id)) x.id) = stayF R (stF L p ++ [p]) (sortP (mayF L p)) := by
    refine List.filter_eq_self.2 fun y hy => ?_
    rcases Bool.eq_false_or_eq_true (hasB (sortS (N.map PodV.id)) y.id) with k | k
    · obtain ⟨z, hz, e⟩ := (has_iff N y.id).1 k
      exact absurd e.symm ((List.pairwise_append.1 hda).2.2 y hy z hz)
    · rw [k]; rfl
  have e2 : N.filter (fun x => !hasB (sortS (N.map PodV.id)) x.id) = [] := by
    refine List.filter_eq_nil_iff.2 fun y hy => ?_
    rw [(has_iff N y.id).2 ⟨y, hy, rfl⟩]
    simp
  have e3 : [p].filter (fun x => !hasB (sortS (N.map PodV.id)) x.id) = [p] := by
    refine List.filter_eq_self.2 fun y hy => ?_
    simp at hy
    subst hy
    rcases Bool.eq_false_or_eq_true (hasB (sortS (N.map PodV.id)) y.id) with k | k
    · obtain ⟨z, hz, e⟩ := (has_iff N y.id).1 k
      rw [← hN] at hz
      have hz2 := (sortP_perm _).subset ((goF_sub R _ _).subset hz)
      exact absurd e (hn z (List.mem_filter.1 hz2).1)
    · rw [k]; rfl
  rw [e1, e2, e3, List.append_nil] at hf
  exact hf.symm
theorem kept_len (R : Room) (L : List PodV) (p : PodV) (hd : Dist L) (hn : ∀ x ∈ L, x.id ≠ p.id) (N : List PodV) (hN : goF R (stF L p ++ [p]) (sortP (mayF L p)) = N) :
    (L.filter (fun x => !hasB (sortS (N.map PodV.id)) x.id)).length + (sortS (N.map PodV.id)).length = L.length := by
  have h1 := (kept_perm R L p hd hn N hN).length_eq
  have h2 := ((stay_go R (sortP (mayF L p)) (stF L p ++ [p])).trans (perm_all L p)).length_eq
  rw [hN] at h2
  rw [sortS_len, List.length_map]
  simp only [List.length_append, List.length_cons, List.length_nil] at h1 h2
  omega
theorem toList_mk (l : List UInt8) : ByteArray.toList ⟨l.toArray⟩ = l := by
  simp
theorem sortS_rises (G : List ByteArray) (hd : G.Nodup) : (sortS G).Pairwise (fun a b => Op.bytesLess a.toList b.toList = true) := by
  unfold sortS
  rw [List.pairwise_map]
  have hs : ((G.map (·.toList)).mergeSort (fun x y => decide (x ≤ y))).Pairwise (fun x y => x ≤ y) := by
    have := List.pairwise_mergeSort (le := fun (x y : List UInt8) => decide (x ≤ y)) (fun a b c h1 h2 => by simp only [decide_eq_true_eq] at *; exact List.le_trans h1 h2) (fun a b => by
      rcases List.le_total a b with h | h
      · simp [h]
      · simp [h]) (G.map (·.toList))
    exact this.imp (fun h => by simpa using h)
  have hn : ((G.map (·.toList)).mergeSort (fun x y => decide (x ≤ y))).Nodup := by
    refine (List.mergeSort_perm _ _).nodup_iff.2 ?_
    unfold List.Nodup at *
    rw [List.pairwise_map]
    exact hd.imp (fun h e => h (str_ext e))
  have hb := hs.and hn
  refine hb.imp (fun {a b} h => ?_)
  rw [bytesLess_eq, toList_mk, toList_mk, decide_eq_true_eq]
  rcases List.le_iff_lt_or_eq.1 h.1 with q | q
  · exact q
  · exact absurd q h.2
end Go.Proofs.Ytbifmmdiekodjaa
