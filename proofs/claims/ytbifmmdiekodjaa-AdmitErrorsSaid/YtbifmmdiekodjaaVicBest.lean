
/- The pod that is asked first: the best of those that may, found one by one. -/
import Derived.Test.YtbifmmdiekodjaaVicMZ
namespace Go.Proofs.Ytbifmmdiekodjaa
open Go.RowKit
set_option linter.unusedVariables false
set_option linter.unusedSimpArgs false
def stepBest (f : PodV → Bool) (b : Option PodV) (x : PodV) : Option PodV := if f x && (match b with | none => true | some y => ltP x y) then some x else b
def bestF (f : PodV → Bool) (L : List PodV) : Option PodV := L.foldl (stepBest f) none
theorem best_next {f : PodV → Bool} {L : List PodV} {k : Nat} {x : PodV} {b : Option PodV} (h : L[k]? = some x) (hb : bestF f (L.take k) = b) : bestF f (L.take (k + 1)) = stepBest f b x := by
  subst hb
  unfold bestF
  rw [List.take_add_one, h, List.foldl_append]
  rfl
theorem step_skip {f : PodV → Bool} {x : PodV} (b : Option PodV) (h : f x = false) : stepBest f b x = b := by unfold stepBest; rw [h]; rfl
theorem step_new {f : PodV → Bool} {x : PodV} (h : f x = true) : stepBest f none x = some x := by unfold stepBest; rw [h]; rfl
theorem step_gt {f : PodV → Bool} {x y : PodV} (h : f x = true) (hp : y.prio < x.prio) : stepBest f (some y) x = some x := by
  unfold stepBest; simp only [h, Bool.true_and]; rw [if_pos]; unfold ltP; exact decide_eq_true (.inl hp)
theorem step_id {f : PodV → Bool} {x y : PodV} (h : f x = true) (hp : x.prio = y.prio) (hi : Op.bytesLess x.id.toList y.id.toList = true) : stepBest f (some y) x = some x := by
  unfold stepBest; simp only [h, Bool.true_and]; rw [if_pos]; rw [bytesLess_eq, decide_eq_true_eq] at hi; unfold ltP; exact decide_eq_true (.inr ⟨hp, hi⟩)
theorem step_noid {f : PodV → Bool} {x y : PodV} (hp : x.prio = y.prio) (hi : Op.bytesLess x.id.toList y.id.toList = false) : stepBest f (some y) x = some y := by
  unfold stepBest; rw [bytesLess_eq, decide_eq_false_iff_not] at hi
  rw [if_neg]; simp only [Bool.and_eq_true, ltP, decide_eq_true_eq, not_and]; intro _ h; rcases h with h | h
  · omega
  · exact hi h.2
theorem step_lt {f : PodV → Bool} {x y : PodV} (hp : x.prio < y.prio) : stepBest f (some y) x = some y := by
  unfold stepBest
  rw [if_neg]; simp only [Bool.and_eq_true, ltP, decide_eq_true_eq, not_and]; intro _ h; rcases h with h | h <;> omega
theorem best_spec (f : PodV → Bool) : ∀ (L : List PodV) (b : Option PodV), (∀ y, b = some y → f y = true) →
    (L.foldl (stepBest f) b = none ∧ b = none ∧ L.filter f = []) ∨ ∃ y, L.foldl (stepBest f) b = some y ∧ (some y = b ∨ y ∈ L.filter f) ∧ (∀ z ∈ L.filter f, ltP z y = false) ∧ (∀ z, b = some z → ltP z y = false) := by
  intro L
  induction L with
  | nil =>
    intro b hb
    cases b with
    | none => exact .inl ⟨rfl, rfl, rfl⟩
    | some y => exact .inr ⟨y, rfl, .inl rfl, by simp, fun z hz => by cases hz; exact swoP.irrefl y⟩
  | cons x L ih =>
    intro b hb
    rw [List.foldl_cons]
    cases hfx : f x with
    | false =>
      rw [step_skip b hfx, List.filter_cons_of_neg (by rw [hfx]; simp)]
      exact ih b hb
    | true =>
      rw [List.filter_cons_of_pos hfx]
      cases b with
      | none =>
        rw [step_new hfx]
        rcases ih (some x) (fun y h => by cases h; exact hfx) with ⟨_, h, _⟩ | ⟨y, h1, h2, h3, h4⟩
        · cases h
        · refine .inr ⟨y, h1, .inr ?_, ?_, fun z hz => by cases hz⟩
          · rcases h2 with h2 | h2
            · cases h2; exact List.mem_cons_self
            · exact List.mem_cons_of_mem _ h2
          · intro z hz
            rcases List.mem_cons.1 hz with rfl | hz
            · exact h4 _ rfl
            · exact h3 z hz
      | some u =>
        cases hlt : ltP x u with
        | true =>
          rw [show stepBest f (some u) x = some x by unfold stepBest; simp only [hfx, Bool.true_and]; rw [if_pos hlt]]
          rcases ih (some x) (fun y h => by cases h; exact hfx) with ⟨_, h, _⟩ | ⟨y, h1, h2, h3, h4⟩
          · cases h
          · refine .inr ⟨y, h1, .inr ?_, ?_, ?_⟩
            · rcases h2 with h2 | h2
              · cases h2; exact List.mem_cons_self
              · exact List.mem_cons_of_mem _ h2
            · intro z hz
              rcases List.mem_cons.1 hz with rfl | hz
              · exact h4 _ rfl
              · exact h3 z hz
            · intro z hz
              cases hz
              exact swoP.ntrans _ _ _ (asymP hlt) (h4 x rfl)
        | false =>
          rw [show stepBest f (some u) x = some u by unfold stepBest; simp only [hfx, Bool.true_and]; rw [if_neg (by rw [hlt]; simp)]]
          rcases ih (some u) hb with ⟨_, h, _⟩ | ⟨y, h1, h2, h3, h4⟩
          · cases h
          · refine .inr ⟨y, h1, ?_, ?_, h4⟩
            · rcases h2 with h2 | h2
              · exact .inl h2
              · exact .inr (List.mem_cons_of_mem _ h2)
            · intro z hz
              rcases List.mem_cons.1 hz with rfl | hz
              · exact swoP.ntrans _ _ _ hlt (h4 u rfl)
              · exact h3 z hz
/-- What is found one by one is the head of the sorted list. -/
theorem best_head {f : PodV → Bool} {L : List PodV} (hd : Dist L) : bestF f L = (sortP (L.filter f)).head? := by
  have hp := sortP_perm (L.filter f)
  rcases best_spec f L none (fun y h => by cases h) with ⟨h1, _, h2⟩ | ⟨y, h1, h2, h3, _⟩
  · rw [h2] at hp ⊢
    rw [show sortP ([] : List PodV) = [] from hp.eq_nil]
    exact h1
  · unfold bestF
    rw [h1]
    rcases h2 with h2 | h2
    · cases h2
    · have hy := hp.symm.subset h2
      have hs := sortP_pw (L.filter f)
      cases hM : sortP (L.filter f) with
      | nil => rw [hM] at hy; cases hy
      | cons z M =>
        rw [hM] at hy hs hp
        have hz := hp.subset (List.mem_cons_self (a := z) (l := M))
        have hdf : Dist (L.filter f) := hd.sub List.filter_sublist
        have h5 : ltP y z = false := by
          rcases List.mem_cons.1 hy with e | hy
          · rw [e]; exact swoP.irrefl z
          · simpa using (List.pairwise_cons.1 hs).1 y hy
        have := ltP_anti (h3 z hz) h5
        rw [hdf.mem h2 hz this.1.symm]
        rfl
/-- Of those that weren't asked yet, the next one of the sorted list. -/
theorem best_asked {L : List PodV} {p : PodV} (hd : Dist L) (j : Nat) : bestF (fun x => mayB p x && !hasB (((sortP (mayF L p)).take j).map PodV.id) x.id) L = (sortP (mayF L p))[j]? := by
  obtain ⟨M, hM⟩ : ∃ M, sortP (mayF L p) = M := ⟨_, rfl⟩
  rw [hM]
  have hp : M.Perm (mayF L p) := hM ▸ sortP_perm _
  have hdM : Dist M := (hd.sub List.filter_sublist).perm hp.symm
  have hsp : M.Pairwise (fun x y => (!ltP y x) = true) := hM ▸ sortP_pw _
  rw [best_head hd, List.head?_eq_getElem?]
  have e1 : (L.filter (fun x => mayB p x && !hasB ((M.take j).map PodV.id) x.id)) = (mayF L p).filter (fun x => !hasB ((M.take j).map PodV.id) x.id) := by
    unfold mayF
    rw [List.filter_filter]
    congr 1
    funext x
    exact Bool.and_comm _ _
  have e2 : M.filter (fun x => !hasB ((M.take j).map PodV.id) x.id) = M.drop j := by
    have hsplit : M = M.take j ++ M.drop j := (List.take_append_drop j M).symm
    have hda : Dist (M.take j ++ M.drop j) := hsplit ▸ hdM
    conv => lhs; arg 2; rw [hsplit]
    rw [List.filter_append]
    rw [List.filter_eq_nil_iff.2, List.filter_eq_self.2, List.nil_append]
    · intro x hx
      rcases Bool.eq_false_or_eq_true (hasB ((M.take j).map PodV.id) x.id) with h | h
      · exfalso
        unfold hasB at h
        rw [List.any_map, List.any_eq_true] at h
        obtain ⟨z, hz, he⟩ := h
        simp only [Function.comp, beq_iff_eq] at he
        exact (List.pairwise_append.1 hda).2.2 z hz x hx (str_ext he)
      · rw [h]; rfl
    · intro x hx
      have : hasB ((M.take j).map PodV.id) x.id = true := by
        unfold hasB
        rw [List.any_map, List.any_eq_true]
        exact ⟨x, hx, by simp⟩
      rw [this]; simp
  have e3 : sortP (L.filter (fun x => mayB p x && !hasB ((M.take j).map PodV.id) x.id)) = M.drop j := by
    rw [e1]
    refine (sortP_unique ((hd.sub List.filter_sublist).sub List.filter_sublist) ?_ ?_).symm
    · rw [← e2]
      exact hp.filter _
    · exact (hsp.sublist (List.drop_sublist j M)).imp (fun h => by simpa using h)
  rw [e3, List.getElem?_drop, Nat.add_zero]
/-- The most important one that may go stays just if it fits beside those that may not go. -/
theorem spares {R : Room} {L : List PodV} {p y : PodV} {G : List ByteArray} (hf : FitOK R L p) (hc : chooseF R L p = some G) (hb : bestF (mayB p) L = some y) :
    fitsB R (stF L p ++ [p] ++ [y]) = !hasB G y.id := by
  rw [best_head hf.dist] at hb
  have hdM : Dist (sortP (mayF L p)) := (hf.dist.sub List.filter_sublist).perm (sortP_perm _).symm
  obtain ⟨M, hM⟩ : ∃ M, sortP (mayF L p) = y :: M := by
    cases h : sortP (L.filter (mayB p)) with
    | nil => rw [h] at hb; cases hb
    | cons z M => rw [h] at hb; cases hb; exact ⟨M, h⟩
  unfold chooseF at hc
  rw [hM] at hc hdM
  by_cases h1 : fitsB R (L ++ [p]) = true
  · rw [if_pos h1] at hc
    cases hc
    have h2 := perm_all L p
    rw [hM] at h2
    rw [← fitsB_perm R h2] at h1
    refine fits_mono h1 ?_ ?_ (Int.le_refl _) (Int.le_refl _) (Int.le_refl _)
    · exact (List.Sublist.refl _).append (by simp)
    · intro x hx
      have := h2.subset hx
      rcases List.mem_append.1 this with h | h
      · exact (hf.rl x h).1
      · simp at h; subst h; exact hf.rp
  · rw [if_neg h1] at hc
    by_cases h2 : fitsB R (stF L p ++ [p]) = true
    · rw [if_pos h2] at hc
      cases hc
      unfold goF
      by_cases h3 : fitsB R (stF L p ++ [p] ++ [y]) = true
      · rw [if_pos h3, h3]
        rcases Bool.eq_false_or_eq_true (hasB (sortS ((goF R (stF L p ++ [p] ++ [y]) M).map PodV.id)) y.id) with h | h
        · obtain ⟨z, hz, e⟩ := (has_iff _ _).1 h
          exact absurd e.symm ((List.pairwise_cons.1 hdM).1 z ((goF_sub R _ _).subset hz))
        · rw [h]; rfl
      · rw [if_neg h3, (has_iff _ _).2 ⟨y, by simp, rfl⟩]
        simpa using h3
    · rw [if_neg h2] at hc
      cases hc
theorem spares_none {R : Room} {L : List PodV} {p : PodV} (hd : Dist L) (hb : bestF (mayB p) L = none) {G : List ByteArray} (hc : chooseF R L p = some G) : G = [] := by
  rw [best_head hd] at hb
  have hM : sortP (mayF L p) = [] := List.head?_eq_none_iff.1 hb
  unfold chooseF at hc
  rw [hM] at hc
  by_cases h1 : fitsB R (L ++ [p]) = true
  · rw [if_pos h1] at hc; cases hc; rfl
  · rw [if_neg h1] at hc
    by_cases h2 : fitsB R (stF L p ++ [p]) = true
    · rw [if_pos h2] at hc; cases hc; exact List.eq_nil_of_length_eq_zero (by rw [sortS_len]; rfl)
    · rw [if_neg h2] at hc; cases hc
end Go.Proofs.Ytbifmmdiekodjaa
