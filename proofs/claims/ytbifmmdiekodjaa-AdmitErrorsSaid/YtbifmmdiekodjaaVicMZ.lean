
/- What VictimMinimal asks of those that go, in one place. -/
import Derived.Test.YtbifmmdiekodjaaVicPM
namespace Go.Proofs.Ytbifmmdiekodjaa
open Go.RowKit
set_option linter.unusedVariables false
set_option linter.unusedSimpArgs false
def anyId (L : List PodV) (s : ByteArray) : Bool := L.any fun y => y.id.toList == s.toList
theorem any_next {L : List PodV} {k : Nat} {y : PodV} {s : ByteArray} (h : L[k]? = some y) : anyId (L.take (k + 1)) s = (anyId (L.take k) s || (y.id.toList == s.toList)) := by
  unfold anyId
  rw [List.take_add_one, h, List.any_append]
  simp
def keptF (L : List PodV) (G : List ByteArray) (p : PodV) : List PodV := L.filter (fun x => !hasB G x.id) ++ [p]
structure MinOK (R : Room) (L : List PodV) (p : PodV) (G : List ByteArray) : Prop where
  fits : fitsB R (keptF L G p) = true
  len : (keptF L G p).length + G.length = L.length + 1
  rise : ∀ (k : Nat) s t, G[k]? = some s → G[k + 1]? = some t → Op.bytesLess s.toList t.toList = true
  any : ∀ (k : Nat) s, G[k]? = some s → anyId L s = true
  may : ∀ (k : Nat) s, G[k]? = some s → ∀ y ∈ L, (y.id.toList == s.toList) = true → (p.crit = true ∧ y.crit = false ∧ y.prio < p.prio) ∧ fitsB R (keptF L G p ++ [y]) = false
theorem kept_nil (L : List PodV) (p : PodV) : keptF L [] p = L ++ [p] := by
  unfold keptF
  rw [List.filter_eq_self.2 (fun x _ => by rfl)]
theorem min_ok {R : Room} {L : List PodV} {p : PodV} {G : List ByteArray} (hf : FitOK R L p) (hc : chooseF R L p = some G) : MinOK R L p G := by
  unfold chooseF at hc
  by_cases h1 : fitsB R (L ++ [p]) = true
  · rw [if_pos h1] at hc
    cases hc
    exact ⟨by rw [kept_nil]; exact h1, by rw [kept_nil]; simp, fun k s t h => by simp at h, fun k s h => by simp at h, fun k s h => by simp at h⟩
  · rw [if_neg h1] at hc
    by_cases h2 : fitsB R (stF L p ++ [p]) = true
    · rw [if_pos h2] at hc
      obtain ⟨N, hN⟩ : ∃ N, goF R (stF L p ++ [p]) (sortP (mayF L p)) = N := ⟨_, rfl⟩
      rw [hN] at hc
      cases hc
      have hn : ∀ x ∈ L, x.id ≠ p.id := fun x hx => (hf.rl x hx).2
      have hp := kept_perm R L p hf.dist hn N hN
      have hsub : ∀ x ∈ N, x ∈ mayF L p := fun x hx => (sortP_perm _).subset ((goF_sub R _ _).subset (by rw [hN]; exact hx))
      have hdN : Dist N := by
        have h3 : Dist (sortP (mayF L p)) := (hf.dist.sub List.filter_sublist).perm (sortP_perm _).symm
        exact h3.sub (hN ▸ goF_sub R _ _)
      have hst : ∀ x ∈ stF L p ++ [p], rightB x = true := fun x hx => by
        rcases List.mem_append.1 hx with h | h
        · exact (hf.rl x (List.mem_filter.1 h).1).1
        · simp at h; subst h; exact hf.rp
      have hm : ∀ x ∈ sortP (mayF L p), rightB x = true := fun x hx => (hf.rl x (List.mem_filter.1 ((sortP_perm _).subset hx)).1).1
      have hmem : ∀ (k : Nat) s, (sortS (N.map PodV.id))[k]? = some s → ∃ y ∈ N, y.id = s := fun k s h => (has_iff N s).1 (has_now h (by simp))
      refine ⟨?_, ?_, ?_, ?_, ?_⟩
      · unfold keptF
        rw [fitsB_perm R hp]
        exact stayF_fits R _ _ h2
      · have := kept_len R L p hf.dist hn N hN
        unfold keptF
        rw [List.length_append]
        simp only [List.length_cons, List.length_nil]
        omega
      · intro k s t hs ht
        have hd : (N.map PodV.id).Nodup := by
          unfold List.Nodup
          rw [List.pairwise_map]
          exact hdN
        have hr := sortS_rises _ hd
        rw [List.pairwise_iff_getElem] at hr
        obtain ⟨h1, e1⟩ := List.getElem?_eq_some_iff.1 hs
        obtain ⟨h2, e2⟩ := List.getElem?_eq_some_iff.1 ht
        have := hr k (k + 1) h1 h2 (by omega)
        rw [e1, e2] at this
        exact this
      · intro k s h
        obtain ⟨y, hy, e⟩ := hmem k s h
        unfold anyId
        rw [List.any_eq_true]
        exact ⟨y, (List.mem_filter.1 (hsub y hy)).1, by rw [e]; simp⟩
      · intro k s h y hy he
        obtain ⟨z, hz, e⟩ := hmem k s h
        have e2 : y.id = z.id := by rw [e]; exact str_ext (by simpa using he)
        have hzm := List.mem_filter.1 (hsub z hz)
        obtain rfl := hf.dist.mem hy hzm.1 e2
        refine ⟨?_, ?_⟩
        · have := hzm.2
          unfold mayB at this
          simp only [Bool.and_eq_true, Bool.not_eq_true', decide_eq_true_eq] at this
          exact ⟨this.1, this.2.1, this.2.2⟩
        · unfold keptF
          rw [fitsB_perm R (hp.append_right [y])]
          exact goF_no R _ _ hst hm y (by rw [hN]; exact hz)
    · rw [if_neg h2] at hc
      cases hc
end Go.Proofs.Ytbifmmdiekodjaa
