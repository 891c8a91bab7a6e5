
/- Stage 10: what a disk keeps is done alike by what was handed in: plain laws. -/
import Derived.Test.YtcnjcldfbidkmaaDkS
namespace Go.Proofs.Ytcnjcldfbidkmaa
open Go.RowKit Go.Sort
set_option linter.unusedVariables false
set_option linter.unusedSimpArgs false
theorem own_Or {L : List FileM} {o : MOp} (h : rightM o = true) (k : Int) : applyF L (partM (ownM o) k) = applyF L (partM o k) := by
  unfold rightM at h
  unfold ownM
  split
  · rename_i e
    unfold partM
    dsimp only
    by_cases q : (1 : Int) = 1 ∧ 1 ≤ k ∧ k ≤ (o.Z.length : Int)
    · rw [if_pos q, if_pos ⟨e, q.2⟩]; unfold applyF; dsimp only; rw [if_pos rfl, if_pos e]
    · rw [if_neg q, if_neg (fun z => q ⟨rfl, z.2⟩)]; unfold applyF; dsimp only; rw [if_pos rfl, if_pos e]
  · rename_i e1
    split
    · rename_i e
      unfold partM
      dsimp only
      rw [if_neg (fun z => absurd z.1 (by decide)), if_neg (fun z => e1 z.1)]
      unfold applyF
      dsimp only
      rw [if_neg (by decide), if_pos rfl, if_neg e1, if_pos e]
    · rename_i e2
      rw [if_neg e1, if_neg e2] at h
      split at h
      · rename_i e
        unfold partM
        dsimp only
        rw [if_neg (fun z => absurd z.1 (by decide)), if_neg (fun z => e1 z.1)]
        unfold applyF
        dsimp only
        rw [if_neg (by decide), if_neg (by decide), if_pos rfl, if_neg e1, if_neg e2, if_pos e]
      · cases h
theorem own_apply {L : List FileM} {o : MOp} (h : rightM o = true) : applyF L (ownM o) = applyF L o := by
  have h1 := own_Or (L := L) h 0
  unfold partM at h1
  rwa [if_neg (fun z => absurd z.2.1 (by decide)), if_neg (fun z => absurd z.2.1 (by decide))] at h1
def ownsW (T : List OpV) : List MOp := T.map (fun o => ownM o.m)
theorem owns_look : ∀ (T : List OpV) (L : List FileM), (∀ o ∈ T, rightM o.m = true) → (ownsW T).foldl applyF L = (T.map OpV.m).foldl applyF L
  | [], _, _ => rfl
  | o :: T, L, h => by
    show (ownsW T).foldl applyF (applyF L (ownM o.m)) = (T.map OpV.m).foldl applyF (applyF L o.m)
    rw [own_apply (h o List.mem_cons_self)]
    exact owns_look T _ (fun x hx => h x (List.mem_cons_of_mem _ hx))
theorem owns_crash : ∀ (T : List OpV) (Q : List Int) (L : List FileM), (∀ o ∈ T, rightM o.m = true) → crashF L (ownsW T) Q = crashF L (T.map OpV.m) Q
  | [], _, _, _ => rfl
  | o :: T, [], _, _ => rfl
  | o :: T, q :: Q, L, h => by
    show crashF (crashS L (ownM o.m, q)) (ownsW T) Q = crashF (crashS L (o.m, q)) (T.map OpV.m) Q
    have e : crashS L (ownM o.m, q) = crashS L (o.m, q) := by
      unfold crashS
      dsimp only
      split
      · rfl
      · exact own_Or (h o List.mem_cons_self) q
    rw [e]
    exact owns_crash T Q _ (fun x hx => h x (List.mem_cons_of_mem _ hx))
end Go.Proofs.Ytcnjcldfbidkmaa
