
/- Stage 10: Copy among many disks: plain laws. -/
import Derived.Test.YtcbblgeleboggaaDk8
namespace Go.Proofs.Ytcbblgeleboggaa
open Go.RowKit Go.Sort Go.Maps Go.WideMaps
set_option linter.unusedVariables false
set_option linter.unusedSimpArgs false
/-- What a disk of New, Do, Sync, Crash, Copy is: its files rise, what was done is its own. -/
def GoodD (d : DiskV) : Prop := SortedF d.files ∧ ∀ o ∈ d.done, rightM o = true ∧ ownM o = o
theorem own_right {o : MOp} (h : rightM o = true) : rightM (ownM o) = true ∧ ownM (ownM o) = ownM o := by
  unfold rightM at h
  unfold ownM rightM
  split
  · rename_i e
    rw [if_pos e] at h
    exact ⟨by simpa using h, by simp⟩
  · rename_i e1
    rw [if_neg e1] at h
    split
    · rename_i e
      rw [if_pos e] at h
      exact ⟨by simpa using h, by simp⟩
    · rename_i e2
      rw [if_neg e2] at h
      split at h
      · exact ⟨by simpa using h, by simp⟩
      · cases h
theorem GoodD.new : GoodD ⟨[], [], 0⟩ := ⟨List.Pairwise.nil, fun o ho => absurd ho List.not_mem_nil⟩
theorem GoodD.do {d : DiskV} (h : GoodD d) (o : MOp) : GoodD (doW d o) := by
  unfold doW
  split
  · rename_i e
    refine ⟨h.1, fun x hx => ?_⟩
    rcases List.mem_append.1 hx with r | r
    · exact h.2 x r
    · rw [List.mem_singleton] at r; subst r; exact own_right e
  · exact h
theorem GoodD.sync {d : DiskV} (h : GoodD d) : GoodD (syncW d) := ⟨sorted_look h.1, fun o ho => absurd ho List.not_mem_nil⟩
theorem GoodD.crash {d : DiskV} (h : GoodD d) (K : List Int) : GoodD (crashW d K) := ⟨sorted_crash h.1 _ _, fun o ho => absurd ho List.not_mem_nil⟩
/-- Many acts of Do. -/
def dosW (d : DiskV) (L : List OpV) : DiskV := L.foldl (fun d o => doW d o.m) d
theorem dosW_next {d : DiskV} {L : List OpV} {k : Nat} {x : OpV} (h : L[k]? = some x) : dosW d (L.take (k + 1)) = doW (dosW d (L.take k)) x.m := fold_next h
theorem dosW_good : ∀ (L : List OpV) {d : DiskV}, GoodD d → GoodD (dosW d L)
  | [], _, h => h
  | o :: L, _, h => dosW_good L (h.do o.m)
theorem dosW_small : ∀ (L : List OpV) (d : DiskV), (dosW d L).cap = d.cap ∧ (dosW d L).files = d.files ∧ (dosW d L).done.length ≤ d.done.length + L.length
  | [], d => ⟨rfl, rfl, Nat.le_refl _⟩
  | o :: L, d => by
    obtain ⟨h1, h2, h3⟩ := dosW_small L (doW d o.m)
    have h4 := doW_len d o.m
    exact ⟨h1.trans (doW_cap d o.m), h2.trans (doW_files d o.m), by have : (dosW d (o :: L)).done.length ≤ (doW d o.m).done.length + L.length := h3; rw [List.length_cons]; omega⟩
theorem info_intX : (Try.prog.info? 3).map (fun i => (i.zero, i.size, i.bytes)) = some (some (.int .i64 0), 1, 8) := by kernel_rfl
theorem PoolF.swap2 {u : World} {X : List Nat} {a p q : Dsk} {l : List Dsk} (h : PoolF u X (a :: p :: q :: l)) : PoolF u X (a :: q :: p :: l) := by
  obtain ⟨h1, h2⟩ := h
  refine ⟨h1.more (fun b hb => .inl ?_), PoolF.swap h2⟩
  simp only [feet, List.flatMap_cons, List.mem_append] at hb ⊢
  rcases hb with r | r | r | r
  · exact .inl r
  · exact .inr (.inr (.inl r))
  · exact .inr (.inl r)
  · exact .inr (.inr (.inr r))
theorem Pool.swap2 {B : Nat} {u : World} {X : List Nat} {a p q : Nat × DiskV} {l : List (Nat × DiskV)} (h : Pool B u X (a :: p :: q :: l)) : Pool B u X (a :: q :: p :: l) := by
  obtain ⟨P, h1, h2, h3⟩ := h
  match P, h1 with
  | x :: y :: z :: P, h1 =>
    simp only [List.map_cons, List.cons.injEq] at h1
    exact ⟨x :: z :: y :: P, by simp only [List.map_cons, h1], h2.swap2, fun p hp => h3 p (by simp only [List.mem_cons] at hp ⊢; rcases hp with r | r | r | r; exact .inl r; exact .inr (.inr (.inl r)); exact .inr (.inl r); exact .inr (.inr (.inr r)))⟩
theorem Pool.mem {B : Nat} {u : World} {X : List Nat} {M : Nat} {d : DiskV} : ∀ {l : List (Nat × DiskV)}, Pool B u X l → (M, d) ∈ l → DKv B u M X d
  | [], _, h => absurd h List.not_mem_nil
  | p :: l, h, hm => by
    rcases List.mem_cons.1 hm with e | r
    · subst e; exact h.dk
    · exact Pool.mem h.tail r
theorem crash_none {d : DiskV} (h : d.done = []) (K : List Int) : crashW d K = d := by
  cases d
  simp only at h
  subst h
  rfl
theorem part_big {o : MOp} {k : Int} (h : (o.Z.length : Int) < k) : partM o k = o := by
  unfold partM
  rw [if_neg (by omega)]
theorem crash_big : ∀ (D : List MOp) (n : Nat) (L : List FileM), D.length ≤ n → (∀ o ∈ D, o.Z.length ≤ 200) → crashF L D (List.replicate n 1000) = D.foldl applyF L
  | [], _, _, _, _ => rfl
  | o :: D, 0, _, h, _ => absurd h (by simp)
  | o :: D, n + 1, L, h, hz => by
    have h1 := crash_big D n (applyF L o) (by simpa using h) (fun x hx => hz x (List.mem_cons_of_mem _ hx))
    have h2 := hz o List.mem_cons_self
    unfold crashF at h1 ⊢
    rw [List.replicate_succ, List.zip_cons_cons, List.foldl_cons, List.foldl_cons, ← h1]
    congr 1
    unfold crashS
    dsimp only
    rw [if_neg (by omega), part_big (by omega)]
theorem own_Z (o : MOp) : (ownM o).Z.length ≤ o.Z.length := by
  unfold ownM
  split
  · exact Nat.le_refl _
  · split <;> exact Nat.zero_le _
theorem dosW_Z : ∀ (L : List OpV) (d : DiskV), (∀ o ∈ d.done, o.Z.length ≤ 200) → (∀ x ∈ L, x.Z.length ≤ 200) → ∀ o ∈ (dosW d L).done, o.Z.length ≤ 200
  | [], _, h, _ => h
  | x :: L, d, h, hx => dosW_Z L (doW d x.m) (by
      unfold doW
      split
      · intro o ho
        rcases List.mem_append.1 ho with r | r
        · exact h o r
        · rw [List.mem_singleton] at r; subst r; exact Nat.le_trans (own_Z _) (hx x List.mem_cons_self)
      · exact h) (fun y hy => hx y (List.mem_cons_of_mem _ hy))
theorem opB_Z {x : OpV} (h : opB x = true) : x.Z.length ≤ 200 := by unfold opB at h; rw [Bool.and_eq_true] at h; exact of_decide_eq_true h.2
section
variable (B : Nat) (M : Nat) (X : List Nat) (d : DiskV) (l : List (Nat × DiskV)) (w : World)
end
end Go.Proofs.Ytcbblgeleboggaa
