
/- Who fits: parts of what fits fit; whoever all fit, nobody goes. -/
import Derived.Test.YtbifmmdiekodjaaVicX
namespace Go.Proofs.Ytbifmmdiekodjaa
open Go.RowKit
set_option linter.unusedVariables false
set_option linter.unusedSimpArgs false
theorem sumX_append (f : PodV → Int) (L M : List PodV) : sumX f (L ++ M) = sumX f L + sumX f M := by
  have h : ∀ (M : List PodV) (s : Int), M.foldl (fun s p => s + f p) s = s + M.foldl (fun s p => s + f p) 0 := by
    intro M
    induction M with
    | nil => intro s; simp
    | cons x M ih => intro s; rw [List.foldl_cons, List.foldl_cons, ih, ih (0 + f x)]; omega
  unfold sumX
  rw [List.foldl_append, h M]
theorem sumX_cons (f : PodV → Int) (x : PodV) (L : List PodV) : sumX f (x :: L) = f x + sumX f L := by
  have := sumX_append f [x] L
  rw [List.singleton_append] at this
  rw [this]
  unfold sumX
  simp
theorem sumX_sub (f : PodV → Int) {L M : List PodV} (h : M.Sublist L) (hp : ∀ x ∈ L, 0 ≤ f x) : sumX f M ≤ sumX f L := by
  induction h with
  | slnil => exact Int.le_refl _
  | cons x _ ih =>
    have := ih (fun y hy => hp y (by simp [hy]))
    have hx := hp x (by simp)
    rw [sumX_cons]
    omega
  | cons_cons x _ ih =>
    have := ih (fun y hy => hp y (by simp [hy]))
    rw [sumX_cons, sumX_cons]
    omega
theorem exG_mono {room room2 S S2 : Int} (h : exG room S = true) (h1 : S2 ≤ S) (h2 : room ≤ room2) : exG room2 S2 = true := by
  unfold exG at *
  simp only [Bool.and_eq_true, decide_eq_true_eq] at *
  omega
theorem fits_mono {R R2 : Room} {L M : List PodV} (h : fitsB R L = true) (hs : M.Sublist L) (hr : ∀ x ∈ L, rightB x = true) (ha : R.a ≤ R2.a) (hb : R.b ≤ R2.b) (hc : R.c ≤ R2.c) : fitsB R2 M = true := by
  rw [fits_X R L hr] at h
  rw [fits_X R2 M (fun x hx => hr x (hs.subset hx))]
  unfold exB at *
  simp only [Bool.and_eq_true] at *
  exact ⟨⟨exG_mono h.1.1 (sumX_sub _ hs fun x hx => (PodV.right_pos x (hr x hx)).1) ha, exG_mono h.1.2 (sumX_sub _ hs fun x hx => (PodV.right_pos x (hr x hx)).2.1) hb⟩, exG_mono h.2 (sumX_sub _ hs fun x hx => (PodV.right_pos x (hr x hx)).2.2) hc⟩
theorem goF_nil (R : Room) : ∀ (m st : List PodV), fitsB R st = true → goF R st m = [] → fitsB R (st ++ m) = true
  | [], st, h, _ => by rw [List.append_nil]; exact h
  | v :: m, st, h, hg => by
    unfold goF at hg
    by_cases hf : fitsB R (st ++ [v]) = true
    · rw [if_pos hf] at hg
      have := goF_nil R m (st ++ [v]) hf hg
      rw [List.append_assoc] at this
      exact this
    · rw [if_neg hf] at hg
      cases hg
theorem perm_all (L : List PodV) (p : PodV) : (stF L p ++ [p] ++ sortP (mayF L p)).Perm (L ++ [p]) := by
  have h1 : (stF L p ++ [p] ++ sortP (mayF L p)).Perm ((mayF L p ++ stF L p) ++ [p]) := by
    refine ((sortP_perm (mayF L p)).append_left _).trans ?_
    refine List.perm_append_comm.trans ?_
    rw [List.append_assoc]
  refine h1.trans (List.Perm.append_right [p] ?_)
  unfold mayF stF
  exact List.filter_append_perm (mayB p) L
/-- What Choose answers, as far as 'is there a way' and 'does nobody go' tell. -/
theorem way_call (R : Room) (p : PodV) (a : Option Addr) (len cap : Nat) (L : List PodV) (v : World) (hl : L.length = len) (hok : ∀ x ∈ L, x.ok) (hR : Row v a len cap 11 (L.flatMap PodV.cells)) (hf : FitOK R L p) (hp : p.ok) :
    Calls Try.prog 17 #[.agg #[.int .i64 R.a, .int .i64 R.b, .int .i64 R.c], .slice a len cap, .agg #[.string p.id, .int .i64 p.prio, .bool p.crit, .int .i64 p.r0, .int .i64 p.r1, .int .i64 p.r2, .int .i64 p.l0, .int .i64 p.l1, .int .i64 p.l2, .string p.img, .int .i64 p.size]] v fun e w' => (∃ b n c, e = .returned (.tuple #[.slice b n c, .bool (fitsB R (stF L p ++ [p]))]) ∧ ((fitsB R (stF L p ++ [p]) = true ∧ fitsB R (L ++ [p]) = true ∧ ((n : Int) == 0) = true) ∨ (fitsB R (stF L p ++ [p]) = true ∧ fitsB R (L ++ [p]) = false ∧ ((n : Int) == 0) = false) ∨ (fitsB R (stF L p ++ [p]) = false ∧ fitsB R (L ++ [p]) = false))) ∧ Below v.heap.size v w' := by
  refine (vic_Choose R p a len cap L v hl hok hR hf.dist (by have := hf.len; omega) hp).mono ?_
  rintro e w' ⟨hr, hb⟩
  refine ⟨?_, hb⟩
  have hrt : ∀ x ∈ L ++ [p], rightB x = true := fun x hx => by
    rcases List.mem_append.1 hx with k | k
    · exact (hf.rl x k).1
    · simp at k; subst k; exact hf.rp
  have hsub : (stF L p ++ [p]).Sublist (L ++ [p]) := List.Sublist.append (List.filter_sublist) (List.Sublist.refl _)
  unfold chooseF at hr
  by_cases hA : fitsB R (L ++ [p]) = true
  · have hB := fits_mono hA hsub hrt (Int.le_refl R.a) (Int.le_refl R.b) (Int.le_refl R.c)
    rw [if_pos hA] at hr
    rcases hr with ⟨h0, _⟩ | ⟨G, v5, hG, rfl, hO⟩
    · cases h0
    · cases hG
      obtain ⟨a5, c5, rfl, _⟩ := rowR_of_own hO
      exact ⟨a5, 0, c5, by rw [hB]; rfl, .inl ⟨hB, hA, rfl⟩⟩
  · rw [if_neg hA] at hr
    have hA' : fitsB R (L ++ [p]) = false := by simpa using hA
    by_cases hB : fitsB R (stF L p ++ [p]) = true
    · rw [if_pos hB] at hr
      rcases hr with ⟨h0, _⟩ | ⟨G, v5, hG, rfl, hO⟩
      · cases h0
      · obtain ⟨a5, c5, rfl, _⟩ := rowR_of_own hO
        refine ⟨a5, G.length, c5, by rw [hB], .inr (.inl ⟨hB, hA', ?_⟩)⟩
        rw [beq_eq_false_iff_ne]
        intro h0
        have hn : G = [] := List.eq_nil_of_length_eq_zero (by omega)
        have hG2 := Option.some.inj hG
        rw [hn] at hG2
        have hl2 := congrArg List.length hG2
        rw [sortS_len, List.length_map] at hl2
        have hgo := goF_nil R _ _ hB (List.eq_nil_of_length_eq_zero hl2)
        rw [fitsB_perm R (perm_all L p)] at hgo
        rw [hgo] at hA'
        cases hA'
    · rw [if_neg hB] at hr
      have hB' : fitsB R (stF L p ++ [p]) = false := by simpa using hB
      rcases hr with ⟨_, rfl⟩ | ⟨G, v5, hG, _, _⟩
      · exact ⟨none, 0, 0, by rw [hB'], .inr (.inr ⟨hB', hA'⟩)⟩
      · cases hG
end Go.Proofs.Ytbifmmdiekodjaa
