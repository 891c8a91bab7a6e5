
/- Lines: how many, how long; rows of rows, further. -/
import Derived.Test.YtlgmgmnhmagolaaDoorLexRows
namespace Go.Proofs.YtlgmgmnhmagolaaDoor
open Go.RowKit
set_option linter.unusedVariables false
set_option linter.unusedSimpArgs false
theorem lines_le (L : List UInt8) : (linesL L).length ≤ L.length + 1 ∧ ∀ l ∈ linesL L, l.length ≤ L.length := by
  induction L with
  | nil => exact ⟨Nat.le_refl _, fun l hl => by simp [linesL] at hl; simp [hl]⟩
  | cons c L ih =>
    obtain ⟨h1, h2⟩ := ih
    cases hc : (c == 10) with
    | true =>
      simp only [linesL, hc, if_true, List.length_cons]
      refine ⟨by omega, fun l hl => ?_⟩
      rcases List.mem_cons.1 hl with rfl | q
      · simp
      · have := h2 l q; omega
    | false =>
      simp only [linesL, hc, Bool.false_eq_true, if_false]
      cases hL : linesL L with
      | nil => exact ⟨by simp, fun l hl => by simp at hl; simp [hl]⟩
      | cons h t =>
        rw [hL] at h1 h2
        simp only [List.length_cons] at h1 ⊢
        refine ⟨by omega, fun l hl => ?_⟩
        rcases List.mem_cons.1 hl with rfl | q
        · have := h2 h (by simp); simp only [List.length_cons]; omega
        · have := h2 l (by simp [q]); omega
theorem allF_len (n : Int) (R : List (List UInt8)) : (allF n R).length ≤ R.length := by
  induction R generalizing n with
  | nil => exact Nat.le_refl _
  | cons l R ih =>
    have := ih (n + 1)
    have h1 : (oneF n l).length ≤ 1 := by unfold oneF; split <;> simp
    simp only [allF, List.length_append, List.length_cons]
    omega
def curL (cur : List FldV) : List (List FldV) := if cur.isEmpty then [] else [cur]
theorem curL_nil : curL [] = [] := rfl
theorem curL_some (cur : List FldV) (f : FldV) : curL (cur ++ [f]) = [cur ++ [f]] := by unfold curL; simp
theorem curL_len (cur : List FldV) : (curL cur).length ≤ 1 := by unfold curL; split <;> simp
theorem RowsF.mono {w : World} {B C : Nat} {v : Value} {LL : List (List FldV)} {vs : List Value} (h : RowsF w B v LL vs) (hC : C ≤ B) : RowsF w C v LL vs := ⟨h.out.mono hC, fun i F u a b => (h.inn i F u a b).mono hC, h.sep⟩
theorem RowsF.grow2 {w w1 : World} {B g c n q : Nat} {LL : List (List FldV)} {F : List FldV} {us : List Value} {u u' : Value} {f : FldV} (hn : (LL ++ [F]).length = n) (hq : LL.length = q) (h : RowsF w B (.slice (some ⟨g, 0, none⟩) n c) (LL ++ [F]) (us ++ [u])) (hl : us.length = LL.length)
    (ho : OwnR w1 B 33 3 u' (F.length + 1) (F.flatMap FldV.cells ++ f.cells)) (hg : w.grownBy w1 u.ownBlock) (hm : Moved w u u') :
    RowsF (w1.setCell ⟨g, q, none⟩ u') B (.slice (some ⟨g, 0, none⟩) n c) (LL ++ [F ++ [f]]) (us ++ [u']) := by
  subst hn hq
  exact RowsF.grow h hl ho hg hm
theorem RowsF.shape {w : World} {B : Nat} {v : Value} {LL : List (List FldV)} {vs : List Value} (h : RowsF w B v LL vs) : ∃ a n, v = .slice a LL.length n := by
  obtain ⟨a, c, e, _⟩ := rowR_of_own h.out
  exact ⟨a, c, e⟩
theorem RowsF.open {w : World} {B : Nat} {v : Value} {LL : List (List FldV)} {vs : List Value} (h : RowsF w B v LL vs) (h0 : 0 < LL.length) : ∃ g c, v = .slice (some ⟨g, 0, none⟩) LL.length c ∧ B ≤ g ∧ g < w.heap.size ∧ LL.length ≤ c ∧ c ≤ 9223372036854775807 := by
  rcases own_shape h.out with ⟨_, e⟩ | ⟨g, c, e, h1, h2, h3, h4⟩
  · omega
  · exact ⟨g, c, e, h1, h2, h3, h4⟩
end Go.Proofs.YtlgmgmnhmagolaaDoor
