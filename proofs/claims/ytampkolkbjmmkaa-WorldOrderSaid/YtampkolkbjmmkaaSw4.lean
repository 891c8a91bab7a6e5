
/- Stage 22: the order of dead containers: plain lists. -/
import Derived.Test.YtampkolkbjmmkaaSw3
namespace Go.Proofs.Ytampkolkbjmmkaa
open Go.RowKit Go.Sort
set_option linter.unusedVariables false
set_option linter.unusedSimpArgs false
theorem idxO_none : idxO none = -1 := rfl
theorem idxO_some (b : Nat) : idxO (some b) = (b : Int) := rfl
theorem lenV_slice (a : Option Addr) (n c : Nat) : lenV (.slice a n c) = n := rfl
def strayC (L : List ContV) (U : List ByteArray) : List ContV := L.filter fun x => !hasU U x.id
def deadB (U : List ByteArray) (x : ContV) : Bool := !(x.state == 3) && !hasU U x.id
def cfC (x y : ContV) : Int := orL [cI x.last y.last, cS x.id y.id]
theorem orZ_r9 (a : Int) : orZ a 0 = a := by unfold orZ; split <;> simp_all
theorem cfC_eq : cfC = fun x y => orZ (cI x.last y.last) (cS x.id y.id) := by
  funext x y
  show orZ _ (orZ _ 0) = _
  rw [orZ_r9]
theorem ord_cfC : Ord3 cfC := cfC_eq ▸ (ordI ContV.last).or (ordS ContV.id)
theorem swo_cfC : Go.Sort.SWO (ltOf cfC) := ord_cfC.swo
theorem cfC_zero {x y : ContV} (h : cfC x y = 0) : x.id.toList = y.id.toList := by
  rw [cfC_eq] at h
  simp only at h
  by_cases h1 : cI x.last y.last = 0
  · rw [h1, orZ_zero] at h; exact cS_zero.1 h
  · rw [orZ_ne _ h1] at h; exact absurd h h1
theorem risesC_same {L : List ContV} (h : RisesC L) {x y : ContV} (hx : x ∈ L) (hy : y ∈ L) (e : x.id.toList = y.id.toList) : x = y := by
  obtain ⟨i, hi⟩ := List.getElem?_of_mem hx
  obtain ⟨j, hj⟩ := List.getElem?_of_mem hy
  obtain ⟨h1, e1⟩ := List.getElem?_eq_some_iff.1 hi
  obtain ⟨h2, e2⟩ := List.getElem?_eq_some_iff.1 hj
  rcases Nat.lt_trichotomy i j with q | q | q
  · have h3 := List.pairwise_iff_getElem.1 h i j h1 h2 q
    rw [e1, e2, e] at h3; exact absurd h3 (List.lt_irrefl _)
  · subst q; rw [← e1, ← e2]
  · have h3 := List.pairwise_iff_getElem.1 h j i h2 h1 q
    rw [e1, e2, e] at h3; exact absurd h3 (List.lt_irrefl _)
theorem tied_cfC {L : List ContV} (h : RisesC L) : Tied (ltOf cfC) L := fun x hx y hy h1 h2 => risesC_same h hx hy (cfC_zero (ord_cfC.tie h1 h2))
theorem filt_risesC {L : List ContV} (h : RisesC L) (f : ContV → Bool) : RisesC (L.filter f) := List.Pairwise.sublist List.filter_sublist h
theorem lessC_eq (x y : ContV) : lessC x y = ltOf cfC x y := by
  have e : ltOf cfC x y = decide (orZ (cI x.last y.last) (cS x.id y.id) < 0) := by rw [cfC_eq]; rfl
  rw [e]
  unfold lessC
  by_cases h1 : x.last = y.last
  · rw [cI_zero.2 h1, orZ_zero, decide_eq_false (show ¬ x.last < y.last by omega), Bool.false_or, show (x.last == y.last) = true by rw [h1]; simp, Bool.true_and, bytesLess_iff]
    exact decide_eq_decide.2 cS_neg.symm
  · rw [orZ_ne _ (fun q => h1 (cI_zero.1 q)), show (x.last == y.last) = false by simpa using h1, Bool.false_and, Bool.or_false]
    exact decide_eq_decide.2 cI_neg.symm
def deadL (L : List ContV) (U : List ByteArray) : List ContV := sortBy (ltOf cfC) (L.filter (deadB U))
def deadC (L : List ContV) (U : List ByteArray) : List ByteArray := (deadL L U).map ContV.id
def extraT (D : List ByteArray) (keep : Int) : List ByteArray := D.take (D.length - keep.toNat)
theorem nxt_all {L : List ContV} {U T : List ByteArray} : ∀ {k : Nat}, k ≤ L.length → (nxt L U T k = none → (L.take k).filter (candB U T) = []) ∧ (∀ b, nxt L U T k = some b → ∀ y, L[b]? = some y → ∀ z ∈ (L.take k).filter (candB U T), ltOf cfC z y = false) := by
  intro k
  induction k with
  | zero => intro _; exact ⟨fun _ => by simp, fun b h => by cases h⟩
  | succ k ih =>
    intro hk
    obtain ⟨i1, i2⟩ := ih (by omega)
    obtain ⟨x, hx⟩ : ∃ x, L[k]? = some x := ⟨L[k], List.getElem?_eq_getElem (show k < L.length by omega)⟩
    cases hc : candB U T x with
    | false => rw [nxt_not hx hc, filtG_same hx hc]; exact ⟨i1, i2⟩
    | true =>
      rw [filtG_next hx hc]
      cases hn : nxt L U T k with
      | none =>
        rw [nxt_first hx hc hn, i1 hn]
        refine ⟨fun q => (by cases q), fun b hb y hy z hz => ?_⟩
        cases hb
        obtain rfl := Option.some.inj (hx.symm.trans hy)
        simp only [List.nil_append, List.mem_singleton] at hz
        subst hz
        exact swo_cfC.irrefl _
      | some c =>
        obtain ⟨_, yc, hyc, _⟩ := nxt_lt (show k ≤ L.length by omega) hn
        have h2 := i2 c hn yc hyc
        rw [nxt_less hx hc hn hyc]
        cases hl : lessC x yc with
        | true =>
          rw [if_pos rfl]
          refine ⟨fun q => (by cases q), fun b hb y hy z hz => ?_⟩
          cases hb
          obtain rfl := Option.some.inj (hx.symm.trans hy)
          rw [lessC_eq] at hl
          rcases List.mem_append.1 hz with hz | hz
          · cases h3 : ltOf cfC z x with
            | false => rfl
            | true => have h4 := swo_cfC.trans _ _ _ h3 hl; rw [h2 z hz] at h4; cases h4
          · simp only [List.mem_singleton] at hz
            subst hz
            exact swo_cfC.irrefl _
        | false =>
          rw [if_neg (by simp)]
          refine ⟨fun q => (by cases q), fun b hb y hy z hz => ?_⟩
          cases hb
          obtain rfl := Option.some.inj (hyc.symm.trans hy)
          rcases List.mem_append.1 hz with hz | hz
          · exact h2 z hz
          · simp only [List.mem_singleton] at hz
            subst hz
            rw [← lessC_eq]; exact hl
def restC (L : List ContV) (U T : List ByteArray) : List ContV := L.filter (candB U T)
theorem rest_none {L : List ContV} {U T : List ByteArray} (hn : nxt L U T L.length = none) : restC L U T = [] := by
  have h := (nxt_all (U := U) (T := T) (Nat.le_refl L.length)).1 hn
  rwa [List.take_length] at h
theorem rest_start (L : List ContV) (U : List ByteArray) : restC L U [] = L.filter (deadB U) := by
  unfold restC
  congr 1
  funext z
  unfold candB deadB
  rw [show hasU [] z.id = false from rfl, Bool.not_false, Bool.and_true]
theorem hasU_snoc (T : List ByteArray) (t s : ByteArray) : hasU (T ++ [t]) s = (hasU T s || (t.toList == s.toList)) := by
  unfold hasU; rw [List.any_append]; simp
theorem rest_snoc (L : List ContV) (U T : List ByteArray) (t : ByteArray) : restC L U (T ++ [t]) = (restC L U T).filter (fun z => !(t.toList == z.id.toList)) := by
  unfold restC
  rw [List.filter_filter]
  congr 1
  funext z
  unfold candB
  rw [hasU_snoc]
  cases (z.state == 3) <;> cases hasU U z.id <;> cases hasU T z.id <;> cases (t.toList == z.id.toList) <;> rfl
theorem perm_drop {y : ContV} : ∀ {N : List ContV}, RisesC N → y ∈ N → (y :: N.filter (fun z => !(y.id.toList == z.id.toList))).Perm N
  | [], _, h => by cases h
  | a :: N, hr, h => by
    obtain ⟨h1, h2⟩ := List.pairwise_cons.1 hr
    rcases List.mem_cons.1 h with rfl | h
    · have e : N.filter (fun z => !(y.id.toList == z.id.toList)) = N := List.filter_eq_self.2 (fun z hz => by
        have h3 := h1 z hz
        simp only [Bool.not_eq_true', beq_eq_false_iff_ne]
        intro e; rw [e] at h3; exact List.lt_irrefl _ h3)
      rw [List.filter_cons_of_neg (by simp)]
      exact List.Perm.of_eq (by rw [e])
    · have h3 := h1 y h
      rw [List.filter_cons_of_pos (by
        simp only [Bool.not_eq_true', beq_eq_false_iff_ne]
        intro e; rw [e] at h3; exact List.lt_irrefl _ h3)]
      exact (List.Perm.swap a y _).trans ((perm_drop h2 h).cons a)
theorem rest_perm {L : List ContV} {U T : List ByteArray} {y : ContV} (hr : RisesC L) (hy : y ∈ L) (hc : candB U T y = true) : (y :: restC L U (T ++ [y.id])).Perm (restC L U T) := by
  rw [rest_snoc]
  exact perm_drop (filt_risesC hr (candB U T)) (List.mem_filter.2 ⟨hy, hc⟩)
theorem rest_len {L : List ContV} {U T : List ByteArray} {y : ContV} (hr : RisesC L) (hy : y ∈ L) (hc : candB U T y = true) : (restC L U (T ++ [y.id])).length + 1 = (restC L U T).length := by
  have := (rest_perm hr hy hc).length_eq
  simpa using this
theorem rest_step {L : List ContV} {U T : List ByteArray} {b : Nat} {y : ContV} (hr : RisesC L) (hn : nxt L U T L.length = some b) (hy : L[b]? = some y) (hc : candB U T y = true) :
    sortBy (ltOf cfC) (restC L U T) = y :: sortBy (ltOf cfC) (restC L U (T ++ [y.id])) := by
  have hm := (nxt_all (U := U) (T := T) (Nat.le_refl L.length)).2 b hn y hy
  rw [List.take_length] at hm
  have hp := rest_perm hr (List.mem_of_getElem? hy) hc
  refine (sortBy_unique swo_cfC (tied_cfC (filt_risesC hr _)) (((sortBy_perm (ltOf cfC) _).cons y).trans hp) ?_).symm
  refine List.pairwise_cons.2 ⟨fun z hz => ?_, (sortBy_pw swo_cfC _).imp (fun h => by simpa using h)⟩
  exact hm z (hp.mem_iff.1 (List.mem_cons_of_mem _ (sortBy_mem.1 hz)))
theorem dead_le (L : List ContV) (U : List ByteArray) : (deadC L U).length ≤ L.length := by
  unfold deadC deadL; rw [List.length_map, sortBy_len]; exact List.length_filter_le _ _
theorem cand_of {L : List ContV} {U T : List ByteArray} {b : Nat} {y : ContV} (hn : nxt L U T L.length = some b) (hy : L[b]? = some y) : b < L.length ∧ candB U T y = true := by
  obtain ⟨h1, y2, h2, h3⟩ := nxt_lt (Nat.le_refl L.length) hn
  obtain rfl := Option.some.inj (hy.symm.trans h2)
  exact ⟨h1, h3⟩
end Go.Proofs.Ytampkolkbjmmkaa
