
/- Comparisons of two, put one behind the other: plain numbers. -/
import Derived.Test.YtekakalhknjdaaaDoorSortG
namespace Go.Proofs.YtekakalhknjdaaaDoor
open Go.RowKit Go.Sort
set_option linter.unusedVariables false
set_option linter.unusedSimpArgs false

/-- A comparison that is a total preorder, told by signs. -/
structure Ord3 {α : Type} (c : α → α → Int) : Prop where
  anti : ∀ x y, c x y < 0 ↔ 0 < c y x
  le : ∀ x y z, c x y ≤ 0 → c y z ≤ 0 → c x z ≤ 0
section
variable {α : Type} {c d : α → α → Int}
theorem Ord3.self (h : Ord3 c) (x : α) : c x x = 0 := by have := h.anti x x; omega
theorem Ord3.zero (h : Ord3 c) {x y : α} (e : c x y = 0) : c y x = 0 := by have := h.anti x y; have := h.anti y x; omega
theorem Ord3.lt_le (h : Ord3 c) {x y z : α} (h1 : c x y < 0) (h2 : c y z ≤ 0) : c x z < 0 := by
  by_cases k : c x z < 0
  · exact k
  · have := h.anti x z; have a2 := h.anti z x; have := h.le y z x h2 (by omega); have := h.anti x y; omega
theorem Ord3.le_lt (h : Ord3 c) {x y z : α} (h1 : c x y ≤ 0) (h2 : c y z < 0) : c x z < 0 := by
  by_cases k : c x z < 0
  · exact k
  · have := h.anti x z; have a2 := h.anti z x; have := h.le z x y (by omega) h1; have := h.anti y z; omega
def orZ (a b : Int) : Int := if a == 0 then b else a
theorem orZ_zero (b : Int) : orZ 0 b = b := rfl
theorem orZ_ne {a : Int} (b : Int) (h : a ≠ 0) : orZ a b = a := by unfold orZ; rw [if_neg (by simpa using h)]
theorem Ord3.or (h : Ord3 c) (k : Ord3 d) : Ord3 (fun x y => orZ (c x y) (d x y)) where
  anti x y := by
    by_cases e : c x y = 0
    · have e2 := h.zero e
      simp only [e, e2, orZ_zero]
      exact k.anti x y
    · have e2 : c y x ≠ 0 := fun e2 => e (h.zero e2)
      simp only [orZ_ne _ e, orZ_ne _ e2]
      exact h.anti x y
  le x y z h1 h2 := by
    have g1 : orZ (c x y) (d x y) ≤ 0 := h1
    have g2 : orZ (c y z) (d y z) ≤ 0 := h2
    clear h1 h2
    have h1 := g1
    have h2 := g2
    clear g1 g2
    show orZ (c x z) (d x z) ≤ 0
    by_cases e1 : c x y = 0
    · rw [e1, orZ_zero] at h1
      by_cases e2 : c y z = 0
      · rw [e2, orZ_zero] at h2
        have e3 : c x z = 0 := by
          have a := h.le x y z (by omega) (by omega)
          have b := h.le z y x (by rw [h.zero e2]; omega) (by rw [h.zero e1]; omega)
          have := h.anti x z; have := h.anti z x; omega
        rw [e3, orZ_zero]
        exact k.le x y z h1 h2
      · rw [orZ_ne _ e2] at h2
        have := h.le_lt (x := x) (y := y) (z := z) (by omega) (by omega)
        rw [orZ_ne _ (by omega)]; omega
    · rw [orZ_ne _ e1] at h1
      have h3 : c x y < 0 := by omega
      have h4 : c y z ≤ 0 := by
        by_cases e2 : c y z = 0
        · omega
        · rw [orZ_ne _ e2] at h2; exact h2
      have := h.lt_le h3 h4
      rw [orZ_ne _ (by omega)]; omega
theorem Ord3.swo (h : Ord3 c) : Go.Sort.SWO (ltOf c) where
  irrefl x := by unfold ltOf; rw [h.self]; rfl
  trans x y z h1 h2 := by
    simp only [ltOf, decide_eq_true_eq] at *
    exact h.lt_le h1 (by omega)
  ntrans x y z h1 h2 := by
    simp only [ltOf, decide_eq_false_iff_not] at *
    have a1 := h.anti x y; have a2 := h.anti y x; have a3 := h.anti y z; have a4 := h.anti z y; have a5 := h.anti x z; have a6 := h.anti z x
    have := h.le z y x (by omega) (by omega)
    omega
theorem ltOf_eq (x y : α) : ltOf c x y = decide (c x y < 0) := rfl
theorem Ord3.tie (h : Ord3 c) {x y : α} (h1 : ltOf c x y = false) (h2 : ltOf c y x = false) : c x y = 0 := by
  simp only [ltOf, decide_eq_false_iff_not] at h1 h2
  have := h.anti x y; have := h.anti y x; omega
end
/-- Numbers, texts. -/
def cI (a b : Int) : Int := if a < b then -1 else if b < a then 1 else 0
theorem cI_neg {a b : Int} : cI a b < 0 ↔ a < b := by unfold cI; omega
theorem cI_pos {a b : Int} : 0 < cI a b ↔ b < a := by unfold cI; omega
theorem cI_zero {a b : Int} : cI a b = 0 ↔ a = b := by unfold cI; omega
theorem ordI {α : Type} (f : α → Int) : Ord3 (fun x y => cI (f x) (f y)) where
  anti x y := by simp only [cI_neg, cI_pos]
  le x y z h1 h2 := by simp only [cI] at *; omega
theorem ordIr {α : Type} (f : α → Int) : Ord3 (fun x y => cI (f y) (f x)) where
  anti x y := by simp only [cI_neg, cI_pos]
  le x y z h1 h2 := by simp only [cI] at *; omega
def cS (x y : ByteArray) : Int := if x.toList < y.toList then -1 else if x.toList = y.toList then 0 else 1
theorem cS_neg {x y : ByteArray} : cS x y < 0 ↔ x.toList < y.toList := by
  unfold cS; split
  · rename_i h; simp [h]
  · rename_i h; split <;> simp [h]
theorem cS_zero {x y : ByteArray} : cS x y = 0 ↔ x.toList = y.toList := by
  unfold cS; split
  · rename_i h; constructor
    · intro e; cases e
    · intro e; rw [e] at h; exact absurd h (List.lt_irrefl _)
  · split
    · rename_i h; simp [h]
    · rename_i h; simp [h]
theorem cS_pos {x y : ByteArray} : 0 < cS x y ↔ y.toList < x.toList := by
  unfold cS; split
  · rename_i h; constructor
    · intro e; cases e
    · intro e; exact absurd (List.lt_trans h e) (List.lt_irrefl _)
  · rename_i h
    split
    · rename_i e; rw [e]; constructor
      · intro e; cases e
      · intro e; exact absurd e (List.lt_irrefl _)
    · rename_i e
      refine ⟨fun _ => ?_, fun _ => by decide⟩
      rcases List.le_total x.toList y.toList with q | q
      · by_cases r : y.toList ≤ x.toList
        · exact absurd (List.le_antisymm q r) e
        · exact absurd (List.not_le.1 r) h
      · by_cases r : x.toList ≤ y.toList
        · exact absurd (List.le_antisymm r q) e
        · exact List.not_le.1 r
theorem cS_nonpos {x y : ByteArray} : cS x y ≤ 0 ↔ x.toList ≤ y.toList := by
  have h := @cS_pos x y
  constructor
  · intro q; exact List.not_lt.1 (fun r => by have := h.2 r; omega)
  · intro q; by_cases r : 0 < cS x y
    · exact absurd (h.1 r) (List.not_lt.2 q)
    · omega
theorem ordS {α : Type} (f : α → ByteArray) : Ord3 (fun x y => cS (f x) (f y)) where
  anti x y := by simp only [cS_neg, cS_pos]
  le x y z h1 h2 := by simp only [cS_nonpos] at *; exact List.le_trans h1 h2
theorem str_extG {s t : ByteArray} (h : s.toList = t.toList) : s = t := by
  rw [ByteArray.toList_eq, ByteArray.toList_eq] at h
  cases s; cases t
  simp only at h
  congr 1
  exact Array.toList_inj.1 h
/-- The first that isn't 0. -/
def orL : List Int → Int
  | [] => 0
  | a :: l => orZ a (orL l)
theorem orL_skip {L : List Int} {k : Nat} (h : ∀ i, i < k → L[i]? = some 0) : orL L = orL (L.drop k) := by
  induction k generalizing L with
  | zero => rfl
  | succ k ih =>
    have h0 := h 0 (by omega)
    cases L with
    | nil => cases h0
    | cons a l =>
      simp at h0; subst h0
      show orL l = _
      rw [ih (fun i hi => by have := h (i + 1) (by omega); simpa using this)]
      rfl
theorem orL_at {L : List Int} {k : Nat} {a : Int} (h : ∀ i, i < k → L[i]? = some 0) (ha : L[k]? = some a) (hn : a ≠ 0) : orL L = a := by
  rw [orL_skip h]
  have : L.drop k = a :: L.drop (k + 1) := by
    have hk : k < L.length := (List.getElem?_eq_some_iff.1 ha).1
    rw [List.drop_eq_getElem_cons hk]
    congr 1
    exact (List.getElem?_eq_some_iff.1 ha).2
  rw [this]; show orZ a _ = a; exact orZ_ne _ hn
theorem orL_none {L : List Int} (h : ∀ i, i < L.length → L[i]? = some 0) : orL L = 0 := by
  rw [orL_skip h, List.drop_length]; rfl
end Go.Proofs.YtekakalhknjdaaaDoor
