
/- The order in which pods are evicted: plain lists. -/
import Derived.Test.YtcgpmihjodolmaaRkPre
namespace Go.Proofs.Ytcgpmihjodolmaa
open Go.RowKit Go.Sort
set_option linter.unusedVariables false
set_option linter.unusedSimpArgs false
/-- What tells where a pod stands in the order. -/
structure KeyV where
  rest : Int
  prio : Int
  ex : Int
  id : ByteArray
instance : Inhabited KeyV := ⟨⟨0, 0, 0, ⟨#[]⟩⟩⟩
def KeyV.cells (k : KeyV) : List Value := [.int .i64 k.rest, .int .i64 k.prio, .int .i64 k.ex, .string k.id]
def KeyV.v (k : KeyV) : Value := .agg #[.int .i64 k.rest, .int .i64 k.prio, .int .i64 k.ex, .string k.id]
theorem KeyV.cells_len (k : KeyV) : k.cells.length = 4 := rfl
theorem key_one (k : KeyV) : ∀ v ∈ k.cells, v.oneCell' = true := by
  intro v hv; simp only [KeyV.cells, List.mem_cons, List.not_mem_nil, or_false] at hv; rcases hv with rfl | rfl | rfl | rfl <;> rfl
def amt (g : Nat) (u : UseV) : Int := match g with
  | 0 => u.a
  | 1 => u.b
  | _ => u.c
def askF (g : Nat) (p : PodV) : Int := match g with
  | 0 => p.r1
  | 1 => 0
  | _ => p.r2
def exF (g : Nat) (p : PodV) (U : List UseV) : Int := amt g (ofF U p.id) - askF g p
def keyF (g : Nat) (p : PodV) (U : List UseV) : KeyV := ⟨if 0 < exF g p U then 0 else 1, p.prio, exF g p U, p.id⟩
def cfK (x y : KeyV) : Int := orL [cI x.rest y.rest, cI x.prio y.prio, cI y.ex x.ex, cS x.id y.id]
theorem orZ_r (a : Int) : orZ a 0 = a := by unfold orZ; split <;> simp_all
theorem cfK_eq : cfK = fun x y => orZ (cI x.rest y.rest) (orZ (cI x.prio y.prio) (orZ (cI y.ex x.ex) (cS x.id y.id))) := by
  funext x y
  show orZ _ (orZ _ (orZ _ (orZ _ 0))) = _
  rw [orZ_r]
theorem ord_cfK : Ord3 cfK := cfK_eq ▸ (ordI KeyV.rest).or ((ordI KeyV.prio).or ((ordIr KeyV.ex).or (ordS KeyV.id)))
theorem swo_cfK : Go.Sort.SWO (ltOf cfK) := ord_cfK.swo
theorem cfK_zero {x y : KeyV} (h : cfK x y = 0) : x.id = y.id := by
  rw [cfK_eq] at h
  simp only at h
  by_cases h1 : cI x.rest y.rest = 0
  · rw [h1, orZ_zero] at h
    by_cases h2 : cI x.prio y.prio = 0
    · rw [h2, orZ_zero] at h
      by_cases h3 : cI y.ex x.ex = 0
      · rw [h3, orZ_zero] at h
        exact str_extG (cS_zero.1 h)
      · rw [orZ_ne _ h3] at h; exact absurd h h3
    · rw [orZ_ne _ h2] at h; exact absurd h h2
  · rw [orZ_ne _ h1] at h; exact absurd h h1
def aheadB (g : Nat) (p q : PodV) (U : List UseV) : Bool := ltOf cfK (keyF g p U) (keyF g q U)
/-- How one goes ahead of another, told test by test. -/
theorem ahead_cases (g : Nat) (p q : PodV) (U : List UseV) : ∀ X Y : Int, exF g p U = X → exF g q U = Y →
    ((0 < X ∧ ¬ 0 < Y ∧ aheadB g p q U = true) ∨ (¬ 0 < X ∧ 0 < Y ∧ aheadB g p q U = false) ∨
     (((0 < X ∧ 0 < Y) ∨ (¬ 0 < X ∧ ¬ 0 < Y)) ∧ ((p.prio ≠ q.prio ∧ aheadB g p q U = decide (p.prio < q.prio)) ∨ (p.prio = q.prio ∧ ((X ≠ Y ∧ aheadB g p q U = decide (Y < X)) ∨ (X = Y ∧ aheadB g p q U = Op.bytesLess p.id.toList q.id.toList)))))) := by
  rintro X Y hX hY
  have e : ∀ rx ry : Int, (if 0 < X then (0 : Int) else 1) = rx → (if 0 < Y then (0 : Int) else 1) = ry → aheadB g p q U = ltOf (fun (x y : KeyV) => orZ (cI x.rest y.rest) (orZ (cI x.prio y.prio) (orZ (cI y.ex x.ex) (cS x.id y.id)))) ⟨rx, p.prio, X, p.id⟩ ⟨ry, q.prio, Y, q.id⟩ := by
    rintro rx ry rfl rfl
    subst hX hY
    unfold aheadB
    rw [cfK_eq]; rfl
  have rest : ∀ r : Int, (p.prio ≠ q.prio ∧ ltOf (fun (x y : KeyV) => orZ (cI x.rest y.rest) (orZ (cI x.prio y.prio) (orZ (cI y.ex x.ex) (cS x.id y.id)))) ⟨r, p.prio, X, p.id⟩ ⟨r, q.prio, Y, q.id⟩ = decide (p.prio < q.prio)) ∨ (p.prio = q.prio ∧ ((X ≠ Y ∧ ltOf (fun (x y : KeyV) => orZ (cI x.rest y.rest) (orZ (cI x.prio y.prio) (orZ (cI y.ex x.ex) (cS x.id y.id)))) ⟨r, p.prio, X, p.id⟩ ⟨r, q.prio, Y, q.id⟩ = decide (Y < X)) ∨ (X = Y ∧ ltOf (fun (x y : KeyV) => orZ (cI x.rest y.rest) (orZ (cI x.prio y.prio) (orZ (cI y.ex x.ex) (cS x.id y.id)))) ⟨r, p.prio, X, p.id⟩ ⟨r, q.prio, Y, q.id⟩ = Op.bytesLess p.id.toList q.id.toList))) := by
    intro r
    have go : ∀ b : Bool, ((orZ (cI p.prio q.prio) (orZ (cI Y X) (cS p.id q.id)) < 0) ↔ b = true) → ltOf (fun (x y : KeyV) => orZ (cI x.rest y.rest) (orZ (cI x.prio y.prio) (orZ (cI y.ex x.ex) (cS x.id y.id)))) ⟨r, p.prio, X, p.id⟩ ⟨r, q.prio, Y, q.id⟩ = b := by
      intro b h
      rw [Bool.eq_iff_iff]
      unfold ltOf
      rw [decide_eq_true_eq]
      show orZ (cI r r) _ < 0 ↔ _
      rw [cI_zero.2 (rfl : r = r), orZ_zero]
      exact h
    by_cases h1 : p.prio = q.prio
    · refine .inr ⟨h1, ?_⟩
      by_cases h2 : X = Y
      · refine .inr ⟨h2, go _ ?_⟩
        rw [cI_zero.2 h1, orZ_zero, cI_zero.2 h2.symm, orZ_zero, bytesLess_iff, decide_eq_true_eq]
        exact cS_neg
      · refine .inl ⟨h2, go _ ?_⟩
        rw [cI_zero.2 h1, orZ_zero, orZ_ne _ (fun q => h2 (cI_zero.1 q).symm), decide_eq_true_eq]
        exact cI_neg
    · refine .inl ⟨h1, go _ ?_⟩
      rw [orZ_ne _ (fun q => h1 (cI_zero.1 q)), decide_eq_true_eq]
      exact cI_neg
  by_cases hx : 0 < X <;> by_cases hy : 0 < Y
  · refine .inr (.inr ⟨.inl ⟨hx, hy⟩, ?_⟩)
    rw [e 0 0 (if_pos hx) (if_pos hy)]; exact rest 0
  · refine .inl ⟨hx, hy, ?_⟩
    rw [e 0 1 (if_pos hx) (if_neg hy)]; rfl
  · refine .inr (.inl ⟨hx, hy, ?_⟩)
    rw [e 1 0 (if_neg hx) (if_pos hy)]; rfl
  · refine .inr (.inr ⟨.inr ⟨hx, hy⟩, ?_⟩)
    rw [e 1 1 (if_neg hx) (if_neg hy)]; exact rest 1
def mayE (e : EntV) : Bool := !e.pod.crit && (e.phase == 1 || e.phase == 2)
def keysF (g : Nat) (T : List EntV) (U : List UseV) : List KeyV := (T.filter mayE).map (fun e => keyF g e.pod U)
def sortK (L : List KeyV) : List KeyV := sortBy (ltOf cfK) L
def orderF (g : Nat) (T : List EntV) (U : List UseV) : List ByteArray := (sortK (keysF g T U)).map KeyV.id
/-- What is used is a number from 0 on. -/
def UseOK (u : UseV) : Prop := (0 ≤ u.a ∧ u.a ≤ 9223372036854775807) ∧ (0 ≤ u.b ∧ u.b ≤ 9223372036854775807) ∧ (0 ≤ u.c ∧ u.c ≤ 9223372036854775807)
theorem amt_bd {g : Nat} {U : List UseV} (h : ∀ u ∈ U, UseOK u) (s : ByteArray) : 0 ≤ amt g (ofF U s) ∧ amt g (ofF U s) ≤ 9223372036854775807 := by
  have hu : UseOK (ofF U s) := by
    unfold ofF
    cases hf : U.find? (fun u => u.id.toList == s.toList) with
    | none => exact ⟨⟨by decide, by decide⟩, ⟨by decide, by decide⟩, ⟨by decide, by decide⟩⟩
    | some u => exact h u (List.mem_of_find?_eq_some hf)
  obtain ⟨h1, h2, h3⟩ := hu
  unfold amt; split <;> assumption
theorem right_asks {p : PodV} (h : rightB p = true) : 0 ≤ p.r0 ∧ 0 ≤ p.r1 ∧ 0 ≤ p.r2 := by
  unfold rightB okr at h
  simp only [Bool.and_eq_true, decide_eq_true_eq] at h
  obtain ⟨⟨⟨⟨⟨⟨⟨h1, h2⟩, h3⟩, _⟩, _⟩, _⟩, _⟩, _⟩ := h
  exact ⟨h1.1.1, h2.1.1, h3.1.1⟩
theorem ask_bd {g : Nat} {p : PodV} (hp : p.ok) (h : rightB p = true) : 0 ≤ askF g p ∧ askF g p ≤ 9223372036854775807 := by
  obtain ⟨_, _, _, i0, i1, i2, _⟩ := hp
  obtain ⟨_, h1, h2⟩ := right_asks h
  unfold InI at i1 i2
  unfold askF; split <;> omega
end Go.Proofs.Ytcgpmihjodolmaa
