
/- Verdicts: plain lists. -/
import Derived.Test.YtbifmmdiekodjaaAdmPre
namespace Go.Proofs.Ytbifmmdiekodjaa
open Go.RowKit
set_option linter.unusedVariables false
set_option linter.unusedSimpArgs false
def podsOf (T : List EntV) : List PodV := T.map EntV.pod
def idIn (T : List EntV) (s : ByteArray) : Bool := T.any fun e => e.pod.id.toList == s.toList
theorem idIn_next {T : List EntV} {k : Nat} {x : EntV} {s : ByteArray} (h : T[k]? = some x) : idIn (T.take (k + 1)) s = (idIn (T.take k) s || (x.pod.id.toList == s.toList)) := by
  unfold idIn
  rw [List.take_add_one, h, List.any_append]
  simp
theorem idIn_now {T : List EntV} {k : Nat} {x : EntV} {s : ByteArray} (h : T[k]? = some x) (he : (x.pod.id.toList == s.toList) = true) : idIn T s = true := by
  unfold idIn
  rw [List.any_eq_true]
  exact ⟨x, List.mem_of_getElem? h, he⟩
theorem idIn_no {T : List EntV} {s : ByteArray} (h : idIn T s = false) : ∀ x ∈ podsOf T, x.id ≠ s := by
  intro x hx e
  unfold podsOf at hx
  obtain ⟨y, hy, rfl⟩ := List.mem_map.1 hx
  unfold idIn at h
  rw [List.any_eq_false] at h
  exact h y hy (by rw [e]; simp)
structure VerdV where
  kind : Int
  sig : Int
  go : List ByteArray
def refusedF (T : List EntV) (p : PodV) : Int := if rightB p = false then 1 else if idIn T p.id then 5 else if 64 ≤ T.length then 6 else 0
def classP (p : PodV) : Int := classI p.r0 p.r1 p.r2 p.l0 p.l1 p.l2
def barsB (k : Int) (p : PodV) : Bool := !p.crit && (k == 1 || k == 2 || (k == 0 && classP p == 3))
def barredF (O : On) (p : PodV) : Option Int := if p.crit then none else if O.a && classP p == 3 then some 0 else if O.b then some 1 else if O.c then some 2 else none
def roomF (R : Room) (T : List EntV) (p : PodV) : VerdV :=
  match chooseF R (podsOf T) p with
  | none => ⟨4, 0, []⟩
  | some G => if G.length = 0 then ⟨1, 0, []⟩ else ⟨2, 0, G⟩
def decideF (R : Room) (T : List EntV) (O : On) (p : PodV) : VerdV × Int :=
  if refusedF T p = 0 then
    match barredF O p with
    | some k => (⟨3, k, []⟩, 0)
    | none => (roomF R T p, 0)
  else (⟨0, 0, []⟩, refusedF T p)
theorem podsOf_len (T : List EntV) : (podsOf T).length = T.length := List.length_map _
theorem podsOf_next {T : List EntV} {k : Nat} {x : EntV} (h : T[k]? = some x) : podsOf (T.take (k + 1)) = podsOf (T.take k) ++ [x.pod] := by
  unfold podsOf
  rw [List.take_add_one, h, List.map_append]; rfl
theorem podsOf_get {T : List EntV} {k : Nat} {y : PodV} (h : (podsOf T)[k]? = some y) : ∃ x, T[k]? = some x ∧ x.pod = y := by
  unfold podsOf at h
  rw [List.getElem?_map] at h
  cases hx : T[k]? with
  | none => rw [hx] at h; cases h
  | some x => rw [hx] at h; exact ⟨x, rfl, by simpa using h⟩
theorem podsOf_ok {T : List EntV} (h : ∀ x ∈ T, x.ok) : ∀ y ∈ podsOf T, y.ok := by
  intro y hy
  unfold podsOf at hy
  obtain ⟨x, hx, rfl⟩ := List.mem_map.1 hy
  exact (h x hx).1
/-- What a table is: few right pods, no two of one name. -/
structure TabOK (T : List EntV) : Prop where
  len : T.length ≤ 64
  right : ∀ x ∈ T, rightB x.pod = true ∧ 1 ≤ x.phase ∧ x.phase ≤ 3
  dist : Dist (podsOf T)
def sameB (G H : List ByteArray) : Bool := decide (G = H)
theorem same_refl (G : List ByteArray) : sameB G G = true := decide_eq_true rfl
theorem same_len {G H : List ByteArray} (h : G.length ≠ H.length) : sameB G H = false := by unfold sameB; exact decide_eq_false (fun e => h (congrArg List.length e))
theorem same_no {G H : List ByteArray} {k : Nat} {s t : ByteArray} (hs : G[k]? = some s) (ht : H[k]? = some t) (h : (s.toList == t.toList) = false) : sameB G H = false := by
  unfold sameB
  refine decide_eq_false (fun e => ?_)
  rw [e] at hs
  rw [hs] at ht
  cases ht
  simp at h
theorem same_next {G H : List ByteArray} {k : Nat} {s t : ByteArray} (hs : G[k]? = some s) (ht : H[k]? = some t) (h : (s.toList == t.toList) = true) (hk : G.take k = H.take k) : G.take (k + 1) = H.take (k + 1) := by
  have e : s = t := str_ext (by simpa using h)
  subst e
  rw [List.take_add_one, List.take_add_one, hs, ht, hk]
/-- A pod that is right, whose name isn't there, in a table that is in order. -/
theorem fit_of {R : Room} {T : List EntV} {p : PodV} (hr : 0 ≤ R.a ∧ 0 ≤ R.b ∧ 0 ≤ R.c) (ht : TabOK T) (hp : rightB p = true) (hi : idIn T p.id = false) : FitOK R (podsOf T) p :=
  ⟨by rw [podsOf_len]; exact ht.len, hr.1, hr.2.1, hr.2.2, hp, fun x hx => by
    refine ⟨?_, idIn_no hi x hx⟩
    unfold podsOf at hx
    obtain ⟨y, hy, rfl⟩ := List.mem_map.1 hx
    exact (ht.right y hy).1, ht.dist⟩
theorem refused_cases (T : List EntV) (p : PodV) : (refusedF T p = 1 ∧ rightB p = false) ∨ (refusedF T p = 5 ∧ rightB p = true ∧ idIn T p.id = true) ∨ (refusedF T p = 6 ∧ rightB p = true ∧ idIn T p.id = false ∧ 64 ≤ T.length) ∨ (refusedF T p = 0 ∧ rightB p = true ∧ idIn T p.id = false ∧ T.length < 64) := by
  unfold refusedF
  cases h1 : rightB p <;> cases h2 : idIn T p.id <;> by_cases h3 : 64 ≤ T.length <;> simp [h3]
  all_goals omega
theorem bars_barred (O : On) (p : PodV) : barredF O p = if O.a && barsB 0 p then some 0 else if O.b && barsB 1 p then some 1 else if O.c && barsB 2 p then some 2 else none := by
  unfold barredF barsB
  cases p.crit <;> cases O.a <;> cases O.b <;> cases O.c <;> simp
end Go.Proofs.Ytbifmmdiekodjaa
