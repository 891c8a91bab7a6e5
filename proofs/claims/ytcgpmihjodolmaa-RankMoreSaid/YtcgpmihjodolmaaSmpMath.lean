
/- Samples: plain lists. -/
import Derived.Test.YtcgpmihjodolmaaUsRd
import Derived.Test.YtcgpmihjodolmaaPodRef
import Derived.Test.YtcgpmihjodolmaaEdgeList
import Derived.Test.YtcgpmihjodolmaaSortG
namespace Go.Proofs.Ytcgpmihjodolmaa
open Go.RowKit Go.Sort Go.Lib
set_option linter.unusedVariables false
set_option linter.unusedSimpArgs false

/-- What one pod uses, read. -/
structure UseV where
  id : ByteArray
  a : Int
  b : Int
  c : Int
instance : Inhabited UseV := ⟨⟨⟨#[]⟩, 0, 0, 0⟩⟩
instance : Inhabited UsgV := ⟨⟨⟨#[]⟩, 0, 0, 0⟩⟩
def UseV.cells (u : UseV) : List Value := [.string u.id, .int .i64 u.a, .int .i64 u.b, .int .i64 u.c]
def UseV.v (u : UseV) : Value := .agg #[.string u.id, .int .i64 u.a, .int .i64 u.b, .int .i64 u.c]
theorem UseV.cells_len (u : UseV) : u.cells.length = 4 := rfl
theorem use_one (u : UseV) : ∀ v ∈ u.cells, v.oneCell' = true := by
  intro v hv; simp only [UseV.cells, List.mem_cons, List.not_mem_nil, or_false] at hv; rcases hv with rfl | rfl | rfl | rfl <;> rfl
theorem uses_one (L : List UseV) : ∀ v ∈ L.flatMap UseV.cells, v.oneCell' = true := by
  intro v hv; obtain ⟨u, _, hu⟩ := List.mem_flatMap.1 hv; exact use_one u v hu
theorem usg_one (u : UsgV) : ∀ v ∈ u.cells, v.oneCell' = true := by
  intro v hv; simp only [UsgV.cells, List.mem_cons, List.not_mem_nil, or_false] at hv; rcases hv with rfl | rfl | rfl | rfl <;> rfl
theorem usgs_one (L : List UsgV) : ∀ v ∈ L.flatMap UsgV.cells, v.oneCell' = true := by
  intro v hv; obtain ⟨u, _, hu⟩ := List.mem_flatMap.1 hv; exact usg_one u v hu
def readU (u : UsgV) : UseV := ⟨u.id, readF u.a, readF u.b, readF u.c⟩
/-- Three numbers, none of them NaN. -/
def all3 (x y z : Nat) : Bool := notNaN x && (notNaN y && notNaN z)
def okU (u : UsgV) : Bool := all3 u.a u.b u.c && nameB u.id
def hasId (L : List UsgV) (s : ByteArray) : Bool := L.any fun u => s.toList == u.id.toList
def idAt (L : List UsgV) (i : Nat) : ByteArray := (L.getD i default).id
def twinAt (L : List UsgV) (i : Nat) : Bool := hasId (L.take i) (idAt L i)
def twiceB (L : List UsgV) : Bool := (List.range L.length).any (twinAt L)
def rowOk (L : List UsgV) (i : Nat) : Bool := all3 (L.getD i default).a (L.getD i default).b (L.getD i default).c && (!twinAt L i && nameB (idAt L i))
def rightR (r : RawV) (L : List UsgV) : Bool := decide (L.length ≤ 128) && (all3 r.x r.y r.z && (List.range L.length).all (rowOk L))

theorem any_range {n : Nat} {p : Nat → Bool} : (List.range n).any p = true ↔ ∃ i, i < n ∧ p i = true := by
  rw [List.any_eq_true]; simp
theorem all_range {n : Nat} {p : Nat → Bool} : (List.range n).all p = true ↔ ∀ i, i < n → p i = true := by
  rw [List.all_eq_true]; simp
theorem getD_of {L : List UsgV} {i : Nat} {u : UsgV} (h : L[i]? = some u) : L.getD i default = u := by
  rw [List.getD_eq_getElem?_getD, h]; rfl
theorem all_getD {L : List UsgV} {p : UsgV → Bool} : L.all p = (List.range L.length).all fun i => p (L.getD i default) := by
  rw [Bool.eq_iff_iff, List.all_eq_true, all_range]
  constructor
  · intro h i hi
    refine h _ ?_
    rw [List.getD_eq_getElem?_getD, List.getElem?_eq_getElem hi]
    exact List.getElem_mem hi
  · intro h u hu
    obtain ⟨i, hi, rfl⟩ := List.getElem_of_mem hu
    have := h i hi
    rwa [List.getD_eq_getElem?_getD, List.getElem?_eq_getElem hi] at this
/-- The two ways to ask whether a raw sample may be read. -/
theorem right_eq (r : RawV) (L : List UsgV) : rightR r L = (decide (L.length ≤ 128) && (!twiceB L && (all3 r.x r.y r.z && L.all okU))) := by
  unfold rightR
  rw [Bool.eq_iff_iff]
  simp only [Bool.and_eq_true, all_getD, all_range, rowOk, okU, Bool.not_eq_true']
  constructor
  · rintro ⟨h1, h2, h3⟩
    refine ⟨h1, ?_, h2, fun i hi => ⟨(h3 i hi).1, (h3 i hi).2.2⟩⟩
    cases ht : twiceB L with
    | false => rfl
    | true =>
      obtain ⟨i, hi, hp⟩ := any_range.1 ht
      have := (h3 i hi).2.1
      rw [hp] at this; cases this
  · rintro ⟨h1, ht, h2, h3⟩
    refine ⟨h1, h2, fun i hi => ⟨(h3 i hi).1, ?_, (h3 i hi).2⟩⟩
    cases hp : twinAt L i with
    | false => rfl
    | true => unfold twiceB at ht; rw [any_range.2 ⟨i, hi, hp⟩] at ht; cases ht

theorem hasId_next {L : List UsgV} {k : Nat} {u : UsgV} {s : ByteArray} (h : L[k]? = some u) : hasId (L.take (k + 1)) s = (hasId (L.take k) s || (s.toList == u.id.toList)) := by
  unfold hasId; rw [List.take_add_one, h, List.any_append]; simp
theorem idAt_of {L : List UsgV} {i : Nat} {u : UsgV} (h : L[i]? = some u) : idAt L i = u.id := by unfold idAt; rw [getD_of h]

/-- The order of uses: by names. -/
def ltU (x y : UseV) : Bool := decide (x.id.toList < y.id.toList)
theorem swoU : Go.Sort.SWO ltU where
  irrefl x := by simp [ltU, List.lt_irrefl]
  trans x y z h1 h2 := by
    simp only [ltU, decide_eq_true_eq] at *
    exact List.lt_trans h1 h2
  ntrans x y z h1 h2 := by
    simp only [ltU, decide_eq_false_iff_not, List.not_lt] at *
    exact List.le_trans h2 h1
def sortU (L : List UseV) : List UseV := sortBy ltU L
/-- No two of one name. -/
def DistU (L : List UsgV) : Prop := L.Pairwise (fun a b => ¬ a.id.toList = b.id.toList)
theorem dist_of {L : List UsgV} (h : twiceB L = false) : DistU L := by
  unfold DistU
  rw [List.pairwise_iff_getElem]
  intro i j hi hj hij e
  have ht : twinAt L j = true := by
    unfold twinAt hasId
    rw [List.any_eq_true]
    refine ⟨L[i], ?_, ?_⟩
    · rw [List.mem_take_iff_getElem]
      exact ⟨i, by omega, rfl⟩
    · rw [idAt_of (List.getElem?_eq_getElem hj), e]; simp
  have := any_range (n := L.length) (p := twinAt L) |>.2 ⟨j, hj, ht⟩
  unfold twiceB at h
  rw [h] at this; cases this
theorem str_extU {s t : ByteArray} (h : s.toList = t.toList) : s = t := by
  rw [ByteArray.toList_eq, ByteArray.toList_eq] at h
  cases s; cases t
  simp only at h
  congr 1
  exact Array.toList_inj.1 h
theorem DistU.tied {L : List UsgV} (h : DistU L) : Tied ltU (L.map readU) := by
  intro x hx y hy h1 h2
  obtain ⟨u, hu, rfl⟩ := List.mem_map.1 hx
  obtain ⟨v, hv, rfl⟩ := List.mem_map.1 hy
  replace h1 : ¬ u.id.toList < v.id.toList := of_decide_eq_false h1
  replace h2 : ¬ v.id.toList < u.id.toList := of_decide_eq_false h2
  replace h1 := List.not_lt.1 h1
  replace h2 := List.not_lt.1 h2
  have e : u.id.toList = v.id.toList := List.le_antisymm h2 h1
  have : u = v := by
    clear h1 h2 hx hy
    induction L with
    | nil => cases hu
    | cons a L ih =>
      obtain ⟨h1, h2⟩ := List.pairwise_cons.1 h
      rcases List.mem_cons.1 hu with eu | hu2
      · rcases List.mem_cons.1 hv with ev | hv2
        · rw [eu, ev]
        · exact absurd (eu ▸ e) (h1 v hv2)
      · rcases List.mem_cons.1 hv with ev | hv2
        · exact absurd (ev ▸ e.symm) (h1 u hu2)
        · exact ih h2 hu2 hv2
  rw [this]
/-- A sample, read. -/
def readL (L : List UsgV) : List UseV := sortU (L.map readU)
theorem readL_len (L : List UsgV) : (readL L).length = L.length := by unfold readL sortU; rw [sortBy_len, List.length_map]
theorem readL_next {L : List UsgV} {k : Nat} {u : UsgV} (hd : DistU L) (h : L[k]? = some u) : insBy ltU (readU u) (readL (L.take k)) = readL (L.take (k + 1)) := by
  unfold readL sortU
  have e : L.take (k + 1) = L.take k ++ [u] := by rw [List.take_add_one, h]; rfl
  rw [e, List.map_append, List.map_cons, List.map_nil]
  refine insBy_sorts swoU ?_
  rw [← List.map_singleton (f := readU), ← List.map_append, ← e]
  exact Tied.sub hd.tied (fun x hx => by
    obtain ⟨v, hv, rfl⟩ := List.mem_map.1 hx
    exact List.mem_map.2 ⟨v, List.mem_of_mem_take hv, rfl⟩)
theorem readL_perm {L M : List UsgV} (hd : DistU L) (hp : M.Perm L) : readL M = readL L := sortBy_congr swoU hd.tied (hp.map readU)
/-- What a pod uses. -/
def ofF (L : List UseV) (s : ByteArray) : UseV := (L.find? fun u => u.id.toList == s.toList).getD default
end Go.Proofs.Ytcgpmihjodolmaa
