
/- Who goes for a critical pod: plain lists. -/
import Derived.Test.YtbifmmdiekodjaaVicB
import Derived.Sort.LotA
namespace Go.Proofs.Ytbifmmdiekodjaa
open Go.RowKit
set_option linter.unusedVariables false
set_option linter.unusedSimpArgs false

instance : Inhabited PodV := ⟨⟨⟨#[]⟩, 0, false, 0, 0, 0, 0, 0, 0, ⟨#[]⟩, 0⟩⟩
theorem str_ext {s t : ByteArray} (h : s.toList = t.toList) : s = t := by
  rw [ByteArray.toList_eq, ByteArray.toList_eq] at h
  cases s; cases t
  simp only at h
  congr 1
  exact Array.toList_inj.1 h
/-- The order in which pods are asked to stay: the more important ones first. -/
def ltP (x y : PodV) : Bool := decide (y.prio < x.prio ∨ (x.prio = y.prio ∧ x.id.toList < y.id.toList))
theorem lt_cfP (x y : PodV) : ltOf cfP x y = ltP x y := by
  unfold ltOf cfP ltP
  rcases Int.lt_trichotomy y.prio x.prio with h | h | h
  · have e : Lib.compareInt y.prio x.prio = -1 := by unfold Lib.compareInt; rw [if_pos h]
    rw [e]
    simp [orI, h]
  · have e : Lib.compareInt y.prio x.prio = 0 := by unfold Lib.compareInt; rw [if_neg (by omega), if_neg (by omega)]
    rw [e]
    unfold orI cmpS
    rw [bytesLess_eq]
    by_cases h1 : x.id.toList < y.id.toList
    · simp [h1, h]
    · by_cases h2 : (x.id.toList == y.id.toList) = true
      · simp [h1, h2, h]
      · simp [h1, h2, h]
  · have e : Lib.compareInt y.prio x.prio = 1 := by unfold Lib.compareInt; rw [if_neg (by omega), if_pos h]
    have h2 : ¬ (y.prio < x.prio) := by omega
    have h3 : ¬ x.prio = y.prio := by omega
    rw [e]
    simp [orI, h2, h3]
theorem swoP : Go.Sort.SWO ltP where
  irrefl x := by simp [ltP, List.lt_irrefl]
  trans x y z h1 h2 := by
    simp only [ltP, decide_eq_true_eq] at *
    rcases h1 with h1 | ⟨h1, h1'⟩
    · rcases h2 with h2 | ⟨h2, _⟩
      · exact .inl (by omega)
      · exact .inl (by omega)
    · rcases h2 with h2 | ⟨h2, h2'⟩
      · exact .inl (by omega)
      · exact .inr ⟨by omega, List.lt_trans h1' h2'⟩
  ntrans x y z h1 h2 := by
    simp only [ltP, decide_eq_false_iff_not, not_or, not_and, List.not_lt] at *
    refine ⟨by omega, fun h => ?_⟩
    have e1 : x.prio = y.prio := by omega
    have e2 : y.prio = z.prio := by omega
    exact List.le_trans (h2.2 e2) (h1.2 e1)
theorem swo_cfP : Go.Sort.SWO (ltOf cfP) := by
  rw [show ltOf cfP = ltP from funext fun x => funext fun y => lt_cfP x y]; exact swoP
/-- No two of one name. -/
def Dist (L : List PodV) : Prop := L.Pairwise (fun a b => a.id ≠ b.id)
theorem Dist.mem {L : List PodV} (h : Dist L) : ∀ {x y : PodV}, x ∈ L → y ∈ L → x.id = y.id → x = y := by
  induction L with
  | nil => intro x y hx; cases hx
  | cons a L ih =>
    intro x y hx hy e
    obtain ⟨h1, h2⟩ := List.pairwise_cons.1 h
    rcases List.mem_cons.1 hx with ex | hx2
    · rcases List.mem_cons.1 hy with ey | hy2
      · rw [ex, ey]
      · exact absurd (ex ▸ e) (h1 y hy2)
    · rcases List.mem_cons.1 hy with ey | hy2
      · exact absurd (ey ▸ e.symm) (h1 x hx2)
      · exact ih h2 hx2 hy2 e
theorem Dist.sub {L M : List PodV} (h : Dist L) (hs : M.Sublist L) : Dist M := List.Pairwise.sublist hs h
theorem Dist.perm {L M : List PodV} (h : Dist L) (hp : L.Perm M) : Dist M := hp.pairwise h (fun {a b} k e => k e.symm)
def sortP (L : List PodV) : List PodV := L.mergeSort (fun x y => !ltP y x)
theorem sortP_perm (L : List PodV) : (sortP L).Perm L := List.mergeSort_perm _ _
theorem asymP {x y : PodV} (h : ltP x y = true) : ltP y x = false := swoP.asymmA h
theorem sortP_pw (L : List PodV) : (sortP L).Pairwise (fun x y => (!ltP y x) = true) := by
  refine List.pairwise_mergeSort ?_ ?_ _
  · intro a b c h1 h2
    simp only [Bool.not_eq_true'] at h1 h2 ⊢
    exact swoP.ntrans c b a h2 h1
  · intro a b
    cases h : ltP b a with
    | false => simp
    | true => simp [asymP h]
theorem ltP_anti {x y : PodV} (h1 : ltP x y = false) (h2 : ltP y x = false) : x.id = y.id ∧ x.prio = y.prio := by
  simp only [ltP, decide_eq_false_iff_not, not_or, not_and, List.not_lt] at h1 h2
  have e : x.prio = y.prio := by omega
  exact ⟨str_ext (List.le_antisymm (h2.2 e.symm) (h1.2 e)), e⟩
/-- The order of pods of unlike names is one. -/
theorem sortP_unique {L M : List PodV} (hd : Dist L) (hp : M.Perm L) (hs : M.Pairwise (fun x y => ltP y x = false)) : M = sortP L := by
  refine List.Perm.eq_of_pairwise (le := fun x y => (!ltP y x) = true) ?_ (hs.imp (fun h => by rw [h]; rfl)) (sortP_pw L) (hp.trans (sortP_perm L).symm)
  intro a b ha hb h1 h2
  simp only [Bool.not_eq_true'] at h1 h2
  exact hd.mem (hp.mem_iff.1 ha) ((sortP_perm L).mem_iff.1 hb) (ltP_anti h2 h1).1
theorem sortP_congr {L M : List PodV} (hd : Dist L) (hp : M.Perm L) : sortP M = sortP L :=
  sortP_unique hd ((sortP_perm M).trans hp) ((sortP_pw M).imp (fun h => by simpa using h))
theorem sortP_len (L : List PodV) : (sortP L).length = L.length := (sortP_perm L).length_eq

/-- Those that go, in the order in which they were asked; those that stay. -/
def goF (R : Room) : List PodV → List PodV → List PodV
  | _, [] => []
  | stay, v :: m => if fitsB R (stay ++ [v]) then goF R (stay ++ [v]) m else v :: goF R stay m
def stayF (R : Room) : List PodV → List PodV → List PodV
  | stay, [] => stay
  | stay, v :: m => if fitsB R (stay ++ [v]) then stayF R (stay ++ [v]) m else stayF R stay m
def mayF (L : List PodV) (p : PodV) : List PodV := L.filter (mayB p)
def stF (L : List PodV) (p : PodV) : List PodV := L.filter (fun v => !mayB p v)
def sortS (G : List ByteArray) : List ByteArray := ((G.map (·.toList)).mergeSort (fun x y => decide (x ≤ y))).map (fun l => ⟨l.toArray⟩)
/-- Who goes: none of them, where there is no way. -/
def chooseF (R : Room) (L : List PodV) (p : PodV) : Option (List ByteArray) :=
  if fitsB R (L ++ [p]) then some []
  else if fitsB R (stF L p ++ [p]) then some (sortS ((goF R (stF L p ++ [p]) (sortP (mayF L p))).map PodV.id))
  else none
theorem filt_next {f : PodV → Bool} {L : List PodV} {k : Nat} {x : PodV} (h : L[k]? = some x) (hf : f x = true) : (L.take (k + 1)).filter f = (L.take k).filter f ++ [x] := by
  rw [List.take_add_one, h, List.filter_append]; simp [hf]
theorem filt_same {f : PodV → Bool} {L : List PodV} {k : Nat} {x : PodV} (h : L[k]? = some x) (hf : f x = false) : (L.take (k + 1)).filter f = (L.take k).filter f := by
  rw [List.take_add_one, h, List.filter_append]; simp [hf]
theorem filt_len (f : PodV → Bool) (L : List PodV) (k : Nat) : ((L.take k).filter f).length ≤ L.length :=
  Nat.le_trans (List.length_filter_le _ _) (by rw [List.length_take]; omega)
end Go.Proofs.Ytbifmmdiekodjaa
