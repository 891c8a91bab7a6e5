
/- States as lists: which are right; their bytes. -/
import Derived.Test.YtpmkhimmlpnbpaaStRd
import Derived.Test.YtpmkhimmlpnbpaaPodBackMath
import Derived.Test.YtpmkhimmlpnbpaaPodFew
namespace Go.Proofs.Ytpmkhimmlpnbpaa
open Go.RowKit
set_option linter.unusedVariables false
set_option linter.unusedSimpArgs false
instance : Inhabited EntV := ⟨⟨⟨⟨#[]⟩, 0, false, 0, 0, 0, 0, 0, 0, ⟨#[]⟩, 0⟩, 0⟩⟩
def lessB (x y : EntV) : Bool := Op.bytesLess x.pod.id.toList y.pod.id.toList
def phB (n : Int) : Bool := decide (1 ≤ n) && decide (n ≤ 3)
def entB (x : EntV) : Bool := rightB x.pod && phB x.phase
/-- Does the entry at k stand right, behind the one ahead of it? -/
def stepB (L : List EntV) (k : Nat) : Bool := match L[k]? with
  | none => true
  | some x => entB x && (match k with | 0 => true | j + 1 => match L[j]? with | none => true | some y => lessB y x)
def chkB (L : List EntV) : Nat → Bool
  | 0 => true
  | k + 1 => chkB L k && stepB L k
def stB (r : Int) (L : List EntV) : Bool := chkB L L.length && (decide (0 ≤ r) && decide (r ≤ 1099511627776) && decide (L.length ≤ 64))
theorem chk_no {L : List EntV} {k n : Nat} (hk : k < n) (h : stepB L k = false) : chkB L n = false := by
  induction n with
  | zero => omega
  | succ n ih =>
    unfold chkB
    by_cases e : k = n
    · subst e; rw [h, Bool.and_false]
    · rw [ih (by omega), Bool.false_and]
theorem step_0 {L : List EntV} {x : EntV} (h : L[0]? = some x) : stepB L 0 = entB x := by
  unfold stepB; rw [h]; simp
theorem step_s {L : List EntV} {k : Nat} {x y : EntV} (h : L[k + 1]? = some x) (hy : L[k]? = some y) : stepB L (k + 1) = (entB x && lessB y x) := by
  unfold stepB; rw [h]; simp [hy]
theorem chk_ent {L : List EntV} : ∀ {n : Nat}, chkB L n = true → ∀ (k : Nat) (x : EntV), k < n → L[k]? = some x → entB x = true := by
  intro n
  induction n with
  | zero => intro h k x hk; omega
  | succ n ih =>
    intro h k x hk hx
    unfold chkB at h
    rw [Bool.and_eq_true] at h
    by_cases e : k = n
    · subst e
      have h2 := h.2
      unfold stepB at h2
      rw [hx] at h2
      simp only [Bool.and_eq_true] at h2
      exact h2.1
    · exact ih h.1 k x (by omega) hx
theorem chk_less {L : List EntV} : ∀ {n : Nat}, chkB L n = true → ∀ (k : Nat) (x y : EntV), k + 1 < n → L[k]? = some y → L[k + 1]? = some x → lessB y x = true := by
  intro n
  induction n with
  | zero => intro h k x y hk; omega
  | succ n ih =>
    intro h k x y hk hy hx
    unfold chkB at h
    rw [Bool.and_eq_true] at h
    by_cases e : k + 1 = n
    · subst e
      have h2 := h.2
      rw [step_s hx hy, Bool.and_eq_true] at h2
      exact h2.2
    · exact ih h.1 k x y (by omega) hy hx
theorem st_ent {r : Int} {L : List EntV} (h : stB r L = true) : ∀ x ∈ L, entB x = true := by
  intro x hx
  unfold stB at h
  rw [Bool.and_eq_true] at h
  obtain ⟨k, hk⟩ := List.getElem?_of_mem hx
  exact chk_ent h.1 k x (by obtain ⟨h1, _⟩ := List.getElem?_eq_some_iff.1 hk; exact h1) hk
theorem st_nums {r : Int} {L : List EntV} (h : stB r L = true) : 0 ≤ r ∧ r ≤ 1099511627776 ∧ L.length ≤ 64 := by
  unfold stB at h
  simp only [Bool.and_eq_true, decide_eq_true_eq] at h
  exact ⟨h.2.1.1, h.2.1.2, h.2.2⟩
def fewS (L : List EntV) : Bool := (L.take (min L.length 200)).all (fun x => smallB x.pod) && decide (L.length ≤ 70)
theorem alls_next (f : EntV → Bool) (L : List EntV) {k : Nat} {p : EntV} (h : L[k]? = some p) : (L.take (k + 1)).all f = ((L.take k).all f && f p) := by
  rw [List.take_add_one, h, List.all_append]; simp
theorem alls_not (f : EntV → Bool) (L : List EntV) {k n : Nat} {p : EntV} (h : L[k]? = some p) (hf : f p = false) (hk : k < n) : (L.take n).all f = false := by
  rw [List.all_eq_false]
  refine ⟨p, ?_, by rw [hf]; simp⟩
  obtain ⟨h1, rfl⟩ := List.getElem?_eq_some_iff.1 h
  exact List.mem_take_iff_getElem.2 ⟨k, by omega, rfl⟩
/-- Bytes. -/
def onI (o : On) : Int := (if o.a then 1 else 0) + (if o.b then 2 else 0) + (if o.c then 4 else 0)
def EntV.bytes (x : EntV) : List Int := x.phase :: x.pod.bytes
def stBytes (r : Nat) (o : On) (L : List EntV) : List Int := W8 r ++ (onI o :: (L.length : Int) :: L.flatMap EntV.bytes)
end Go.Proofs.Ytpmkhimmlpnbpaa
