
/- bilgeref21.Fit: contract. -/
import Derived.Test.YtbifmmdiekodjaaVicF
namespace Go.Proofs.Ytbifmmdiekodjaa
open Go.RowKit
set_option linter.unusedVariables false
set_option linter.unusedSimpArgs false

/-- What a table, its room and a pod must be. -/
structure FitOK (R : Room) (L : List PodV) (p : PodV) : Prop where
  len : L.length ≤ 64
  ra : 0 ≤ R.a
  rb : 0 ≤ R.b
  rc : 0 ≤ R.c
  rp : rightB p = true
  rl : ∀ x ∈ L, rightB x = true ∧ x.id ≠ p.id
  dist : Dist L
theorem dist_snoc {L : List PodV} {k : Nat} {x : PodV} (h : L[k]? = some x) (hd : Dist (L.take k)) (hn : ∀ y ∈ L.take k, y.id ≠ x.id) : Dist (L.take (k + 1)) := by
  rw [List.take_add_one, h]
  unfold Dist at *
  rw [List.pairwise_append]
  exact ⟨hd, by simp, fun a ha b hb => by simp at hb; subst hb; exact hn a ha⟩
theorem id_beq (x y : PodV) : (x.id.toList == y.id.toList) = true → x.id = y.id := fun h => str_ext (by simpa using h)
theorem id_bne {x y : PodV} (h : (x.id.toList == y.id.toList) = false) : x.id ≠ y.id := fun e => by rw [e] at h; simp at h

def FitP (R : Room) (L : List PodV) (p : PodV) (w : World) (e : Ending) (w' : World) : Prop := (∃ b, e = .returned (.bool b) ∧ (b = true → FitOK R L p)) ∧ Below w.heap.size w w'
theorem FitP.no {R : Room} {L : List PodV} {p : PodV} {w w' : World} {e : Ending} (he : e = .returned (.bool false)) (hb : Below w.heap.size w w') : FitP R L p w e w' := ⟨⟨false, he, fun h => by cases h⟩, hb⟩
theorem FitP.yes {R : Room} {L : List PodV} {p : PodV} {w w' : World} {e : Ending} (he : e = .returned (.bool true)) (h : FitOK R L p) (hb : Below w.heap.size w w') : FitP R L p w e w' := ⟨⟨true, he, fun _ => h⟩, hb⟩
end Go.Proofs.Ytbifmmdiekodjaa
