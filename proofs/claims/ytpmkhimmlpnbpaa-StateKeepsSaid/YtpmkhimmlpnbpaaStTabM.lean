
/- Where an entry stands; the lists with it, and without it. -/
import Derived.Test.YtpmkhimmlpnbpaaStMath
import Derived.Test.YtpmkhimmlpnbpaaRowK
namespace Go.Proofs.Ytpmkhimmlpnbpaa
open Go.RowKit
set_option linter.unusedVariables false
set_option linter.unusedSimpArgs false
def lessS (s : ByteArray) (x : EntV) : Bool := Op.bytesLess x.pod.id.toList s.toList
def plF (L : List EntV) (s : ByteArray) : Nat := (L.takeWhile (lessS s)).length
def thF (L : List EntV) (s : ByteArray) : Bool := match L[plF L s]? with
  | none => false
  | some x => x.pod.id.toList == s.toList
def withF (L : List EntV) (e : EntV) : List EntV := if thF L e.pod.id then L.set (plF L e.pod.id) e else L.take (plF L e.pod.id) ++ e :: L.drop (plF L e.pod.id)
def woutF (L : List EntV) (s : ByteArray) : List EntV := if thF L s then L.take (plF L s) ++ L.drop (plF L s + 1) else L
theorem plF_le (L : List EntV) (s : ByteArray) : plF L s ≤ L.length := by
  unfold plF; exact List.Sublist.length_le (List.takeWhile_sublist _)
theorem plF_at {L : List EntV} {s : ByteArray} {k : Nat} (hk : k ≤ L.length) (hlo : (L.take k).all (lessS s) = true) (hhi : ∀ x, L[k]? = some x → lessS s x = false) : plF L s = k := by
  unfold plF
  have h : L = L.take k ++ L.drop k := (List.take_append_drop k L).symm
  rw [h, List.takeWhile_append_of_pos (fun x hx => List.all_eq_true.1 hlo x hx), List.length_append, List.length_take, Nat.min_eq_left hk]
  rcases Nat.lt_or_ge k L.length with q | q
  · rw [List.drop_eq_getElem_cons q, List.takeWhile_cons_of_neg (by rw [hhi _ (List.getElem?_eq_getElem q)]; simp)]
    rfl
  · rw [List.drop_of_length_le q]; rfl
theorem plF_lo {L : List EntV} {s : ByteArray} : (L.take (plF L s)).all (lessS s) = true := by
  have h : L.take (plF L s) = L.takeWhile (lessS s) := by
    unfold plF
    conv => lhs; arg 2; rw [← List.takeWhile_append_dropWhile (p := lessS s) (l := L)]
    rw [List.take_left]
  rw [h, List.all_takeWhile]
theorem plF_hi {L : List EntV} {s : ByteArray} {x : EntV} (h : L[plF L s]? = some x) : lessS s x = false := by
  have e : L = L.takeWhile (lessS s) ++ L.dropWhile (lessS s) := (List.takeWhile_append_dropWhile).symm
  unfold plF at h
  rw [e, List.getElem?_append_right (by rw [← e]; exact Nat.le_refl _), ← e, Nat.sub_self] at h
  cases hd : L.dropWhile (lessS s) with
  | nil => rw [hd] at h; cases h
  | cons y t =>
    rw [hd] at h
    simp only [List.getElem?_cons_zero, Option.some.injEq] at h
    subst h
    have := List.head_dropWhile_not (p := lessS s) (l := L) (by rw [hd]; simp)
    simp only [hd, List.head_cons] at this
    exact this
theorem thF_at {L : List EntV} {s : ByteArray} (h : thF L s = true) : ∃ x, L[plF L s]? = some x ∧ x.pod.id.toList = s.toList := by
  unfold thF at h
  split at h
  · cases h
  · rename_i x hx
    exact ⟨x, hx, by simpa using h⟩
theorem alls_next' (f : EntV → Bool) (L : List EntV) {k : Nat} {p : EntV} (h : L[k]? = some p) : (L.take (k + 1)).all f = ((L.take k).all f && f p) := alls_next f L h
end Go.Proofs.Ytpmkhimmlpnbpaa
