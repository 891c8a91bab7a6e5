
/- Stage 16: runtimes that are kept well. -/
import Derived.Test.YtampkolkbjmmkaaWd7
import Derived.Test.YtampkolkbjmmkaaImRf3
namespace Go.Proofs.Ytampkolkbjmmkaa
open Go.RowKit Go.Sort
set_option linter.unusedVariables false
set_option linter.unusedSimpArgs false
theorem lt_of_not {x y : ByteArray} (h1 : ¬ y.toList < x.toList) (h2 : (y.toList == x.toList) = false) : x.toList < y.toList := by
  by_cases h : x.toList < y.toList
  · exact h
  · exact absurd (List.le_antisymm (List.not_lt.1 h) (List.not_lt.1 h1)) (by simpa using h2)
theorem put_name (L : List ImgV) (s : ByteArray) (r : Int) (x : ImgV) : (if (x.name.toList == s.toList) = true then { x with last := r } else x).name = x.name := by split <;> rfl
theorem put_rises {L : List ImgV} (h : Rises L) (s : ByteArray) (size round : Int) : Rises (putI L s size round) := by
  cases ht : thereB L s with
  | true =>
    unfold putI
    rw [if_pos ht]
    unfold Rises at *
    rw [List.pairwise_map]
    exact h.imp (fun {a b} q => by rw [put_name L, put_name L]; exact q)
  | false =>
    rw [put_no ht]
    have hp := parts_of h s
    have hin : ∀ y ∈ L.drop (placeF L s), s.toList < y.name.toList := by
      intro y hy
      obtain ⟨i, hi⟩ := List.getElem?_of_mem hy
      rw [List.getElem?_drop] at hi
      exact lt_of_not (hp.hi _ y (by omega) hi) (there_not ht hi)
    have hlo : ∀ y ∈ L.take (placeF L s), y.name.toList < s.toList := by
      intro y hy
      obtain ⟨i, hi⟩ := List.getElem?_of_mem hy
      have hik : i < placeF L s := by
        rcases Nat.lt_or_ge i (placeF L s) with q | q
        · exact q
        · rw [List.getElem?_eq_none (by rw [List.length_take]; omega)] at hi; cases hi
      rw [List.getElem?_take_of_lt hik] at hi
      exact hp.lo i y hik hi
    refine List.pairwise_append.2 ⟨List.Pairwise.sublist (List.take_sublist _ _) h, List.pairwise_cons.2 ⟨hin, List.Pairwise.sublist (List.drop_sublist _ _) h⟩, ?_⟩
    intro x hx y hy
    rcases List.mem_cons.1 hy with rfl | hy
    · exact hlo x hx
    · exact List.lt_trans (hlo x hx) (hin y hy)
theorem put_len_le (L : List ImgV) (s : ByteArray) (size round : Int) : (putI L s size round).length ≤ L.length + 1 := by
  unfold putI
  split
  · rw [List.length_map]; omega
  · simp; omega
theorem drop_len_le (L : List ImgV) (s : ByteArray) : (dropI L s).length ≤ L.length := List.length_filter_le _ _
theorem thereC_not {L : List ContV} {s : ByteArray} (h : thereC L s = false) {k : Nat} {x : ContV} (hx : L[k]? = some x) : (x.id.toList == s.toList) = false := by
  unfold thereC at h
  have := List.any_eq_false.1 h x (List.mem_of_getElem? hx)
  simpa using this
theorem create_rises {L : List ContV} (h : RisesC L) (s : ByteArray) (round : Int) : RisesC (createC L s round) := by
  unfold createC
  cases ht : thereC L s with
  | true => exact h
  | false =>
    rw [if_neg (by decide)]
    have hp := partsC_of h s
    have hin : ∀ y ∈ L.drop (placeC L s), s.toList < y.id.toList := by
      intro y hy
      obtain ⟨i, hi⟩ := List.getElem?_of_mem hy
      rw [List.getElem?_drop] at hi
      exact lt_of_not (hp.hi _ y (by omega) hi) (thereC_not ht hi)
    have hlo : ∀ y ∈ L.take (placeC L s), y.id.toList < s.toList := by
      intro y hy
      obtain ⟨i, hi⟩ := List.getElem?_of_mem hy
      have hik : i < placeC L s := by
        rcases Nat.lt_or_ge i (placeC L s) with q | q
        · exact q
        · rw [List.getElem?_eq_none (by rw [List.length_take]; omega)] at hi; cases hi
      rw [List.getElem?_take_of_lt hik] at hi
      exact hp.lo i y hik hi
    refine List.pairwise_append.2 ⟨List.Pairwise.sublist (List.take_sublist _ _) h, List.pairwise_cons.2 ⟨hin, List.Pairwise.sublist (List.drop_sublist _ _) h⟩, ?_⟩
    intro x hx y hy
    rcases List.mem_cons.1 hy with rfl | hy
    · exact hlo x hx
    · exact List.lt_trans (hlo x hx) (hin y hy)
theorem map_set_same {α β : Type} {f : α → β} {L : List α} {p : Nat} {x y : α} (h : L[p]? = some x) (e : f y = f x) : (L.set p y).map f = L.map f := by
  apply List.ext_getElem?
  intro i
  rw [List.getElem?_map, List.getElem?_map, List.getElem?_set]
  by_cases hi : p = i
  · subst hi
    have hl := (List.getElem?_eq_some_iff.1 h).1
    rw [if_pos rfl, if_pos hl, h]
    exact congrArg some e
  · rw [if_neg hi]
theorem risesC_ids {L K : List ContV} (h : RisesC L) (e : K.map (fun x => x.id) = L.map (fun x => x.id)) : RisesC K := by
  unfold RisesC at *
  have h2 : (L.map (fun x => x.id)).Pairwise (fun a b => a.toList < b.toList) := by rw [List.pairwise_map]; exact h
  rw [← e, List.pairwise_map] at h2
  exact h2
theorem settle_rises {L : List ContV} (h : RisesC L) {p : Nat} {x : ContV} (hx : L[p]? = some x) (what : Int) (well : Bool) (round r : Int) : RisesC (settleC L p x what well round r) := by
  unfold settleC
  split
  · rw [← List.eraseIdx_eq_take_drop_succ]
    exact List.Pairwise.sublist (List.eraseIdx_sublist _ _) h
  · exact risesC_ids h (map_set_same hx rfl)
theorem settle_len (L : List ContV) (p : Nat) (x : ContV) (what : Int) (well : Bool) (round r : Int) : (settleC L p x what well round r).length ≤ L.length := by
  unfold settleC
  split
  · rw [List.length_append, List.length_take, List.length_drop]; omega
  · rw [List.length_set]; exact Nat.le_refl _
theorem newC_ok {x : ContV} (h : x.ok) (what : Int) (well : Bool) {round : Int} (hr : InI round) (r : Int) : (newC x what well round r).ok := by
  obtain ⟨h1, h2, h3, h4⟩ := h
  have hb := toS_bd x.state what
  refine ⟨h1, ?_, ?_, ?_⟩
  · show InI (doS x.state x.tries what well r)
    unfold doS failS
    split
    · exact h2
    · split
      · unfold InI; omega
      · split
        · unfold InI; omega
        · exact h2
  · show InI (doN x.state x.tries what well r)
    unfold doN
    rw [satAdd_1]
    unfold InI at *
    split
    · exact h3
    · split
      · omega
      · split <;> omega
  · show InI (if well then round else x.last)
    split
    · exact hr
    · exact h4
theorem settle_ok {L : List ContV} (h : ∀ x ∈ L, x.ok ∧ x.state ≠ 5) {p : Nat} {x : ContV} (hx : L[p]? = some x) (what : Int) (well : Bool) {round : Int} (hr : InI round) (r : Int) : ∀ y ∈ settleC L p x what well round r, y.ok ∧ y.state ≠ 5 := by
  intro y hy
  unfold settleC at hy
  split at hy
  · rw [← List.eraseIdx_eq_take_drop_succ] at hy
    exact h y (List.mem_of_mem_eraseIdx hy)
  · next hne =>
    rcases List.mem_or_eq_of_mem_set hy with hy | rfl
    · exact h y hy
    · exact ⟨newC_ok (h x (List.mem_of_getElem? hx)).1 what well hr r, hne⟩
structure WorldV.Good (n : Nat) (m : WorldV) : Prop where
  rises : RisesC m.boxes
  risesI : Rises m.images
  len : m.boxes.length ≤ n
  lenI : m.images.length ≤ n
  outs : m.outs.length ≤ 4096
  ok : ∀ x ∈ m.boxes, x.ok ∧ x.state ≠ 5
theorem WorldV.Good.mono {n k : Nat} {m : WorldV} (h : m.Good n) (hk : n ≤ k) : m.Good k := ⟨h.rises, h.risesI, Nat.le_trans h.len hk, Nat.le_trans h.lenI hk, h.outs, h.ok⟩
theorem good_new (r : Int) : (⟨r, [], [], []⟩ : WorldV).Good 0 := ⟨List.Pairwise.nil, List.Pairwise.nil, Nat.le_refl _, Nat.le_refl _, by simp, fun x hx => by cases hx⟩
theorem good_create {n : Nat} {m : WorldV} (h : m.Good n) {s : ByteArray} (hs : s.size ≤ maxLen) {round : Int} (hr : InI round) : ({ m with boxes := createC m.boxes s round } : WorldV).Good (n + 1) := by
  refine ⟨create_rises h.rises s round, h.risesI, ?_, Nat.le_succ_of_le h.lenI, h.outs, ?_⟩
  · have := h.len
    show (createC m.boxes s round).length ≤ n + 1
    unfold createC
    split
    · omega
    · simp only [List.length_append, List.length_cons, List.length_take, List.length_drop]; omega
  · intro x hx
    replace hx : x ∈ createC m.boxes s round := hx
    unfold createC at hx
    split at hx
    · exact h.ok x hx
    · rcases List.mem_append.1 hx with hx | hx
      · exact h.ok x (List.mem_of_mem_take hx)
      · rcases List.mem_cons.1 hx with rfl | hx
        · exact ⟨⟨hs, by unfold InI; simp, by unfold InI; simp, hr⟩, by simp⟩
        · exact h.ok x (List.mem_of_mem_drop hx)
theorem good_took {n : Nat} {m : WorldV} (h : m.Good n) : m.took.Good n := ⟨h.rises, h.risesI, h.len, h.lenI, by have := h.outs; show m.outs.tail.length ≤ 4096; rw [List.length_tail]; omega, h.ok⟩
theorem good_fed {n : Nat} {m : WorldV} (h : m.Good n) (V : List Bool) : (m.fed V).Good n := by
  unfold WorldV.fed
  split
  · exact h
  · exact ⟨h.rises, h.risesI, h.len, h.lenI, by show (m.outs ++ V).length ≤ 4096; rw [List.length_append]; omega, h.ok⟩
theorem good_ask {n : Nat} {m : WorldV} (h : m.Good n) (s : ByteArray) (what : Int) {round : Int} (hr : InI round) : (askW m s what round).Good n := by
  unfold askW
  split
  · next hc =>
    have h0 : mayC m.boxes s what = 0 := by
      unfold askC at hc
      split at hc
      · next h0 => exact h0
      · exact hc
    obtain ⟨x, hx, hf, _⟩ := may_ok h.rises h0
    have ht := good_took h
    rw [hf]
    exact ⟨settle_rises h.rises hx _ _ _ _, ht.risesI, Nat.le_trans (settle_len _ _ _ _ _ _ _) h.len, ht.lenI, ht.outs, settle_ok h.ok hx _ _ hr _⟩
  · exact h
theorem good_pull {n : Nat} {m : WorldV} (h : m.Good n) (s nm : ByteArray) (size : Int) {round : Int} (hr : InI round) : (pullW m s nm size round).Good (n + 1) := by
  unfold pullW
  split
  · next h0 =>
    obtain ⟨x, hx, hf, _⟩ := may_ok h.rises h0
    rw [hf]
    refine ⟨settle_rises h.rises hx _ _ _ _, ?_, Nat.le_succ_of_le (Nat.le_trans (settle_len _ _ _ _ _ _ _) h.len), ?_, ?_, settle_ok h.ok hx _ _ hr _⟩
    · show Rises (if pullV m nm then putI m.images nm size round else m.images)
      split
      · exact put_rises h.risesI _ _ _
      · exact h.risesI
    · show (if pullV m nm then putI m.images nm size round else m.images).length ≤ n + 1
      have h1 := put_len_le m.images nm size round
      have h2 := h.lenI
      split <;> omega
    · show (if thereB m.images nm then m.outs else m.outs.tail).length ≤ 4096
      have h1 := h.outs
      split
      · exact h1
      · rw [List.length_tail]; omega
  · exact h.mono (Nat.le_succ _)
theorem good_drop {n : Nat} {m : WorldV} (h : m.Good n) (nm : ByteArray) : (dropW m nm).Good n := by
  unfold dropW
  split
  · have ht := good_took h
    refine ⟨ht.rises, ?_, ht.len, ?_, ht.outs, ht.ok⟩
    · show Rises (if takeB m.outs then dropI m.images nm else m.images)
      split
      · exact filt_rises h.risesI _
      · exact h.risesI
    · show (if takeB m.outs then dropI m.images nm else m.images).length ≤ n
      have h1 := drop_len_le m.images nm
      have h2 := h.lenI
      split <;> omega
  · exact h
theorem good_touch {n : Nat} {m : WorldV} (h : m.Good n) (U : List ByteArray) (round : Int) : (touchW m U round).Good n :=
  ⟨h.rises, touch_rises h.risesI U round, h.len, by show (touchI m.images U round).length ≤ n; rw [touch_len]; exact h.lenI, h.outs, h.ok⟩
/-! One container, and it is the one that is asked. -/
theorem thereC_one (x : ContV) : thereC [x] x.id = true := by unfold thereC; simp
theorem placeC_one (x : ContV) : placeC [x] x.id = 0 := by unfold placeC; rw [List.filter_cons_of_neg (by simp)]; rfl
theorem fndC_one (x : ContV) : fndC [x] x.id = x := fndC_at (thereC_one x) (by rw [placeC_one]; rfl)
theorem mayC_one (x : ContV) (k : Int) : mayC [x] x.id k = if toS x.state k = 0 then 7 else 0 := by unfold mayC; rw [thereC_one, fndC_one]; rfl
theorem createC_nil (s : ByteArray) (r : Int) : createC [] s r = [⟨s, 1, 0, r⟩] := rfl
theorem askC_one {m : WorldV} {x : ContV} {k : Int} (hm : m.boxes = [x]) (ht : toS x.state k ≠ 0) (hk : k ≠ 1) : askC m x.id k = 0 := by unfold askC; rw [hm, mayC_one, if_neg ht, if_pos rfl, if_neg hk]
theorem askB_one {m : WorldV} {x : ContV} {k : Int} (hm : m.boxes = [x]) (ht : toS x.state k ≠ 0) (hk : k ≠ 1) : askB m x.id k = takeB m.outs := by unfold askB; rw [askC_one hm ht hk]; rfl
theorem askW_one {r : Int} {O : List Bool} {I : List ImgV} {x : ContV} {k round : Int} (ht : toS x.state k ≠ 0) (hk : k ≠ 1) : askW ⟨r, O, [x], I⟩ x.id k round = ⟨r, O.tail, if (newC x k (takeB O) round r).state = 5 then [] else [newC x k (takeB O) round r], I⟩ := by
  unfold askW
  rw [askC_one rfl ht hk, if_pos rfl]
  show (⟨_, _, settleC [x] (placeC [x] x.id) (fndC [x] x.id) _ _ _ _, _⟩ : WorldV) = _
  rw [placeC_one, fndC_one]
  rfl
end Go.Proofs.Ytampkolkbjmmkaa
