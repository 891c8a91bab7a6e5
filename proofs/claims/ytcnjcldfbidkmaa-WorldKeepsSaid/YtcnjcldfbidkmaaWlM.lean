
/- Stage 16: runtimes that are kept well. Stage 16: the runtime of a law; its contracts. -/
import Derived.Test.YtcnjcldfbidkmaaWd7
import Derived.Test.YtcnjcldfbidkmaaImRfM
namespace Go.Proofs.Ytcnjcldfbidkmaa
open Go.RowKit Go.Sort
set_option linter.unusedVariables false
set_option linter.unusedSimpArgs false
theorem lt_of_not {x y : ByteArray} (h1 : ¬ y.toList < x.toList) (h2 : (y.toList == x.toList) = false) : x.toList < y.toList := by
  by_cases h : x.toList < y.toList
  · exact h
  · exact absurd (List.le_antisymm (List.not_lt.1 h) (List.not_lt.1 h1)) (by simpa using h2)
theorem put_name (L : List ImgV) (s : ByteArray) (r : Int) (x : ImgV) : (if (x.name.toList == s.toList) = true then { x with last := r } else x).name = x.name := by split <;> rfl
theorem put_rises {L : List ImgV} (h : Rises L) (s : ByteArray) (size round : Int) : Rises (putI L s size round) := by
  cases ht : thereB L s with
  | true =>
    unfold putI
    rw [if_pos ht]
    unfold Rises at *
    rw [List.pairwise_map]
    exact h.imp (fun {a b} q => by rw [put_name L, put_name L]; exact q)
  | false =>
    rw [put_no ht]
    have hp := parts_of h s
    have hin : ∀ y ∈ L.drop (placeF L s), s.toList < y.name.toList := by
      intro y hy
      obtain ⟨i, hi⟩ := List.getElem?_of_mem hy
      rw [List.getElem?_drop] at hi
      exact lt_of_not (hp.hi _ y (by omega) hi) (there_not ht hi)
    have hlo : ∀ y ∈ L.take (placeF L s), y.name.toList < s.toList := by
      intro y hy
      obtain ⟨i, hi⟩ := List.getElem?_of_mem hy
      have hik : i < placeF L s := by
        rcases Nat.lt_or_ge i (placeF L s) with q | q
        · exact q
        · rw [List.getElem?_eq_none (by rw [List.length_take]; omega)] at hi; cases hi
      rw [List.getElem?_take_of_lt hik] at hi
      exact hp.lo i y hik hi
    refine List.pairwise_append.2 ⟨List.Pairwise.sublist (List.take_sublist _ _) h, List.pairwise_cons.2 ⟨hin, List.Pairwise.sublist (List.drop_sublist _ _) h⟩, ?_⟩
    intro x hx y hy
    rcases List.mem_cons.1 hy with rfl | hy
    · exact hlo x hx
    · exact List.lt_trans (hlo x hx) (hin y hy)
theorem put_len_le (L : List ImgV) (s : ByteArray) (size round : Int) : (putI L s size round).length ≤ L.length + 1 := by
  unfold putI
  split
  · rw [List.length_map]; omega
  · simp; omega
theorem drop_len_le (L : List ImgV) (s : ByteArray) : (dropI L s).length ≤ L.length := List.length_filter_le _ _
theorem thereC_not {L : List ContV} {s : ByteArray} (h : thereC L s = false) {k : Nat} {x : ContV} (hx : L[k]? = some x) : (x.id.toList == s.toList) = false := by
  unfold thereC at h
  have := List.any_eq_false.1 h x (List.mem_of_getElem? hx)
  simpa using this
theorem create_rises {L : List ContV} (h : RisesC L) (s : ByteArray) (round : Int) : RisesC (createC L s round) := by
  unfold createC
  cases ht : thereC L s with
  | true => exact h
  | false =>
    rw [if_neg (by decide)]
    have hp := partsC_of h s
    have hin : ∀ y ∈ L.drop (placeC L s), s.toList < y.id.toList := by
      intro y hy
      obtain ⟨i, hi⟩ := List.getElem?_of_mem hy
      rw [List.getElem?_drop] at hi
      exact lt_of_not (hp.hi _ y (by omega) hi) (thereC_not ht hi)
    have hlo : ∀ y ∈ L.take (placeC L s), y.id.toList < s.toList := by
      intro y hy
      obtain ⟨i, hi⟩ := List.getElem?_of_mem hy
      have hik : i < placeC L s := by
        rcases Nat.lt_or_ge i (placeC L s) with q | q
        · exact q
        · rw [List.getElem?_eq_none (by rw [List.length_take]; omega)] at hi; cases hi
      rw [List.getElem?_take_of_lt hik] at hi
      exact hp.lo i y hik hi
    refine List.pairwise_append.2 ⟨List.Pairwise.sublist (List.take_sublist _ _) h, List.pairwise_cons.2 ⟨hin, List.Pairwise.sublist (List.drop_sublist _ _) h⟩, ?_⟩
    intro x hx y hy
    rcases List.mem_cons.1 hy with rfl | hy
    · exact hlo x hx
    · exact List.lt_trans (hlo x hx) (hin y hy)
theorem map_set_same {α β : Type} {f : α → β} {L : List α} {p : Nat} {x y : α} (h : L[p]? = some x) (e : f y = f x) : (L.set p y).map f = L.map f := by
  apply List.ext_getElem?
  intro i
  rw [List.getElem?_map, List.getElem?_map, List.getElem?_set]
  by_cases hi : p = i
  · subst hi
    have hl := (List.getElem?_eq_some_iff.1 h).1
    rw [if_pos rfl, if_pos hl, h]
    exact congrArg some e
  · rw [if_neg hi]
theorem risesC_ids {L K : List ContV} (h : RisesC L) (e : K.map (fun x => x.id) = L.map (fun x => x.id)) : RisesC K := by
  unfold RisesC at *
  have h2 : (L.map (fun x => x.id)).Pairwise (fun a b => a.toList < b.toList) := by rw [List.pairwise_map]; exact h
  rw [← e, List.pairwise_map] at h2
  exact h2
theorem settle_rises {L : List ContV} (h : RisesC L) {p : Nat} {x : ContV} (hx : L[p]? = some x) (what : Int) (well : Bool) (round r : Int) : RisesC (settleC L p x what well round r) := by
  unfold settleC
  split
  · rw [← List.eraseIdx_eq_take_drop_succ]
    exact List.Pairwise.sublist (List.eraseIdx_sublist _ _) h
  · exact risesC_ids h (map_set_same hx rfl)
theorem settle_len (L : List ContV) (p : Nat) (x : ContV) (what : Int) (well : Bool) (round r : Int) : (settleC L p x what well round r).length ≤ L.length := by
  unfold settleC
  split
  · rw [List.length_append, List.length_take, List.length_drop]; omega
  · rw [List.length_set]; exact Nat.le_refl _
theorem newC_ok {x : ContV} (h : x.ok) (what : Int) (well : Bool) {round : Int} (hr : InI round) (r : Int) : (newC x what well round r).ok := by
  obtain ⟨h1, h2, h3, h4⟩ := h
  have hb := toS_bd x.state what
  refine ⟨h1, ?_, ?_, ?_⟩
  · show InI (doS x.state x.tries what well r)
    unfold doS failS
    split
    · exact h2
    · split
      · unfold InI; omega
      · split
        · unfold InI; omega
        · exact h2
  · show InI (doN x.state x.tries what well r)
    unfold doN
    rw [satAdd_1]
    unfold InI at *
    split
    · exact h3
    · split
      · omega
      · split <;> omega
  · show InI (if well then round else x.last)
    split
    · exact hr
    · exact h4
theorem settle_ok {L : List ContV} (h : ∀ x ∈ L, x.ok ∧ x.state ≠ 5) {p : Nat} {x : ContV} (hx : L[p]? = some x) (what : Int) (well : Bool) {round : Int} (hr : InI round) (r : Int) : ∀ y ∈ settleC L p x what well round r, y.ok ∧ y.state ≠ 5 := by
  intro y hy
  unfold settleC at hy
  split at hy
  · rw [← List.eraseIdx_eq_take_drop_succ] at hy
    exact h y (List.mem_of_mem_eraseIdx hy)
  · next hne =>
    rcases List.mem_or_eq_of_mem_set hy with hy | rfl
    · exact h y hy
    · exact ⟨newC_ok (h x (List.mem_of_getElem? hx)).1 what well hr r, hne⟩
structure WorldV.Good (n : Nat) (m : WorldV) : Prop where
  rises : RisesC m.boxes
  risesI : Rises m.images
  len : m.boxes.length ≤ n
  lenI : m.images.length ≤ n
  outs : m.outs.length ≤ 4096
  ok : ∀ x ∈ m.boxes, x.ok ∧ x.state ≠ 5
theorem WorldV.Good.mono {n k : Nat} {m : WorldV} (h : m.Good n) (hk : n ≤ k) : m.Good k := ⟨h.rises, h.risesI, Nat.le_trans h.len hk, Nat.le_trans h.lenI hk, h.outs, h.ok⟩
theorem good_new (r : Int) : (⟨r, [], [], []⟩ : WorldV).Good 0 := ⟨List.Pairwise.nil, List.Pairwise.nil, Nat.le_refl _, Nat.le_refl _, by simp, fun x hx => by cases hx⟩
theorem good_create {n : Nat} {m : WorldV} (h : m.Good n) {s : ByteArray} (hs : s.size ≤ maxLen) {round : Int} (hr : InI round) : ({ m with boxes := createC m.boxes s round } : WorldV).Good (n + 1) := by
  refine ⟨create_rises h.rises s round, h.risesI, ?_, Nat.le_succ_of_le h.lenI, h.outs, ?_⟩
  · have := h.len
    show (createC m.boxes s round).length ≤ n + 1
    unfold createC
    split
    · omega
    · simp only [List.length_append, List.length_cons, List.length_take, List.length_drop]; omega
  · intro x hx
    replace hx : x ∈ createC m.boxes s round := hx
    unfold createC at hx
    split at hx
    · exact h.ok x hx
    · rcases List.mem_append.1 hx with hx | hx
      · exact h.ok x (List.mem_of_mem_take hx)
      · rcases List.mem_cons.1 hx with rfl | hx
        · exact ⟨⟨hs, by unfold InI; simp, by unfold InI; simp, hr⟩, by simp⟩
        · exact h.ok x (List.mem_of_mem_drop hx)
theorem good_took {n : Nat} {m : WorldV} (h : m.Good n) : m.took.Good n := ⟨h.rises, h.risesI, h.len, h.lenI, by have := h.outs; show m.outs.tail.length ≤ 4096; rw [List.length_tail]; omega, h.ok⟩
theorem good_fed {n : Nat} {m : WorldV} (h : m.Good n) (V : List Bool) : (m.fed V).Good n := by
  unfold WorldV.fed
  split
  · exact h
  · exact ⟨h.rises, h.risesI, h.len, h.lenI, by show (m.outs ++ V).length ≤ 4096; rw [List.length_append]; omega, h.ok⟩
theorem good_ask {n : Nat} {m : WorldV} (h : m.Good n) (s : ByteArray) (what : Int) {round : Int} (hr : InI round) : (askW m s what round).Good n := by
  unfold askW
  split
  · next hc =>
    have h0 : mayC m.boxes s what = 0 := by
      unfold askC at hc
      split at hc
      · next h0 => exact h0
      · exact hc
    obtain ⟨x, hx, hf, _⟩ := may_ok h.rises h0
    have ht := good_took h
    rw [hf]
    exact ⟨settle_rises h.rises hx _ _ _ _, ht.risesI, Nat.le_trans (settle_len _ _ _ _ _ _ _) h.len, ht.lenI, ht.outs, settle_ok h.ok hx _ _ hr _⟩
  · exact h
theorem good_pull {n : Nat} {m : WorldV} (h : m.Good n) (s nm : ByteArray) (size : Int) {round : Int} (hr : InI round) : (pullW m s nm size round).Good (n + 1) := by
  unfold pullW
  split
  · next h0 =>
    obtain ⟨x, hx, hf, _⟩ := may_ok h.rises h0
    rw [hf]
    refine ⟨settle_rises h.rises hx _ _ _ _, ?_, Nat.le_succ_of_le (Nat.le_trans (settle_len _ _ _ _ _ _ _) h.len), ?_, ?_, settle_ok h.ok hx _ _ hr _⟩
    · show Rises (if pullV m nm then putI m.images nm size round else m.images)
      split
      · exact put_rises h.risesI _ _ _
      · exact h.risesI
    · show (if pullV m nm then putI m.images nm size round else m.images).length ≤ n + 1
      have h1 := put_len_le m.images nm size round
      have h2 := h.lenI
      split <;> omega
    · show (if thereB m.images nm then m.outs else m.outs.tail).length ≤ 4096
      have h1 := h.outs
      split
      · exact h1
      · rw [List.length_tail]; omega
  · exact h.mono (Nat.le_succ _)
theorem good_drop {n : Nat} {m : WorldV} (h : m.Good n) (nm : ByteArray) : (dropW m nm).Good n := by
  unfold dropW
  split
  · have ht := good_took h
    refine ⟨ht.rises, ?_, ht.len, ?_, ht.outs, ht.ok⟩
    · show Rises (if takeB m.outs then dropI m.images nm else m.images)
      split
      · exact filt_rises h.risesI _
      · exact h.risesI
    · show (if takeB m.outs then dropI m.images nm else m.images).length ≤ n
      have h1 := drop_len_le m.images nm
      have h2 := h.lenI
      split <;> omega
  · exact h
theorem good_touch {n : Nat} {m : WorldV} (h : m.Good n) (U : List ByteArray) (round : Int) : (touchW m U round).Good n :=
  ⟨h.rises, touch_rises h.risesI U round, h.len, by show (touchI m.images U round).length ≤ n; rw [touch_len]; exact h.lenI, h.outs, h.ok⟩
/-! One container, and it is the one that is asked. -/
theorem thereC_one (x : ContV) : thereC [x] x.id = true := by unfold thereC; simp
theorem placeC_one (x : ContV) : placeC [x] x.id = 0 := by unfold placeC; rw [List.filter_cons_of_neg (by simp)]; rfl
theorem fndC_one (x : ContV) : fndC [x] x.id = x := fndC_at (thereC_one x) (by rw [placeC_one]; rfl)
theorem mayC_one (x : ContV) (k : Int) : mayC [x] x.id k = if toS x.state k = 0 then 7 else 0 := by unfold mayC; rw [thereC_one, fndC_one]; rfl
theorem createC_nil (s : ByteArray) (r : Int) : createC [] s r = [⟨s, 1, 0, r⟩] := rfl
theorem askC_one {m : WorldV} {x : ContV} {k : Int} (hm : m.boxes = [x]) (ht : toS x.state k ≠ 0) (hk : k ≠ 1) : askC m x.id k = 0 := by unfold askC; rw [hm, mayC_one, if_neg ht, if_pos rfl, if_neg hk]
theorem askB_one {m : WorldV} {x : ContV} {k : Int} (hm : m.boxes = [x]) (ht : toS x.state k ≠ 0) (hk : k ≠ 1) : askB m x.id k = takeB m.outs := by unfold askB; rw [askC_one hm ht hk]; rfl
theorem askW_one {r : Int} {O : List Bool} {I : List ImgV} {x : ContV} {k round : Int} (ht : toS x.state k ≠ 0) (hk : k ≠ 1) : askW ⟨r, O, [x], I⟩ x.id k round = ⟨r, O.tail, if (newC x k (takeB O) round r).state = 5 then [] else [newC x k (takeB O) round r], I⟩ := by
  unfold askW
  rw [askC_one rfl ht hk, if_pos rfl]
  show (⟨_, _, settleC [x] (placeC [x] x.id) (fndC [x] x.id) _ _ _ _, _⟩ : WorldV) = _
  rw [placeC_one, fndC_one]
  rfl
end Go.Proofs.Ytcnjcldfbidkmaa
namespace Go.Proofs.Ytcnjcldfbidkmaa
open Go.RowKit Go.Sort
set_option linter.unusedVariables false
set_option linter.unusedSimpArgs false
theorem eq_box (s t s2 t2 : Int) (w : World) : (Op.equalIn 10000 38 (.agg #[.int .i64 s, .int .i64 t]) (.agg #[.int .i64 s2, .int .i64 t2])).run Try.prog w = .ok (s == s2 && t == t2) w := by
  have hs : Try.prog.fieldsOf 38 = #[{ name := "State", type := 3, offset := 0, embedded := false, tag := "", pkgPath := "", byteOffset := 0 }, { name := "Tries", type := 3, offset := 1, embedded := false, tag := "", pkgPath := "", byteOffset := 8 }] := by kernel_rfl
  rw [run_equalIn_struct _ _ _ _ _ (by kernel_rfl) (by kernel_rfl), hs]
  by_cases h1 : s = s2 <;> by_cases h2 : t = t2 <;> simp [go_sem, h1, h2]
theorem WAt.same {u v : World} {B M : Nat} {F : List Nat} {m : WorldV} (h : WAt u B M F m) (hs : ∀ b ∈ F, v.heap[b]? = u.heap[b]?) : WAt v B M F m := by
  obtain ⟨q, b, i, rfl, h⟩ := h
  refine ⟨q, b, i, rfl, h.base, ?_, ?_, ?_, ?_⟩
  · have hb := h.blk
    unfold Blk at *
    rw [hs M (foot_mem.2 (.inl rfl))]; exact hb
  · exact h.wait.same (fun g e => hs g (foot_mem.2 (.inr (.inl e))))
  · exact own_same h.cont (fun g e => hs g (foot_mem.2 (.inr (.inr (.inl e)))))
  · exact own_same h.imgs (fun g e => hs g (foot_mem.2 (.inr (.inr (.inr e)))))
/-- The runtime of a law: none of what it has was there before, nor is among the law's own blocks. -/
def WL (w u : World) (M : Nat) (X : List Nat) (m : WorldV) : Prop := ∃ F, WAt u M M F m ∧ Below w.heap.size w u ∧ w.heap.size ≤ M ∧ ∀ x ∈ X, w.heap.size ≤ x ∧ x ∉ F ∧ x < u.heap.size
/-- The law's own blocks are as they were. -/
def KX (X : List Nat) (u v : World) : Prop := ∀ x ∈ X, x < u.heap.size ∧ v.heap[x]? = u.heap[x]?
theorem KX.nil (u v : World) : KX [] u v := fun x hx => by cases hx
theorem WL.below {w u : World} {M : Nat} {X : List Nat} {m : WorldV} (h : WL w u M X m) : Below w.heap.size w u := by obtain ⟨F, _, h, _⟩ := h; exact h
theorem wl_step {w u v : World} {M : Nat} {F X : List Nat} {m k : WorldV} (h1 : WAt u M M F m) (h2 : Below w.heap.size w u) (h3 : w.heap.size ≤ M) (h4 : ∀ x ∈ X, w.heap.size ≤ x ∧ x ∉ F ∧ x < u.heap.size) (hT : WTo u v M M F k) : WL w v M X k ∧ KX X u v ∧ u.heap.size ≤ v.heap.size := by
  have hbl := hT.below h1 h3 h2.size
  obtain ⟨G, k1, k2, k3⟩ := hT
  refine ⟨⟨G, k1, h2.trans hbl, h3, fun x hx => ?_⟩, fun x hx => ?_, k2.size⟩
  · obtain ⟨q0, q1, q2⟩ := h4 x hx
    refine ⟨q0, fun hg => ?_, Nat.lt_of_lt_of_le q2 k2.size⟩
    rcases k3 x hg with q | q
    · exact q1 q
    · omega
  · obtain ⟨q0, q1, q2⟩ := h4 x hx
    exact ⟨q2, k2.block x q2 q1⟩
theorem WL.later {w u v : World} {M : Nat} {X : List Nat} {m : WorldV} (h : WL w u M X m) (hb : Below u.heap.size u v) : WL w v M X m := by
  obtain ⟨F, h1, h2, h3, h4⟩ := h
  exact ⟨F, h1.later hb, belStep h2 hb, h3, fun x hx => ⟨(h4 x hx).1, (h4 x hx).2.1, Nat.lt_of_lt_of_le (h4 x hx).2.2 hb.size⟩⟩
/-- A block that the law made. -/
theorem WL.own {w u v : World} {M : Nat} {X : List Nat} {m : WorldV} (h : WL w u M X m) (hb : Below u.heap.size u v) {x : Nat} (h1 : u.heap.size ≤ x) (h2 : x < v.heap.size) : WL w v M (x :: X) m := by
  obtain ⟨F, k1, k2, k3, k4⟩ := h
  refine ⟨F, k1.later hb, belStep k2 hb, k3, fun y hy => ?_⟩
  rcases List.mem_cons.1 hy with rfl | hy
  · exact ⟨Nat.le_trans k2.size h1, fun hF => absurd (k1.foot_lt _ hF).2 (by omega), h2⟩
  · exact ⟨(k4 y hy).1, (k4 y hy).2.1, Nat.lt_of_lt_of_le (k4 y hy).2.2 hb.size⟩
/-- The law writes its own blocks. -/
theorem WL.mine {w u v : World} {M : Nat} {X : List Nat} {m : WorldV} (h : WL w u M X m) (ha : Apart X u v) : WL w v M X m := by
  obtain ⟨F, k1, k2, k3, k4⟩ := h
  refine ⟨F, k1.same (fun b hb => ha.block b (k1.foot_lt b hb).2 (fun hX => (k4 b hX).2.1 hb)), k2.trans (ha.below (fun b hb => (k4 b hb).1) k2.size), k3, fun x hx => ⟨(k4 x hx).1, (k4 x hx).2.1, Nat.lt_of_lt_of_le (k4 x hx).2.2 ha.size⟩⟩
theorem WL.sub {w u : World} {M : Nat} {X Y : List Nat} {m : WorldV} (h : WL w u M X m) (hY : ∀ y ∈ Y, y ∈ X) : WL w u M Y m := by
  obtain ⟨F, k1, k2, k3, k4⟩ := h
  exact ⟨F, k1, k2, k3, fun y hy => k4 y (hY y hy)⟩
theorem KX.row {X : List Nat} {u v : World} (h : KX X u v) {a : Option Addr} {len cap k : Nat} {cs : List Value} (hr : Row u a len cap k cs) (hX : ∀ x, a = some x → x.block ∈ X) : Row v a len cap k cs := by
  obtain ⟨h1, h2, h3, h4, h5⟩ := hr
  refine ⟨h1, h2, h3, h4, ?_⟩
  rcases h5 with h5 | ⟨b, off, rfl, h5⟩
  · exact .inl h5
  · refine .inr ⟨b, off, rfl, fun i hi => ?_⟩
    rw [← h5 i hi]
    unfold World.cell?
    rw [(h b (hX _ rfl)).2]
theorem KX.cell {X : List Nat} {u v : World} (h : KX X u v) {b o : Nat} {x : Value} (hc : u.cell? ⟨b, o, none⟩ = some x) (hb : b ∈ X) : v.cell? ⟨b, o, none⟩ = some x := by
  rw [← hc]; unfold World.cell?; rw [(h b hb).2]
theorem KX.own {X : List Nat} {u v : World} (h : KX X u v) {B k n : Nat} {E : TypeId} {x : Value} {cs : List Value} (ho : OwnR u B E k x n cs) (hX : ∀ g, x.ownBlock = some g → g ∈ X) : OwnR v B E k x n cs := own_same ho (fun g e => (h g (hX g e)).2)
theorem wl_New (r : Int) (w u : World) (hb : Below w.heap.size w u) :
    Calls Try.prog 18 #[.int .i64 r] u fun e w' => e = .returned (.pointer (some ⟨u.heap.size, 0, none⟩)) ∧ WL w w' u.heap.size [] ⟨r, [], [], []⟩ ∧ Below u.heap.size u w' := by
  refine (wd_New r u).mono ?_
  rintro e w' ⟨rfl, h1, h2⟩
  exact ⟨rfl, ⟨_, h1, belStep hb h2, hb.size, fun x hx => by cases hx⟩, h2⟩
theorem wl_Feed (w u : World) (M : Nat) (X : List Nat) (m : WorldV) (n : Nat) (h : WL w u M X m) (hg : m.Good n) (hn : n ≤ 100000) (d : Option Addr) (wl wc : Nat) (V : List Bool) (c : Int) (k : WorldV) (hv : V.length = wl) (hRV : Row u d wl wc 1 (V.map Value.bool)) (hw9 : wl ≤ 50000) (hc : feedE m V = c) (hk : m.fed V = k) :
    Calls Try.prog 25 #[.pointer (some ⟨M, 0, none⟩), .slice d wl wc] u fun e w' => e = .returned (.int .i64 c) ∧ WL w w' M X k ∧ KX X u w' ∧ u.heap.size ≤ w'.heap.size := by
  obtain ⟨F, h1, h2, h3, h4⟩ := h
  refine (wd_Feed M M F m d wl wc V u h1 hv hRV hg.outs hw9).mono ?_
  rintro e w' ⟨rfl, hT⟩
  rw [hk] at hT
  have hs := wl_step h1 h2 h3 h4 hT
  exact ⟨by rw [hc], hs.1, hs.2.1, hs.2.2⟩
theorem wl_Create (w u : World) (M : Nat) (X : List Nat) (m : WorldV) (n : Nat) (h : WL w u M X m) (hg : m.Good n) (hn : n ≤ 100000) (s : ByteArray) (round c : Int) (k : WorldV) (hc : createE m.boxes s = c) (hk : ({ m with boxes := createC m.boxes s round } : WorldV) = k) :
    Calls Try.prog 55 #[.pointer (some ⟨M, 0, none⟩), .string s, .int .i64 round] u fun e w' => e = .returned (.int .i64 c) ∧ WL w w' M X k ∧ KX X u w' ∧ u.heap.size ≤ w'.heap.size := by
  obtain ⟨F, h1, h2, h3, h4⟩ := h
  refine (wd_Create M M F m s round u h1 hg.rises (Nat.le_trans hg.len hn)).mono ?_
  rintro e w' ⟨rfl, hT⟩
  rw [hk] at hT
  have hs := wl_step h1 h2 h3 h4 hT
  exact ⟨by rw [hc], hs.1, hs.2.1, hs.2.2⟩
theorem wl_Ask (w u : World) (M : Nat) (X : List Nat) (m : WorldV) (n : Nat) (h : WL w u M X m) (hg : m.Good n) (hn : n ≤ 100000) (s : ByteArray) (what round c : Int) (b : Bool) (k : WorldV) (hwh : InI what) (hc : askC m s what = c) (hb : askB m s what = b) (hk : askW m s what round = k) :
    Calls Try.prog 26 #[.pointer (some ⟨M, 0, none⟩), .string s, .int .i64 what, .int .i64 round] u fun e w' => e = .returned (.tuple #[.bool b, .int .i64 c]) ∧ WL w w' M X k ∧ KX X u w' ∧ u.heap.size ≤ w'.heap.size := by
  obtain ⟨F, h1, h2, h3, h4⟩ := h
  refine (wd_Ask M M F m s what round u h1 hg.rises (Nat.le_trans hg.len hn) (fun x hx => (hg.ok x hx).1) hwh).mono ?_
  rintro e w' ⟨rfl, hT⟩
  rw [hk] at hT
  have hs := wl_step h1 h2 h3 h4 hT
  exact ⟨by rw [hc, hb], hs.1, hs.2.1, hs.2.2⟩
theorem wl_Pull (w u : World) (M : Nat) (X : List Nat) (m : WorldV) (n : Nat) (h : WL w u M X m) (hg : m.Good n) (hn : n ≤ 100000) (s nm : ByteArray) (size round c : Int) (b b2 : Bool) (k : WorldV) (hc : mayC m.boxes s 1 = c) (hb : pullB m s nm = b) (hb2 : pullN m s nm = b2) (hk : pullW m s nm size round = k) :
    Calls Try.prog 56 #[.pointer (some ⟨M, 0, none⟩), .string s, .string nm, .int .i64 size, .int .i64 round] u fun e w' => e = .returned (.tuple #[.bool b, .bool b2, .int .i64 c]) ∧ WL w w' M X k ∧ KX X u w' ∧ u.heap.size ≤ w'.heap.size := by
  obtain ⟨F, h1, h2, h3, h4⟩ := h
  refine (wd_Pull M M F m s nm size round u h1 hg.rises (Nat.le_trans hg.len hn) (fun x hx => (hg.ok x hx).1) hg.risesI (Nat.le_trans hg.lenI hn)).mono ?_
  rintro e w' ⟨rfl, hT⟩
  rw [hk] at hT
  have hs := wl_step h1 h2 h3 h4 hT
  exact ⟨by rw [hc, hb, hb2], hs.1, hs.2.1, hs.2.2⟩
theorem wl_Drop (w u : World) (M : Nat) (X : List Nat) (m : WorldV) (n : Nat) (h : WL w u M X m) (hg : m.Good n) (hn : n ≤ 100000) (nm : ByteArray) (c : Int) (b : Bool) (k : WorldV) (hc : dropC m nm = c) (hb : dropB m nm = b) (hk : dropW m nm = k) :
    Calls Try.prog 27 #[.pointer (some ⟨M, 0, none⟩), .string nm] u fun e w' => e = .returned (.tuple #[.bool b, .int .i64 c]) ∧ WL w w' M X k ∧ KX X u w' ∧ u.heap.size ≤ w'.heap.size := by
  obtain ⟨F, h1, h2, h3, h4⟩ := h
  refine (wd_Drop M M F m nm u h1 hg.risesI (Nat.le_trans hg.lenI hn)).mono ?_
  rintro e w' ⟨rfl, hT⟩
  rw [hk] at hT
  have hs := wl_step h1 h2 h3 h4 hT
  exact ⟨by rw [hc, hb], hs.1, hs.2.1, hs.2.2⟩
theorem wl_Touch (w u : World) (M : Nat) (X : List Nat) (m : WorldV) (n : Nat) (h : WL w u M X m) (hg : m.Good n) (hn : n ≤ 100000) (d : Option Addr) (ul uc : Nat) (U : List ByteArray) (round : Int) (k : WorldV) (hu : U.length = ul) (hRU : Row u d ul uc 1 (U.map Value.string)) (hk : touchW m U round = k) :
    Calls Try.prog 63 #[.pointer (some ⟨M, 0, none⟩), .slice d ul uc, .int .i64 round] u fun e w' => e = .returned (.tuple #[]) ∧ WL w w' M X k ∧ KX X u w' ∧ u.heap.size ≤ w'.heap.size := by
  obtain ⟨F, h1, h2, h3, h4⟩ := h
  refine (wd_Touch M M F m d ul uc U round u h1 hg.risesI (Nat.le_trans hg.lenI hn) hu hRU).mono ?_
  rintro e w' ⟨rfl, hT⟩
  rw [hk] at hT
  have hs := wl_step h1 h2 h3 h4 hT
  exact ⟨rfl, hs.1, hs.2.1, hs.2.2⟩
theorem wl_Box (w u : World) (M : Nat) (X : List Nat) (m : WorldV) (n : Nat) (h : WL w u M X m) (hg : m.Good n) (hn : n ≤ 100000) (s : ByteArray) (t : Bool) (st tr : Int) (ht : thereC m.boxes s = t) (hst : (fndC m.boxes s).state = st) (htr : (fndC m.boxes s).tries = tr) :
    Calls Try.prog 20 #[.pointer (some ⟨M, 0, none⟩), .string s] u fun e w' => e = .returned (.tuple #[.agg #[.int .i64 st, .int .i64 tr], .bool t]) ∧ WL w w' M X m ∧ Below u.heap.size u w' := by
  obtain ⟨F, h1, h2, h3, h4⟩ := h
  refine (wd_Box M M F m s u h1 hg.rises (Nat.le_trans hg.len hn)).mono ?_
  rintro e w' ⟨rfl, hb⟩
  exact ⟨by rw [ht, hst, htr], WL.later ⟨F, h1, h2, h3, h4⟩ hb, hb⟩
theorem wl_Containers (w u : World) (M : Nat) (X : List Nat) (m : WorldV) (n : Nat) (h : WL w u M X m) (hg : m.Good n) (hn : n ≤ 100000) (l : Nat) (hl : m.boxes.length = l) :
    Calls Try.prog 23 #[.pointer (some ⟨M, 0, none⟩)] u fun e w' => ∃ a c, e = .returned (.slice a l c) ∧ OwnR w' u.heap.size 44 4 (.slice a l c) l (m.boxes.flatMap ContV.cells) ∧ Row w' a l c 4 (m.boxes.flatMap ContV.cells) ∧ WL w w' M X m ∧ Below u.heap.size u w' := by
  obtain ⟨F, h1, h2, h3, h4⟩ := h
  refine (wd_Containers M M F m u h1 (Nat.le_trans hg.len hn)).mono ?_
  rintro e w' ⟨v, rfl, ho, hb⟩
  obtain ⟨a, c, rfl, hr⟩ := rowR_of_own ho
  subst hl
  exact ⟨a, c, rfl, ho, hr, WL.later ⟨F, h1, h2, h3, h4⟩ hb, hb⟩
theorem wl_Images (w u : World) (M : Nat) (X : List Nat) (m : WorldV) (n : Nat) (h : WL w u M X m) (hg : m.Good n) (hn : n ≤ 100000) (l : Nat) (hl : m.images.length = l) :
    Calls Try.prog 24 #[.pointer (some ⟨M, 0, none⟩)] u fun e w' => ∃ a c, e = .returned (.slice a l c) ∧ OwnR w' u.heap.size 58 3 (.slice a l c) l (m.images.flatMap ImgV.cells) ∧ Row w' a l c 3 (m.images.flatMap ImgV.cells) ∧ WL w w' M X m ∧ Below u.heap.size u w' := by
  obtain ⟨F, h1, h2, h3, h4⟩ := h
  refine (wd_Images M M F m u h1 (Nat.le_trans hg.lenI hn)).mono ?_
  rintro e w' ⟨v, rfl, ho, hb⟩
  obtain ⟨a, c, rfl, hr⟩ := rowR_of_own ho
  subst hl
  exact ⟨a, c, rfl, ho, hr, WL.later ⟨F, h1, h2, h3, h4⟩ hb, hb⟩
theorem wl_Waiting (w u : World) (M : Nat) (X : List Nat) (m : WorldV) (n : Nat) (h : WL w u M X m) (hg : m.Good n) (hn : n ≤ 100000) (l : Nat) (hl : m.outs.length = l) :
    Calls Try.prog 29 #[.pointer (some ⟨M, 0, none⟩)] u fun e w' => ∃ a c, e = .returned (.slice a l c) ∧ OwnR w' u.heap.size 4 1 (.slice a l c) l (m.outs.map Value.bool) ∧ Row w' a l c 1 (m.outs.map Value.bool) ∧ WL w w' M X m ∧ Below u.heap.size u w' := by
  obtain ⟨F, h1, h2, h3, h4⟩ := h
  refine (wd_Waiting M M F m u h1 (Nat.le_trans hg.outs (by omega))).mono ?_
  rintro e w' ⟨v, rfl, ho, hb⟩
  obtain ⟨a, c, rfl, hr⟩ := rowR_of_own ho
  subst hl
  exact ⟨a, c, rfl, ho, hr, WL.later ⟨F, h1, h2, h3, h4⟩ hb, hb⟩
end Go.Proofs.Ytcnjcldfbidkmaa
