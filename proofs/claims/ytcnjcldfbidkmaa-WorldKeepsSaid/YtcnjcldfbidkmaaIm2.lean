
/- image.Find, Put, Drop: contracts. -/
import Derived.Test.YtcnjcldfbidkmaaIm1
import Derived.Test.YtcnjcldfbidkmaaImCat
namespace Go.Proofs.Ytcnjcldfbidkmaa
open Go.RowKit
set_option linter.unusedVariables false
set_option linter.unusedSimpArgs false
def zeroI : ImgV := ⟨⟨#[]⟩, 0, 0⟩
def fndV (L : List ImgV) (s : ByteArray) : ImgV := (findF L s).getD zeroI
theorem flat_setc {α : Type} {enc : α → List Value} {k : Nat} (hk : ∀ x, (enc x).length = k) {x y : α} {j : Nat} {u : Value} (hj : j < k) (he : enc y = (enc x).set j u) :
    ∀ {L : List α} {p : Nat}, L[p]? = some x → (L.flatMap enc).set (p * k + j) u = (L.set p y).flatMap enc := by
  intro L
  induction L with
  | nil => intro p h; simp at h
  | cons z L ih =>
    intro p h
    cases p with
    | zero =>
      simp at h
      subst h
      rw [Nat.zero_mul, Nat.zero_add, List.flatMap_cons, List.set_append_left _ _ (by rw [hk]; exact hj), List.set_cons_zero, List.flatMap_cons, he]
    | succ p =>
      rw [List.flatMap_cons, List.set_append_right _ _ (by rw [hk, Nat.succ_mul]; omega), List.set_cons_succ, List.flatMap_cons, hk, show (p + 1) * k + j - k = p * k + j by rw [Nat.succ_mul]; omega, ih (by simpa using h)]
theorem own_setI {w : World} {B g n cap p : Nat} {L : List ImgV} {x : ImgV} (h : OwnR w B 58 3 (.slice (some ⟨g, 0, none⟩) n cap) n (L.flatMap ImgV.cells)) (hx : L[p]? = some x) (r : Int) :
    OwnR (w.setCell ⟨g, p * 3 + 2, none⟩ (.int .i64 r)) B 58 3 (.slice (some ⟨g, 0, none⟩) n cap) n ((L.set p { x with last := r }).flatMap ImgV.cells) := by
  have h2 := (World.ownsRow.stored h (p * 3 + 2) (.int .i64 r)).1
  rw [flat_setc ImgV.cells_len (by omega) (y := { x with last := r }) rfl hx] at h2
  exact h2
theorem put_there {L : List ImgV} {s : ByteArray} {size round : Int} {x : ImgV} {p : Nat} (hri : Rises L) (ht : thereB L s = true) (hx : L[p]? = some x) (he : x.name.toList = s.toList) : putI L s size round = L.set p { x with last := round } := by
  unfold putI
  rw [if_pos ht]
  apply List.ext_getElem?
  intro i
  rw [List.getElem?_map, List.getElem?_set]
  have hp := (List.getElem?_eq_some_iff.1 hx).1
  by_cases e : p = i
  · subst e
    rw [if_pos rfl, if_pos hp, hx]
    simp [he]
  · rw [if_neg e]
    cases hy : L[i]? with
    | none => rfl
    | some y =>
      have hne : ¬ y.name.toList = s.toList := by
        intro q
        rcases Nat.lt_or_gt_of_ne e with h | h
        · have := hri.lt hx hy h; rw [he, q] at this; exact absurd this (List.lt_irrefl _)
        · have := hri.lt hy hx h; rw [he, q] at this; exact absurd this (List.lt_irrefl _)
      simp [hne]
theorem put_no {L : List ImgV} {s : ByteArray} {size round : Int} (ht : thereB L s = false) : putI L s size round = L.take (placeF L s) ++ ⟨s, size, round⟩ :: L.drop (placeF L s) := by
  unfold putI
  rw [if_neg (by rw [ht]; simp)]
theorem drop_no {L : List ImgV} {s : ByteArray} (ht : thereB L s = false) : dropI L s = L := by
  unfold dropI thereB at *
  rw [List.filter_eq_self]
  intro x hx
  have := List.any_eq_false.1 ht x hx
  simpa using this
theorem drop_there {L : List ImgV} {s : ByteArray} {x : ImgV} {p : Nat} (hri : Rises L) (hx : L[p]? = some x) (he : x.name.toList = s.toList) : dropI L s = L.take p ++ L.drop (p + 1) := by
  have hp := (List.getElem?_eq_some_iff.1 hx).1
  have e : L = L.take p ++ x :: L.drop (p + 1) := by
    rw [← (List.getElem?_eq_some_iff.1 hx).2, ← List.drop_eq_getElem_cons hp, List.take_append_drop]
  unfold dropI
  conv => lhs; rw [e]
  rw [List.filter_append, List.filter_cons_of_neg (by simp [he]), List.filter_eq_self.2, List.filter_eq_self.2]
  · intro y hy
    obtain ⟨i, hi⟩ := List.getElem?_of_mem hy
    rw [List.getElem?_drop] at hi
    have := hri.lt hx hi (by omega)
    rw [he] at this
    have h2 : ¬ y.name.toList = s.toList := fun q => by rw [q] at this; exact absurd this (List.lt_irrefl _)
    simp [h2]
  · intro y hy
    obtain ⟨i, hi⟩ := List.getElem?_of_mem hy
    have hip : i < p := by
      rcases Nat.lt_or_ge i p with q | q
      · exact q
      · rw [List.getElem?_eq_none (by rw [List.length_take]; omega)] at hi; cases hi
    rw [List.getElem?_take_of_lt hip] at hi
    have := hri.lt hi hx hip
    rw [he] at this
    have h2 : ¬ y.name.toList = s.toList := fun q => by rw [q] at this; exact absurd this (List.lt_irrefl _)
    simp [h2]
theorem imfind_ret (W : World) (R : Nat) (tm : Array Value) (s : ByteArray) (m n : Int) (q : Bool) (Q : Ending → World → Prop) (h2 : tm.getD 4 undef = .pointer (some ⟨R, 0, none⟩)) (h3 : tm.getD 5 undef = .bool q) (hb : Blk W R [.string s, .int .i64 m, .int .i64 n] 58) (hR : Q (.returned (.tuple #[.agg #[.string s, .int .i64 m, .int .i64 n], .bool q])) W) :
    bodyPost Try.prog Try.f92 Q Exit.ret { tmps := tm, defers := [] } W := by
  have z0 := hb.cell (j := 0) rfl
  have z1 := hb.cell (j := 1) rfl
  have z2 := hb.cell (j := 2) rfl
  refine bodyPost_ret (v := .tuple #[.agg #[.string s, .int .i64 m, .int .i64 n], .bool q]) ?_ rfl hR
  simp only [Array.getD_eq_getD_getElem?] at h2 h3
  simp [results, Try.results92, go_sem, h2, h3, z0, z1, z2]
set_option maxRecDepth 100000 in
set_option maxHeartbeats 16000000 in
theorem im_Find (a : Option Addr) (len cap : Nat) (L : List ImgV) (s : ByteArray) (w : World) (hl : L.length = len) (hR : Row w a len cap 3 (L.flatMap ImgV.cells)) (hri : Rises L) :
    Calls Try.prog 92 #[.slice a len cap, .string s] w fun e w' => e = .returned (.tuple #[.agg #[.string (fndV L s).name, .int .i64 (fndV L s).size, .int .i64 (fndV L s).last], .bool (thereB L s)]) ∧ Below w.heap.size w w' := by
  have hw : Below w.heap.size w w := Below.refl _ _
  have hbel := hw
  have hbd_a : len ≤ cap ∧ cap ≤ 9223372036854775807 := by obtain ⟨_, h1, h2, _⟩ := hR; unfold maxLen at h2; exact ⟨h1, h2⟩
  obtain ⟨hbd1_a, hbd2_a⟩ := hbd_a
  have CP := Lib.hid (fun u (hu : Below w.heap.size w u) => im_place a len cap L s u hl (hR.later hu) hri)
  have HR := Lib.hid hR
  have HRI := Lib.hid hri
  clear hR hri
  subst hl
  obtain ⟨th, hth⟩ : ∃ t, thereB L s = t := ⟨_, rfl⟩
  obtain ⟨p, hp⟩ : ∃ p, placeF L s = p := ⟨_, rfl⟩
  rw [hth, hp] at CP
  rw [hth]
  have HTH := Lib.hid hth
  have HPL := Lib.hid hp
  clear hth hp
  have hZ0 : Blk (w.alloc (.cells #[.string ⟨#[]⟩, .int .i64 0, .int .i64 0] 58)) w.heap.size [.string ⟨#[]⟩, .int .i64 0, .int .i64 0] 58 := Blk.new w [.string ⟨#[]⟩, .int .i64 0, .int .i64 0] 58
  go_enter Try.func92, Try.ntmps92
  go_upto_region 1 with fail
  have rz0 : (w.alloc (.cells #[.string ⟨#[]⟩, .int .i64 0, .int .i64 0] 58)).cell? ⟨w.heap.size, 0, none⟩ = some (.string ⟨#[]⟩) := by first | (simp; done) | (rw [World.cell?_alloc_at _ _ _ _ (by simp)]; rfl) | (rw [World.cell?_alloc_past _ _ _ (by simp <;> omega), World.cell?_alloc_at _ _ _ _ (by simp)]; rfl) | (rw [World.cell?_alloc_past _ _ _ (by simp <;> omega), World.cell?_alloc_past _ _ _ (by simp <;> omega), World.cell?_alloc_at _ _ _ _ (by simp)]; rfl)
  have rz1 : (w.alloc (.cells #[.string ⟨#[]⟩, .int .i64 0, .int .i64 0] 58)).cell? ⟨w.heap.size, 1, none⟩ = some (.int .i64 0) := by first | (simp; done) | (rw [World.cell?_alloc_at _ _ _ _ (by simp)]; rfl) | (rw [World.cell?_alloc_past _ _ _ (by simp <;> omega), World.cell?_alloc_at _ _ _ _ (by simp)]; rfl) | (rw [World.cell?_alloc_past _ _ _ (by simp <;> omega), World.cell?_alloc_past _ _ _ (by simp <;> omega), World.cell?_alloc_at _ _ _ _ (by simp)]; rfl)
  have rz2 : (w.alloc (.cells #[.string ⟨#[]⟩, .int .i64 0, .int .i64 0] 58)).cell? ⟨w.heap.size, 2, none⟩ = some (.int .i64 0) := by first | (simp; done) | (rw [World.cell?_alloc_at _ _ _ _ (by simp)]; rfl) | (rw [World.cell?_alloc_past _ _ _ (by simp <;> omega), World.cell?_alloc_at _ _ _ _ (by simp)]; rfl) | (rw [World.cell?_alloc_past _ _ _ (by simp <;> omega), World.cell?_alloc_past _ _ _ (by simp <;> omega), World.cell?_alloc_at _ _ _ _ (by simp)]; rfl)
  have hb2 := (by repeat (first | exact hbel | refine belAlloc ?_ _ | refine belDrew ?_ | refine belSet ?_ _ _ (by simp)) : Below w.heap.size w (w.alloc (.cells #[.string ⟨#[]⟩, .int .i64 0, .int .i64 0] 58)))
  replace hw := belStep hw hb2
  clear hb2 hbel
  generalize w.alloc (.cells #[.string ⟨#[]⟩, .int .i64 0, .int .i64 0] 58) = W1 at *
  replace rz0 := keep rz0
  replace rz1 := keep rz1
  replace rz2 := keep rz2
  have hbel : Below W1.heap.size W1 W1 := Below.refl _ _
  skip
  have rzf := Blk.keepF hZ0
  have HZ := Lib.hid hZ0
  have HW1 := Lib.hid hw
  clear hw hZ0
  cases th with
  | false =>
    have HRES := Lib.hid (show fndV L s = zeroI from by unfold fndV; rw [find_no HTH.out]; rfl)
    go_wp2_with (go_at_call 110; (with_reducible refine (CP.out _ (belStep HW1.out hbel)).mono ?_); rintro e w2 ⟨rfl, hb_w2⟩; have hbz := belStep hbel hb_w2; clear hbel; have hbel := hbz; clear hbz; clear hb_w2)
    refine imfind_ret _ w.heap.size _ ⟨#[]⟩ 0 0 false _ rfl rfl ((((HZ.out.later hbel).set 0 (.string ⟨#[]⟩)).set 1 (.int .i64 0)).set 2 (.int .i64 0)) ⟨by rw [HRES.out] <;> rfl, (belSet (belSet (belSet (belStep HW1.out hbel) ⟨w.heap.size, 0, none⟩ (.string ⟨#[]⟩) (Nat.le_refl _)) ⟨w.heap.size, 1, none⟩ (.int .i64 0) (Nat.le_refl _)) ⟨w.heap.size, 2, none⟩ (.int .i64 0) (Nat.le_refl _))⟩
  | true =>
    obtain ⟨x, hx, he⟩ := there_at HRI.out HTH.out
    have HRES := Lib.hid (show fndV L s = x from by unfold fndV; rw [find_there HRI.out hx he]; rfl)
    rw [HPL.out] at hx
    have hpl := (List.getElem?_eq_some_iff.1 hx).1
    have hpi : (p : Int) < (L.length : Int) := by omega
    have hp0 : (0 : Int) ≤ (p : Int) := by omega
    obtain ⟨bc, oc, ec, _, hcc⟩ := (HR.out.later HW1.out).elem ImgV.cells_len (by omega) hx
    subst ec
    have c0 := keep (hcc 0 _ rfl)
    have c1 := keep (hcc 1 _ rfl)
    have c2 := keep (hcc 2 _ rfl)
    rw [Nat.add_zero] at c0
    clear hx he hcc
    go_wp2_with (go_at_call 110; (with_reducible refine (CP.out _ (belStep HW1.out hbel)).mono ?_); rintro e w2 ⟨rfl, hb_w2⟩; have hbz := belStep hbel hb_w2; clear hbel; have hbel := hbz; clear hbz; clear hb_w2)
    refine imfind_ret _ w.heap.size _ x.name x.size x.last true _ rfl rfl ((((HZ.out.later hbel).set 0 (.string x.name)).set 1 (.int .i64 x.size)).set 2 (.int .i64 x.last)) ⟨by rw [HRES.out] <;> rfl, (belSet (belSet (belSet (belStep HW1.out hbel) ⟨w.heap.size, 0, none⟩ (.string x.name) (Nat.le_refl _)) ⟨w.heap.size, 1, none⟩ (.int .i64 x.size) (Nat.le_refl _)) ⟨w.heap.size, 2, none⟩ (.int .i64 x.last) (Nat.le_refl _))⟩
set_option maxRecDepth 100000 in
set_option maxHeartbeats 16000000 in
theorem im_Put (a : Option Addr) (len cap : Nat) (L : List ImgV) (s : ByteArray) (size round : Int) (w : World) (hl : L.length = len) (hR : Row w a len cap 3 (L.flatMap ImgV.cells)) (hri : Rises L) (hn : len ≤ 100000) :
    Calls Try.prog 93 #[.slice a len cap, .string s, .int .i64 size, .int .i64 round] w fun e w' => ∃ v, e = .returned v ∧ OwnR w' w.heap.size 58 3 v (putI L s size round).length ((putI L s size round).flatMap ImgV.cells) ∧ Below w.heap.size w w' := by
  have hw : Below w.heap.size w w := Below.refl _ _
  have hbel := hw
  have hbd_a : len ≤ cap ∧ cap ≤ 9223372036854775807 := by obtain ⟨_, h1, h2, _⟩ := hR; unfold maxLen at h2; exact ⟨h1, h2⟩
  obtain ⟨hbd1_a, hbd2_a⟩ := hbd_a
  have CP := Lib.hid (fun u (hu : Below w.heap.size w u) => im_place a len cap L s u hl (hR.later hu) hri)
  have CC := Lib.hid (fun u (hu : Below w.heap.size w u) => cln_allImg a len cap L u hl (hR.later hu) hn)
  have HRI := Lib.hid hri
  clear hR hri
  obtain ⟨th, hth⟩ : ∃ t, thereB L s = t := ⟨_, rfl⟩
  obtain ⟨p, hp⟩ : ∃ p, placeF L s = p := ⟨_, rfl⟩
  have hple : p ≤ len := by rw [← hp, ← hl]; exact place_le _ _
  rw [hth, hp] at CP
  have HTH := Lib.hid hth
  have HPL := Lib.hid hp
  clear hth hp
  go_enter Try.func93, Try.ntmps93
  go_upto_region 2 with (go_at_call 110; (with_reducible refine (CP.out _ hbel).mono ?_); rintro e w2 ⟨rfl, hb_w2⟩; have hbz := belStep hbel hb_w2; clear hbel; have hbel := hbz; clear hbz; clear hb_w2)
  go_upto_region 3 with (go_at_call 68; (with_reducible refine (CC.out _ hbel).mono ?_); rintro e w3 ⟨v3, rfl, ho3, hb3⟩; have HB3 := Lib.hid (belStep hbel hb3); have hs2 := hbel.size)
  have HS23 := Lib.hid (show w2.heap.size ≤ w3.heap.size from hb3.size)
  clear hw hb3 hbel
  cases th with
  | false =>
    have HRES := Lib.hid (show putI L s size round = L.take p ++ (⟨s, size, round⟩ : ImgV) :: L.drop p from by rw [put_no HTH.out, HPL.out])
    have HO3 := Lib.hid ho3
    clear ho3
    have hk : Below w3.heap.size w3 (w3.alloc (.cells #[.string s, .int .i64 size, .int .i64 round] 58)) := belAlloc (Below.refl _ _) _
    have CI := Lib.hid (ins_allImg w2.heap.size len p v3 L ⟨s, size, round⟩ w3.heap.size (w3.alloc (.cells #[.string s, .int .i64 size, .int .i64 round] 58)) (HO3.out.later hk) hl hn hple (Blk.new w3 [.string s, .int .i64 size, .int .i64 round] 58) (own_ne_new HO3.out (Nat.le_refl _)) (by have h1 := HB3.out.size; have h2 := hk.size; have h3 := HS23.out; omega))
    have HBK := Lib.hid (belStep HB3.out hk)
    clear hk
    go_wp2_with (go_at_call 130; (with_reducible refine CI.out.mono ?_); rintro e w4 ⟨v4, rfl, ho4, hb4, _, _⟩)
    go_ret
    exact ⟨_, rfl, by rw [HRES.out, show (L.take p ++ (⟨s, size, round⟩ : ImgV) :: L.drop p).length = len + 1 by simp; omega]; exact OwnR.mono ho4 (by omega), HBK.out.trans (hb4.mono (by omega))⟩
  | true =>
    obtain ⟨x, hx, he⟩ := there_at HRI.out HTH.out
    rw [HPL.out] at hx
    have HRES := Lib.hid (show putI L s size round = L.set p { x with last := round } from put_there HRI.out HTH.out hx he)
    have hpl : p < len := by rw [← hl]; exact (List.getElem?_eq_some_iff.1 hx).1
    have hpi : (p : Int) < (len : Int) := by omega
    have hp0 : (0 : Int) ≤ (p : Int) := by omega
    rcases own_open ho3 with ⟨_, h0, _⟩ | ⟨g, gc, C, rfl, hBg, hCb, hnc, hcm, hCl, hCt⟩
    · omega
    obtain ⟨c2v, c2⟩ : ∃ v, w3.cell? ⟨g, p * 3 + 2, none⟩ = some v := ⟨_, hCb.cell (List.getElem?_eq_getElem (by rw [hCl]; omega))⟩
    have cf := hCb.frozen
    have HO4 := Lib.hid (own_setI ho3 hx round)
    have HB4 := Lib.hid (belSet HB3.out ⟨g, p * 3 + 2, none⟩ (.int .i64 round) (by show w.heap.size ≤ g; omega))
    clear ho3 hx he hCb hCl hCt hcm
    go_wp2
    go_ret
    exact ⟨_, rfl, by rw [HRES.out, List.length_set, hl]; exact OwnR.mono HO4.out (by omega), HB4.out⟩
set_option maxRecDepth 100000 in
set_option maxHeartbeats 16000000 in
theorem im_Drop (a : Option Addr) (len cap : Nat) (L : List ImgV) (s : ByteArray) (w : World) (hl : L.length = len) (hR : Row w a len cap 3 (L.flatMap ImgV.cells)) (hri : Rises L) (hn : len ≤ 100000) :
    Calls Try.prog 72 #[.slice a len cap, .string s] w fun e w' => ∃ v, e = .returned (.tuple #[v, .bool (thereB L s)]) ∧ OwnR w' w.heap.size 58 3 v (dropI L s).length ((dropI L s).flatMap ImgV.cells) ∧ Below w.heap.size w w' := by
  have hw : Below w.heap.size w w := Below.refl _ _
  have hbel := hw
  have hbd_a : len ≤ cap ∧ cap ≤ 9223372036854775807 := by obtain ⟨_, h1, h2, _⟩ := hR; unfold maxLen at h2; exact ⟨h1, h2⟩
  obtain ⟨hbd1_a, hbd2_a⟩ := hbd_a
  have CP := Lib.hid (fun u (hu : Below w.heap.size w u) => im_place a len cap L s u hl (hR.later hu) hri)
  have CC := Lib.hid (fun u (hu : Below w.heap.size w u) => cln_allImg a len cap L u hl (hR.later hu) hn)
  have HR := Lib.hid hR
  have HRI := Lib.hid hri
  clear hR hri
  obtain ⟨th, hth⟩ : ∃ t, thereB L s = t := ⟨_, rfl⟩
  obtain ⟨p, hp⟩ : ∃ p, placeF L s = p := ⟨_, rfl⟩
  rw [hth, hp] at CP
  have HTH := Lib.hid hth
  have HPL := Lib.hid hp
  rw [hth]
  clear hth hp
  go_enter Try.func72, Try.ntmps72
  cases th with
  | false =>
    have HRES := Lib.hid (drop_no HTH.out)
    go_wp2_with (first | (go_at_call 110; (with_reducible refine (CP.out _ hbel).mono ?_); rintro e w2 ⟨rfl, hb_w2⟩; have hbz := belStep hbel hb_w2; clear hbel; have hbel := hbz; clear hbz; clear hb_w2) | (go_at_call 68; (with_reducible refine (CC.out _ hbel).mono ?_); rintro e w3 ⟨v3, rfl, ho3, hb3⟩))
    go_ret2
    exact ⟨_, rfl, by rw [HRES.out, hl]; exact OwnR.mono ho3 hbel.size, belStep hbel hb3⟩
  | true =>
    obtain ⟨x, hx, he⟩ := there_at HRI.out HTH.out
    rw [HPL.out] at hx
    have HRES := Lib.hid (drop_there HRI.out hx he)
    have hpl : p < L.length := (List.getElem?_eq_some_iff.1 hx).1
    subst hl
    have hpi : (p : Int) < (L.length : Int) := by omega
    have hp0 : (0 : Int) ≤ (p : Int) := by omega
    clear hx he CC
    have hne : L.length ≠ 0 := by omega
    go_upto_region 4 with (go_at_call 110; (with_reducible refine (CP.out _ hbel).mono ?_); rintro e w2 ⟨rfl, hb_w2⟩; have hbz := belStep hbel hb_w2; clear hbel; have hbel := hbz; clear hbz; clear hb_w2)
    have HB2 := Lib.hid hbel
    clear hbel hw
    have RT := Lib.hid (fun u (hu : Below w.heap.size w u) => row_takeG ImgV.cells_len (by omega) (HR.out.later hu) (show p ≤ L.length by omega))
    have RD := Lib.hid (fun u (hu : Below w.heap.size w u) => row_dropG ImgV.cells_len (by omega) (HR.out.later hu) (show p + 1 ≤ L.length by omega))
    obtain ⟨D, hD⟩ : ∃ D, p + 1 = D := ⟨_, rfl⟩
    rw [hD] at RD HRES
    have hDi : (p : Int) + 1 = (D : Int) := by omega
    have hD2 : IntKind.i64.wrap (D : Int) = (D : Int) := IntWalk.i64_in _ (by omega)
    have hDn : (D : Int) ≤ (L.length : Int) := by omega
    have hDc : (D : Int) ≤ (cap : Int) := by omega
    have hD0 : (0 : Int) ≤ (D : Int) := by omega
    have hpc : (p : Int) ≤ (cap : Int) := by omega
    have hpD : p ≤ D := by omega
    have hpDi : (p : Int) ≤ (D : Int) := by omega
    have hDp : ¬ D = p := by omega
    have hcp : ¬ cap = p := by omega
    have hcp2 : ¬ (cap : Int) = (p : Int) := by omega
    obtain ⟨ba, rfl⟩ : ∃ ba, a = some ba := by cases a with | none => exact absurd (HR.out.2.2.2.1 rfl).1 hne | some ba => exact ⟨ba, rfl⟩
    by_cases hcd : cap = D
    · subst hcd
      have RD2 := Lib.hid (fun u (hu : Below w.heap.size w u) => show Row u (some ba) 0 0 3 ((L.drop cap).flatMap ImgV.cells) from by have h := RD.out u hu; rw [if_pos rfl, Nat.sub_self, show L.length - cap = 0 by omega] at h; exact h)
      clear RD
      refine wp_region_held_drew (S := fun u => Below w2.heap.size w2 u) (by kernel_rfl) (by exact (show Below w2.heap.size w2 _ by repeat (first | assumption | exact Below.refl _ _ | refine belDrew ?_ | refine belAlloc ?_ _ | refine belStep ?_ (by assumption)))) (fun hHeld => ?_)
      have hbw := belStep HB2.out hHeld
      generalize w2.drew = wd at *
      refine wpAnyH_take (i := 0) (oi := ?oi_k1) (v := ?v_k1) ?hi_k1 (by kernel_rfl) ?hf_k1 ?hr_k1 ?hQ_k1 (Or.inl ⟨?hw_k1, ?hy_k1⟩) (by assumption) ?rest_k1
      case hi_k1 => ((simp only [List.getElem?_toArray, List.getElem?_cons_succ, List.getElem?_cons_zero]); rfl)
      case hf_k1 => kernel_rfl
      case hr_k1 => kernel_rfl
      case hQ_k1 => exact fun _ _ _ h => h
      case hw_k1 => rfl
      case hy_k1 => ((intro w hSw; (try dsimp only at hSw); go_simp); all_goals (with_reducible rfl))
      try simp only [Act.put, List.setIfInBounds_toArray, List.set_cons_zero, List.set_cons_succ]
      refine wpAnyH_take (i := 1) (oi := ?oi_k2) (v := ?v_k2) ?hi_k2 (by kernel_rfl) ?hf_k2 ?hr_k2 ?hQ_k2 (Or.inl ⟨?hw_k2, ?hy_k2⟩) (by assumption) ?rest_k2
      case hi_k2 => ((simp only [List.getElem?_toArray, List.getElem?_cons_succ, List.getElem?_cons_zero]); rfl)
      case hf_k2 => kernel_rfl
      case hr_k2 => kernel_rfl
      case hQ_k2 => exact fun _ _ _ h => h
      case hw_k2 => rfl
      case hy_k2 => ((intro w hSw; (try dsimp only at hSw); go_simp); all_goals (with_reducible rfl))
      try simp only [Act.put, List.setIfInBounds_toArray, List.set_cons_zero, List.set_cons_succ]
      refine wpAnyH_take (i := 2) (oi := ?oi_k3) (v := ?v_k3) ?hi_k3 (by kernel_rfl) ?hf_k3 ?hr_k3 ?hQ_k3 (Or.inl ⟨?hw_k3, ?hy_k3⟩) (by assumption) ?rest_k3
      case hi_k3 => ((simp only [List.getElem?_toArray, List.getElem?_cons_succ, List.getElem?_cons_zero]); rfl)
      case hf_k3 => kernel_rfl
      case hr_k3 => kernel_rfl
      case hQ_k3 => exact fun _ _ _ h => h
      case hw_k3 => rfl
      case hy_k3 => ((intro w hSw; (try dsimp only at hSw); go_simp); all_goals (with_reducible rfl))
      try simp only [Act.put, List.setIfInBounds_toArray, List.set_cons_zero, List.set_cons_succ]
      refine wpAnyH_take (i := 3) (oi := ?oi_k4) (v := ?v_k4) ?hi_k4 (by kernel_rfl) ?hf_k4 ?hr_k4 ?hQ_k4 (Or.inl ⟨?hw_k4, ?hy_k4⟩) (by assumption) ?rest_k4
      case hi_k4 => ((simp only [List.getElem?_toArray, List.getElem?_cons_succ, List.getElem?_cons_zero]); rfl)
      case hf_k4 => kernel_rfl
      case hr_k4 => kernel_rfl
      case hQ_k4 => exact fun _ _ _ h => h
      case hw_k4 => rfl
      case hy_k4 => ((intro w hSw; (try dsimp only at hSw); go_simp); all_goals (with_reducible rfl))
      try simp only [Act.put, List.setIfInBounds_toArray, List.set_cons_zero, List.set_cons_succ]
      refine wpAnyH_take (i := 4) (oi := ?oi_k5) (v := ?v_k5) ?hi_k5 (by kernel_rfl) ?hf_k5 ?hr_k5 ?hQ_k5 (Or.inl ⟨?hw_k5, ?hy_k5⟩) (by assumption) ?rest_k5
      case hi_k5 => ((simp only [List.getElem?_toArray, List.getElem?_cons_succ, List.getElem?_cons_zero]); rfl)
      case hf_k5 => kernel_rfl
      case hr_k5 => kernel_rfl
      case hQ_k5 => exact fun _ _ _ h => h
      case hw_k5 => rfl
      case hy_k5 => ((intro w hSw; (try dsimp only at hSw); go_simp); all_goals (with_reducible rfl))
      try simp only [Act.put, List.setIfInBounds_toArray, List.set_cons_zero, List.set_cons_succ]
      refine wpAnyH_take (i := 5) (oi := ?oi_k6) (v := ?v_k6) ?hi_k6 (by kernel_rfl) ?hf_k6 ?hr_k6 ?hQ_k6 (Or.inl ⟨?hw_k6, ?hy_k6⟩) (by assumption) ?rest_k6
      case hi_k6 => ((simp only [List.getElem?_toArray, List.getElem?_cons_succ, List.getElem?_cons_zero]); rfl)
      case hf_k6 => kernel_rfl
      case hr_k6 => kernel_rfl
      case hQ_k6 => exact fun _ _ _ h => h
      case hw_k6 => rfl
      case hy_k6 => ((intro w hSw; (try dsimp only at hSw); go_simp); all_goals (with_reducible rfl))
      try simp only [Act.put, List.setIfInBounds_toArray, List.set_cons_zero, List.set_cons_succ]
      refine wpAnyH_take (i := 6) (oi := ?oi_k7) (v := ?v_k7) ?hi_k7 (by kernel_rfl) ?hf_k7 ?hr_k7 ?hQ_k7 (Or.inl ⟨?hw_k7, ?hy_k7⟩) (by assumption) ?rest_k7
      case hi_k7 => ((simp only [List.getElem?_toArray, List.getElem?_cons_succ, List.getElem?_cons_zero]); rfl)
      case hf_k7 => kernel_rfl
      case hr_k7 => kernel_rfl
      case hQ_k7 => exact fun _ _ _ h => h
      case hw_k7 => rfl
      case hy_k7 => ((intro w hSw; (try dsimp only at hSw); go_simp); all_goals (with_reducible rfl))
      try simp only [Act.put, List.setIfInBounds_toArray, List.set_cons_zero, List.set_cons_succ]
      refine wpAnyH_ready (rs := [7]) (by kernel_rfl) (by simp) ?_
      refine AllReadyH.cons (o := ?o1_k8) ?hi_k8 (fun K hK => ?rest_k8) AllReadyH.nil
      case hi_k8 => ((simp only [List.getElem?_toArray, List.getElem?_cons_succ, List.getElem?_cons_zero]); rfl)
      go_simp
      have HPT := Lib.hid (rparts_two (RT.out wd hbw) (imgs_one _) (RD2.out wd hbw) (imgs_one _))
      have CCT := Lib.hid (slices_Concat _ 2 2 _ _ HPT.out (by simp [sumR]; omega))
      have hbv := belStep hbw (belAlloc (Below.refl wd.heap.size wd) (.cells #[.slice (some ba) p cap, .slice (some ba) 0 0] 29))
      have hHv := belStep hHeld (belAlloc (Below.refl wd.heap.size wd) (.cells #[.slice (some ba) p cap, .slice (some ba) 0 0] 29))
      clear HPT
      generalize wd.alloc (.cells #[.slice (some ba) p cap, .slice (some ba) 0 0] 29) = wv at *
      refine hK.out _ _ (by exact hHv) (fun hHeld => ?_)
      clear hK K
      try simp only [Act.put, List.setIfInBounds_toArray, List.set_cons_zero, List.set_cons_succ]
      refine wpAnyH_ready (rs := [8]) (by kernel_rfl) (by simp) ?_
      refine AllReadyH.cons (o := ?o1_k9) ?hi_k9 (fun K hK => ?rest_k9) AllReadyH.nil
      case hi_k9 => ((simp only [List.getElem?_toArray, List.getElem?_cons_succ, List.getElem?_cons_zero]); rfl)
      go_simp
      (go_at_call 111; (with_reducible refine (CCT.out).mono ?_); rintro e w5 ⟨v5, rfl, ho5, hb5⟩)
      try go_simp
      have hH5 := belStep hHv hb5
      have HB5 := Lib.hid (belStep hbv hb5)
      refine hK.out _ _ (by exact hH5) (fun hHeld => ?_)
      clear hK K
      try simp only [Act.put, List.setIfInBounds_toArray, List.set_cons_zero, List.set_cons_succ]
      refine wpAnyH_take (i := 9) (oi := ?oi_k10) (v := ?v_k10) ?hi_k10 (by kernel_rfl) ?hf_k10 ?hr_k10 ?hQ_k10 (Or.inl ⟨?hw_k10, ?hy_k10⟩) (by assumption) ?rest_k10
      case hi_k10 => ((simp only [List.getElem?_toArray, List.getElem?_cons_succ, List.getElem?_cons_zero]); rfl)
      case hf_k10 => kernel_rfl
      case hr_k10 => kernel_rfl
      case hQ_k10 => exact fun _ _ _ h => h
      case hw_k10 => rfl
      case hy_k10 => ((intro w hSw; (try dsimp only at hSw); go_simp); all_goals (with_reducible rfl))
      try simp only [Act.put, List.setIfInBounds_toArray, List.set_cons_zero, List.set_cons_succ]
      refine wpAnyH_take (i := 10) (oi := ?oi_k11) (v := ?v_k11) ?hi_k11 (by kernel_rfl) ?hf_k11 ?hr_k11 ?hQ_k11 (Or.inl ⟨?hw_k11, ?hy_k11⟩) (by assumption) ?rest_k11
      case hi_k11 => ((simp only [List.getElem?_toArray, List.getElem?_cons_succ, List.getElem?_cons_zero]); rfl)
      case hf_k11 => kernel_rfl
      case hr_k11 => kernel_rfl
      case hQ_k11 => exact fun _ _ _ h => h
      case hw_k11 => rfl
      case hy_k11 => ((intro w hSw; (try dsimp only at hSw); go_simp); all_goals (with_reducible rfl))
      try simp only [Act.put, List.setIfInBounds_toArray, List.set_cons_zero, List.set_cons_succ]
      refine wpAnyH_done (by kernel_rfl) ?_ _
      go_wp2
      go_ret2
      refine ⟨_, rfl, ?_, HB5.out⟩
      have ho6 := OwnR.mono ho5 (show w.heap.size ≤ wv.heap.size from hbv.size)
      rw [HRES.out]
      have e1 : (L.take p ++ L.drop cap).length = p + 0 := by rw [List.length_append, List.length_take, List.length_drop]; omega
      rw [e1, List.flatMap_append]
      simpa [sumR, joinR] using ho6
    · have RD2 := Lib.hid (fun u (hu : Below w.heap.size w u) => show Row u (some (ba.add (D * 3))) (L.length - D) (cap - D) 3 ((L.drop D).flatMap ImgV.cells) from by have h := RD.out u hu; rw [if_neg hcd] at h; exact h)
      clear RD
      have hce : ¬ (cap : Int) = (D : Int) := by omega
      refine wp_region_held_drew (S := fun u => Below w2.heap.size w2 u) (by kernel_rfl) (by exact (show Below w2.heap.size w2 _ by repeat (first | assumption | exact Below.refl _ _ | refine belDrew ?_ | refine belAlloc ?_ _ | refine belStep ?_ (by assumption)))) (fun hHeld => ?_)
      have hbw := belStep HB2.out hHeld
      generalize w2.drew = wd at *
      refine wpAnyH_take (i := 0) (oi := ?oi_k12) (v := ?v_k12) ?hi_k12 (by kernel_rfl) ?hf_k12 ?hr_k12 ?hQ_k12 (Or.inl ⟨?hw_k12, ?hy_k12⟩) (by assumption) ?rest_k12
      case hi_k12 => ((simp only [List.getElem?_toArray, List.getElem?_cons_succ, List.getElem?_cons_zero]); rfl)
      case hf_k12 => kernel_rfl
      case hr_k12 => kernel_rfl
      case hQ_k12 => exact fun _ _ _ h => h
      case hw_k12 => rfl
      case hy_k12 => ((intro w hSw; (try dsimp only at hSw); go_simp); all_goals (with_reducible rfl))
      try simp only [Act.put, List.setIfInBounds_toArray, List.set_cons_zero, List.set_cons_succ]
      refine wpAnyH_take (i := 1) (oi := ?oi_k13) (v := ?v_k13) ?hi_k13 (by kernel_rfl) ?hf_k13 ?hr_k13 ?hQ_k13 (Or.inl ⟨?hw_k13, ?hy_k13⟩) (by assumption) ?rest_k13
      case hi_k13 => ((simp only [List.getElem?_toArray, List.getElem?_cons_succ, List.getElem?_cons_zero]); rfl)
      case hf_k13 => kernel_rfl
      case hr_k13 => kernel_rfl
      case hQ_k13 => exact fun _ _ _ h => h
      case hw_k13 => rfl
      case hy_k13 => ((intro w hSw; (try dsimp only at hSw); go_simp); all_goals (with_reducible rfl))
      try simp only [Act.put, List.setIfInBounds_toArray, List.set_cons_zero, List.set_cons_succ]
      refine wpAnyH_take (i := 2) (oi := ?oi_k14) (v := ?v_k14) ?hi_k14 (by kernel_rfl) ?hf_k14 ?hr_k14 ?hQ_k14 (Or.inl ⟨?hw_k14, ?hy_k14⟩) (by assumption) ?rest_k14
      case hi_k14 => ((simp only [List.getElem?_toArray, List.getElem?_cons_succ, List.getElem?_cons_zero]); rfl)
      case hf_k14 => kernel_rfl
      case hr_k14 => kernel_rfl
      case hQ_k14 => exact fun _ _ _ h => h
      case hw_k14 => rfl
      case hy_k14 => ((intro w hSw; (try dsimp only at hSw); go_simp); all_goals (with_reducible rfl))
      try simp only [Act.put, List.setIfInBounds_toArray, List.set_cons_zero, List.set_cons_succ]
      refine wpAnyH_take (i := 3) (oi := ?oi_k15) (v := ?v_k15) ?hi_k15 (by kernel_rfl) ?hf_k15 ?hr_k15 ?hQ_k15 (Or.inl ⟨?hw_k15, ?hy_k15⟩) (by assumption) ?rest_k15
      case hi_k15 => ((simp only [List.getElem?_toArray, List.getElem?_cons_succ, List.getElem?_cons_zero]); rfl)
      case hf_k15 => kernel_rfl
      case hr_k15 => kernel_rfl
      case hQ_k15 => exact fun _ _ _ h => h
      case hw_k15 => rfl
      case hy_k15 => ((intro w hSw; (try dsimp only at hSw); go_simp); all_goals (with_reducible rfl))
      try simp only [Act.put, List.setIfInBounds_toArray, List.set_cons_zero, List.set_cons_succ]
      refine wpAnyH_take (i := 4) (oi := ?oi_k16) (v := ?v_k16) ?hi_k16 (by kernel_rfl) ?hf_k16 ?hr_k16 ?hQ_k16 (Or.inl ⟨?hw_k16, ?hy_k16⟩) (by assumption) ?rest_k16
      case hi_k16 => ((simp only [List.getElem?_toArray, List.getElem?_cons_succ, List.getElem?_cons_zero]); rfl)
      case hf_k16 => kernel_rfl
      case hr_k16 => kernel_rfl
      case hQ_k16 => exact fun _ _ _ h => h
      case hw_k16 => rfl
      case hy_k16 => ((intro w hSw; (try dsimp only at hSw); go_simp); all_goals (with_reducible rfl))
      try simp only [Act.put, List.setIfInBounds_toArray, List.set_cons_zero, List.set_cons_succ]
      refine wpAnyH_take (i := 5) (oi := ?oi_k17) (v := ?v_k17) ?hi_k17 (by kernel_rfl) ?hf_k17 ?hr_k17 ?hQ_k17 (Or.inl ⟨?hw_k17, ?hy_k17⟩) (by assumption) ?rest_k17
      case hi_k17 => ((simp only [List.getElem?_toArray, List.getElem?_cons_succ, List.getElem?_cons_zero]); rfl)
      case hf_k17 => kernel_rfl
      case hr_k17 => kernel_rfl
      case hQ_k17 => exact fun _ _ _ h => h
      case hw_k17 => rfl
      case hy_k17 => ((intro w hSw; (try dsimp only at hSw); go_simp); all_goals (with_reducible rfl))
      try simp only [Act.put, List.setIfInBounds_toArray, List.set_cons_zero, List.set_cons_succ]
      refine wpAnyH_take (i := 6) (oi := ?oi_k18) (v := ?v_k18) ?hi_k18 (by kernel_rfl) ?hf_k18 ?hr_k18 ?hQ_k18 (Or.inl ⟨?hw_k18, ?hy_k18⟩) (by assumption) ?rest_k18
      case hi_k18 => ((simp only [List.getElem?_toArray, List.getElem?_cons_succ, List.getElem?_cons_zero]); rfl)
      case hf_k18 => kernel_rfl
      case hr_k18 => kernel_rfl
      case hQ_k18 => exact fun _ _ _ h => h
      case hw_k18 => rfl
      case hy_k18 => ((intro w hSw; (try dsimp only at hSw); go_simp); all_goals (with_reducible rfl))
      try simp only [Act.put, List.setIfInBounds_toArray, List.set_cons_zero, List.set_cons_succ]
      refine wpAnyH_ready (rs := [7]) (by kernel_rfl) (by simp) ?_
      refine AllReadyH.cons (o := ?o1_k19) ?hi_k19 (fun K hK => ?rest_k19) AllReadyH.nil
      case hi_k19 => ((simp only [List.getElem?_toArray, List.getElem?_cons_succ, List.getElem?_cons_zero]); rfl)
      go_simp
      have HPT := Lib.hid (rparts_two (RT.out wd hbw) (imgs_one _) (RD2.out wd hbw) (imgs_one _))
      have CCT := Lib.hid (slices_Concat _ 2 2 _ _ HPT.out (by simp [sumR]; omega))
      have hbv := belStep hbw (belAlloc (Below.refl wd.heap.size wd) (.cells #[.slice (some ba) p cap, .slice (some (ba.add (D * 3))) (L.length - D) (cap - D)] 29))
      have hHv := belStep hHeld (belAlloc (Below.refl wd.heap.size wd) (.cells #[.slice (some ba) p cap, .slice (some (ba.add (D * 3))) (L.length - D) (cap - D)] 29))
      clear HPT
      generalize wd.alloc (.cells #[.slice (some ba) p cap, .slice (some (ba.add (D * 3))) (L.length - D) (cap - D)] 29) = wv at *
      refine hK.out _ _ (by exact hHv) (fun hHeld => ?_)
      clear hK K
      try simp only [Act.put, List.setIfInBounds_toArray, List.set_cons_zero, List.set_cons_succ]
      refine wpAnyH_ready (rs := [8]) (by kernel_rfl) (by simp) ?_
      refine AllReadyH.cons (o := ?o1_k20) ?hi_k20 (fun K hK => ?rest_k20) AllReadyH.nil
      case hi_k20 => ((simp only [List.getElem?_toArray, List.getElem?_cons_succ, List.getElem?_cons_zero]); rfl)
      go_simp
      (go_at_call 111; (with_reducible refine (CCT.out).mono ?_); rintro e w5 ⟨v5, rfl, ho5, hb5⟩)
      try go_simp
      have hH5 := belStep hHv hb5
      have HB5 := Lib.hid (belStep hbv hb5)
      refine hK.out _ _ (by exact hH5) (fun hHeld => ?_)
      clear hK K
      try simp only [Act.put, List.setIfInBounds_toArray, List.set_cons_zero, List.set_cons_succ]
      refine wpAnyH_take (i := 9) (oi := ?oi_k21) (v := ?v_k21) ?hi_k21 (by kernel_rfl) ?hf_k21 ?hr_k21 ?hQ_k21 (Or.inl ⟨?hw_k21, ?hy_k21⟩) (by assumption) ?rest_k21
      case hi_k21 => ((simp only [List.getElem?_toArray, List.getElem?_cons_succ, List.getElem?_cons_zero]); rfl)
      case hf_k21 => kernel_rfl
      case hr_k21 => kernel_rfl
      case hQ_k21 => exact fun _ _ _ h => h
      case hw_k21 => rfl
      case hy_k21 => ((intro w hSw; (try dsimp only at hSw); go_simp); all_goals (with_reducible rfl))
      try simp only [Act.put, List.setIfInBounds_toArray, List.set_cons_zero, List.set_cons_succ]
      refine wpAnyH_take (i := 10) (oi := ?oi_k22) (v := ?v_k22) ?hi_k22 (by kernel_rfl) ?hf_k22 ?hr_k22 ?hQ_k22 (Or.inl ⟨?hw_k22, ?hy_k22⟩) (by assumption) ?rest_k22
      case hi_k22 => ((simp only [List.getElem?_toArray, List.getElem?_cons_succ, List.getElem?_cons_zero]); rfl)
      case hf_k22 => kernel_rfl
      case hr_k22 => kernel_rfl
      case hQ_k22 => exact fun _ _ _ h => h
      case hw_k22 => rfl
      case hy_k22 => ((intro w hSw; (try dsimp only at hSw); go_simp); all_goals (with_reducible rfl))
      try simp only [Act.put, List.setIfInBounds_toArray, List.set_cons_zero, List.set_cons_succ]
      refine wpAnyH_done (by kernel_rfl) ?_ _
      go_wp2
      go_ret2
      refine ⟨_, rfl, ?_, HB5.out⟩
      have ho6 := OwnR.mono ho5 (show w.heap.size ≤ wv.heap.size from hbv.size)
      rw [HRES.out]
      have e1 : (L.take p ++ L.drop D).length = p + (L.length - D) := by rw [List.length_append, List.length_take, List.length_drop]; omega
      rw [e1, List.flatMap_append]
      simpa [sumR, joinR] using ho6
end Go.Proofs.Ytcnjcldfbidkmaa
