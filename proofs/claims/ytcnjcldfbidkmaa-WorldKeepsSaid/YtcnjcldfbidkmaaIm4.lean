
/- image.Touch, image.Order: contracts. -/
import Derived.Test.YtcnjcldfbidkmaaIm2
import Derived.Test.YtcnjcldfbidkmaaIm3
import Derived.Test.YtcnjcldfbidkmaaRowG
namespace Go.Proofs.Ytcnjcldfbidkmaa
open Go.RowKit
set_option linter.unusedVariables false
set_option linter.unusedSimpArgs false
theorem info_boolI : (Try.prog.info? 4).map (fun i => (i.zero, i.size, i.bytes)) = some (some (.bool false), 1, 1) := by kernel_rfl
theorem text_cell {w : World} {a : Option Addr} {n cap : Nat} {G : List ByteArray} (h : Row w a n cap 1 (G.map Value.string)) {k : Nat} {s : ByteArray} (hs : G[k]? = some s) : ∃ b off, a = some ⟨b, off, none⟩ ∧ w.cell? ⟨b, off + k, none⟩ = some (.string s) := by
  obtain ⟨_, _, _, _, h5⟩ := h
  have hk : (G.map Value.string)[k]? = some (.string s) := by rw [List.getElem?_map, hs]; rfl
  rcases h5 with h5 | ⟨b, off, e, hc⟩
  · rw [h5] at hk; cases hk
  · refine ⟨b, off, e, ?_⟩
    rw [hc k (by rcases Nat.lt_or_ge k (G.map Value.string).length with q | q; exact q; rw [List.getElem?_eq_none q] at hk; cases hk), hk]
theorem touch_nil (L : List ImgV) (r : Int) : touchI L [] r = L := by unfold touchI hasU; simp
theorem hasU_next {U : List ByteArray} {k : Nat} {t s : ByteArray} (h : U[k]? = some t) : hasU (U.take (k + 1)) s = (hasU (U.take k) s || (t.toList == s.toList)) := by
  unfold hasU
  rw [List.take_add_one, h, List.any_append]
  simp
theorem hasU_now {G : List ByteArray} {k : Nat} {t s : ByteArray} (h : G[k]? = some t) (he : (t.toList == s.toList) = true) : hasU G s = true :=
  List.any_eq_true.2 ⟨t, List.mem_of_getElem? h, he⟩
theorem touch_name (U : List ByteArray) (r : Int) (x : ImgV) : (if hasU U x.name then { x with last := r } else x).name = x.name := by split <;> rfl
theorem touch_len (L : List ImgV) (U : List ByteArray) (r : Int) : (touchI L U r).length = L.length := by unfold touchI; rw [List.length_map]
theorem touch_rises {L : List ImgV} (h : Rises L) (U : List ByteArray) (r : Int) : Rises (touchI L U r) := by
  unfold Rises touchI at *
  rw [List.pairwise_map]
  exact h.imp (fun {a b} q => by simp only [touch_name]; exact q)
theorem touch_place (L : List ImgV) (U : List ByteArray) (r : Int) (s : ByteArray) : placeF (touchI L U r) s = placeF L s := by
  unfold placeF touchI
  rw [List.filter_map, List.length_map]
  congr 2
  funext x
  simp only [Function.comp, touch_name]
theorem touch_there (L : List ImgV) (U : List ByteArray) (r : Int) (s : ByteArray) : thereB (touchI L U r) s = thereB L s := by
  unfold thereB touchI
  rw [List.any_map]
  congr 1
  funext x
  simp only [Function.comp, touch_name]
theorem touch_no {L : List ImgV} {U : List ByteArray} {k : Nat} {t : ByteArray} {r : Int} (hU : U[k]? = some t) (ht : thereB L t = false) : touchI L (U.take (k + 1)) r = touchI L (U.take k) r := by
  unfold touchI
  refine List.map_congr_left (fun x hx => ?_)
  have h := List.any_eq_false.1 (show (L.any fun x => x.name.toList == t.toList) = false from ht) x hx
  have h2 : (t.toList == x.name.toList) = false := by
    rw [beq_eq_false_iff_ne]; intro e; exact h (by rw [e]; exact beq_self_eq_true _)
  rw [hasU_next hU, h2, Bool.or_false]
theorem touch_at {L : List ImgV} {U : List ByteArray} {r : Int} {p : Nat} {x : ImgV} (hx : L[p]? = some x) : (touchI L U r)[p]? = some (if hasU U x.name then { x with last := r } else x) := by
  unfold touchI; rw [List.getElem?_map, hx]; rfl
theorem touch_yes {L : List ImgV} {U : List ByteArray} {k p : Nat} {t : ByteArray} {r : Int} {x y : ImgV} (hri : Rises L) (hU : U[k]? = some t) (hx : L[p]? = some x) (he : x.name.toList = t.toList) (hy : (touchI L (U.take k) r)[p]? = some y) :
    touchI L (U.take (k + 1)) r = (touchI L (U.take k) r).set p { y with last := r } := by
  have hp := (List.getElem?_eq_some_iff.1 hx).1
  apply List.ext_getElem?
  intro i
  rw [List.getElem?_set]
  by_cases e : p = i
  · subst e
    rw [if_pos rfl, if_pos (by rw [touch_len]; exact hp), touch_at hx, hasU_next hU]
    rw [touch_at hx] at hy
    have h2 : (t.toList == x.name.toList) = true := by rw [he]; exact beq_self_eq_true _
    rw [h2, Bool.or_true, if_pos rfl]
    by_cases hh : hasU (U.take k) x.name = true
    · rw [if_pos hh] at hy; cases hy; rfl
    · rw [if_neg hh] at hy; cases hy; rfl
  · rw [if_neg e]
    cases hq : L[i]? with
    | none => unfold touchI; rw [List.getElem?_map, List.getElem?_map, hq]; rfl
    | some z =>
      rw [touch_at hq, touch_at hq, hasU_next hU]
      have hne : (t.toList == z.name.toList) = false := by
        rw [beq_eq_false_iff_ne]
        intro q
        rcases Nat.lt_or_gt_of_ne e with h | h
        · have := hri.lt hx hq h; rw [he, q] at this; exact absurd this (List.lt_irrefl _)
        · have := hri.lt hq hx h; rw [he, q] at this; exact absurd this (List.lt_irrefl _)
      rw [hne, Bool.or_false]
def freeI (U : List ByteArray) (x : ImgV) : Bool := !hasU U x.name
def orderI (L : List ImgV) (U : List ByteArray) : List ImgV := sortBy (ltOf cfI) (L.filter (freeI U))
theorem order_le (L : List ImgV) (U : List ByteArray) : (orderI L U).length ≤ L.length := by unfold orderI; rw [sortBy_len]; exact List.length_filter_le _ _
def usedL (L : List ImgV) (U : List ByteArray) : List Bool := L.map fun x => hasU U x.name
theorem usedL_nil (L : List ImgV) : usedL L [] = List.replicate L.length false := by
  unfold usedL hasU
  simp only [List.any_nil]
  induction L with
  | nil => rfl
  | cons x L ih => rw [List.map_cons, ih, List.length_cons, List.replicate_succ]
theorem usedL_len (L : List ImgV) (U : List ByteArray) : (usedL L U).length = L.length := by unfold usedL; rw [List.length_map]
theorem usedL_no {L : List ImgV} {U : List ByteArray} {k : Nat} {t : ByteArray} (hU : U[k]? = some t) (ht : thereB L t = false) : usedL L (U.take (k + 1)) = usedL L (U.take k) := by
  unfold usedL
  refine List.map_congr_left (fun x hx => ?_)
  have h := List.any_eq_false.1 (show (L.any fun x => x.name.toList == t.toList) = false from ht) x hx
  have h2 : (t.toList == x.name.toList) = false := by
    rw [beq_eq_false_iff_ne]; intro e; exact h (by rw [e]; exact beq_self_eq_true _)
  rw [hasU_next hU, h2, Bool.or_false]
theorem usedL_at {L : List ImgV} {U : List ByteArray} {p : Nat} {x : ImgV} (hx : L[p]? = some x) : (usedL L U)[p]? = some (hasU U x.name) := by
  unfold usedL; rw [List.getElem?_map, hx]; rfl
theorem usedL_yes {L : List ImgV} {U : List ByteArray} {k p : Nat} {t : ByteArray} {x : ImgV} (hri : Rises L) (hU : U[k]? = some t) (hx : L[p]? = some x) (he : x.name.toList = t.toList) : usedL L (U.take (k + 1)) = (usedL L (U.take k)).set p true := by
  have hp := (List.getElem?_eq_some_iff.1 hx).1
  apply List.ext_getElem?
  intro i
  rw [List.getElem?_set]
  by_cases e : p = i
  · subst e
    rw [if_pos rfl, if_pos (by rw [usedL_len]; exact hp), usedL_at hx, hasU_next hU]
    have h2 : (t.toList == x.name.toList) = true := by rw [he]; exact beq_self_eq_true _
    rw [h2, Bool.or_true]
  · rw [if_neg e]
    cases hq : L[i]? with
    | none => unfold usedL; rw [List.getElem?_map, List.getElem?_map, hq]; rfl
    | some z =>
      rw [usedL_at hq, usedL_at hq, hasU_next hU]
      have hne : (t.toList == z.name.toList) = false := by
        rw [beq_eq_false_iff_ne]
        intro q
        rcases Nat.lt_or_gt_of_ne e with h | h
        · have := hri.lt hx hq h; rw [he, q] at this; exact absurd this (List.lt_irrefl _)
        · have := hri.lt hq hx h; rw [he, q] at this; exact absurd this (List.lt_irrefl _)
      rw [hne, Bool.or_false]
theorem own_apart {w : World} {B k n X : Nat} {E : TypeId} {v : Value} {cs : List Value} (h : OwnR w B E k v n cs) (hne : v.ownBlock ≠ some X) (i : Nat) (u : Value) : OwnR (w.setCell ⟨X, i, none⟩ u) B E k v n cs := by
  refine OwnR.sep (v := .slice (some ⟨X, 0, none⟩) 0 0) h ⟨rfl, rfl, rfl, by simp, fun j _ hj => heap_setCell_other w ⟨X, i, none⟩ j u (fun e => hj (by simp [Value.ownBlock, e]))⟩ ?_
  intro q h1 h2
  simp [Value.ownBlock] at h1
  exact hne (by rw [h2, h1])
set_option maxRecDepth 100000 in
set_option maxHeartbeats 16000000 in
theorem im_Touch (a : Option Addr) (len cap : Nat) (L : List ImgV) (b : Option Addr) (ul uc : Nat) (U : List ByteArray) (round : Int) (w : World) (hl : L.length = len) (hR : Row w a len cap 3 (L.flatMap ImgV.cells)) (hri : Rises L) (hu : U.length = ul) (hRU : Row w b ul uc 1 (U.map Value.string)) (hn : len ≤ 100000) :
    Calls Try.prog 100 #[.slice a len cap, .slice b ul uc, .int .i64 round] w fun e w' => ∃ v, e = .returned v ∧ OwnR w' w.heap.size 58 3 v (touchI L U round).length ((touchI L U round).flatMap ImgV.cells) ∧ Below w.heap.size w w' := by
  have hw : Below w.heap.size w w := Below.refl _ _
  have hbel := hw
  have hbd_a : len ≤ cap ∧ cap ≤ 9223372036854775807 := by obtain ⟨_, h1, h2, _⟩ := hR; unfold maxLen at h2; exact ⟨h1, h2⟩
  obtain ⟨hbd1_a, hbd2_a⟩ := hbd_a
  have hbd_u : ul ≤ uc ∧ uc ≤ 9223372036854775807 := by obtain ⟨_, h1, h2, _⟩ := hRU; unfold maxLen at h2; exact ⟨h1, h2⟩
  obtain ⟨hbd1_u, hbd2_u⟩ := hbd_u
  have CC := Lib.hid (cln_allImg a len cap L w hl hR hn)
  have HRU := Lib.hid hRU
  have HRI := Lib.hid hri
  have HLN := Lib.hid hl
  clear hR hRU hri hl
  subst hu
  go_enter Try.func100, Try.ntmps100
  go_upto_region 2 with (go_at_call 68; (with_reducible refine (CC.out).mono ?_); rintro e W3 ⟨v3, rfl, ho3, hb3⟩)
  clear hw hbel
  go_wp2
  go_loopw [16] (fun i wr => ∃ k : Nat, k ≤ U.length ∧ i = .int .i64 k ∧ OwnR wr w.heap.size 58 3 v3 len ((touchI L (U.take k) round).flatMap ImgV.cells) ∧ Below w.heap.size w wr) (fun i _ => U.length - (intOf i).toNat)
  case atStart => exact ⟨0, Nat.zero_le _, rfl, by rw [List.take_zero, touch_nil]; exact ho3, hb3⟩
  case round =>
    clear ho3 hb3 CC
    obtain ⟨k, hk, rfl, hO, hbr⟩ := hrel
    by_cases hlt : k < U.length
    · have hd : decide ((k : Int) < (U.length : Int)) = true := decide_eq_true (by omega)
      have hki : (k : Int) < (U.length : Int) := by omega
      have hk0 : (0 : Int) ≤ (k : Int) := by omega
      obtain ⟨t, ht⟩ : ∃ t, U[k]? = some t := ⟨U[k], List.getElem?_eq_getElem hlt⟩
      obtain ⟨bu, ou, eu, cu⟩ := text_cell (HRU.out.later hbr) ht
      subst eu
      have y0 := keep cu
      clear cu
      have hbel : Below wr.heap.size wr wr := Below.refl _ _
      have HBR := Lib.hid hbr
      clear hbr
      obtain ⟨TK, hTK⟩ : ∃ T, touchI L (U.take k) round = T := ⟨_, rfl⟩
      have HTR := Lib.hid (show Rises TK from hTK ▸ touch_rises HRI.out (U.take k) round)
      have HTL := Lib.hid (show TK.length = len by rw [← hTK, touch_len]; exact HLN.out)
      rw [hTK] at hO
      obtain ⟨va, vc, rfl, hrow⟩ := rowR_of_own hO
      have CP := Lib.hid (fun u (hu : Below wr.heap.size wr u) => by have h := im_place va len vc TK t u HTL.out (hrow.later hu) HTR.out; rw [← hTK, touch_place, touch_there] at h; exact h)
      have HTK := Lib.hid hTK
      obtain ⟨th, hth⟩ : ∃ q, thereB L t = q := ⟨_, rfl⟩
      obtain ⟨p, hp⟩ : ∃ q, placeF L t = q := ⟨_, rfl⟩
      rw [hth, hp] at CP
      have HTT := Lib.hid ht
      have HO := Lib.hid hO
      clear hrow ht hO hTK
      cases th with
      | false =>
        have HN := Lib.hid (touch_no (r := round) HTT.out hth)
        clear hth hp
        go_wp2_with (go_at_call 110; (with_reducible refine (CP.out _ hbel).mono ?_); rintro e w4 ⟨rfl, hb4⟩; have HB4 := Lib.hid hb4; clear hbel; have hbel := hb4; clear hb4)
        go_roundw
        case rel => exact ⟨k + 1, by omega, by push_cast; rfl, by rw [HN.out, HTK.out]; exact HO.out.later HB4.out, belStep HBR.out HB4.out⟩
        case measure => simp [intOf] <;> omega
      | true =>
        obtain ⟨x, hx, he⟩ := there_at HRI.out hth
        rw [hp] at hx
        have hpl : p < len := by rw [← HLN.out]; exact (List.getElem?_eq_some_iff.1 hx).1
        have hpi : (p : Int) < (len : Int) := by omega
        have hp0 : (0 : Int) ≤ (p : Int) := by omega
        obtain ⟨y, hy⟩ : ∃ y, TK[p]? = some y := ⟨TK[p]'(by rw [HTL.out]; exact hpl), List.getElem?_eq_getElem _⟩
        have HY := Lib.hid hy
        have HN := Lib.hid (touch_yes (r := round) HRI.out HTT.out hx he (by rw [HTK.out]; exact hy))
        clear hth hp hx he hy
        go_upto_region 6 with (go_at_call 110; (with_reducible refine (CP.out _ hbel).mono ?_); rintro e w4 ⟨rfl, hb4⟩; have HB4 := Lib.hid hb4; clear hbel; have hbel := hb4; clear hb4)
        have HO4 := Lib.hid (HO.out.later HB4.out)
        rcases own_open HO4.out with ⟨_, h0, _⟩ | ⟨g, gc, C, e9, hBg, hCb, hnc, hcm, hCl, _⟩
        · omega
        simp only [Value.slice.injEq, true_and] at e9
        obtain ⟨rfl, rfl⟩ := e9
        obtain ⟨c2v, c2⟩ : ∃ v, w4.cell? ⟨g, p * 3 + 2, none⟩ = some v := ⟨_, hCb.cell (List.getElem?_eq_getElem (by rw [hCl]; omega))⟩
        have cf := hCb.frozen
        have HO5 := Lib.hid (own_setI HO4.out HY.out round)
        have HB5 := Lib.hid (belSet (belStep HBR.out HB4.out) ⟨g, p * 3 + 2, none⟩ (.int .i64 round) hBg)
        clear hCb hCl hcm HO HO4
        go_wp2
        go_roundw
        case rel => exact ⟨k + 1, by omega, by push_cast; rfl, by rw [HN.out, HTK.out]; exact HO5.out, HB5.out⟩
        case measure => simp [intOf] <;> omega
    · obtain rfl : k = U.length := by omega
      have hd : decide ((U.length : Int) < (U.length : Int)) = false := decide_eq_false (by omega)
      rw [List.take_length] at hO
      go_wp2
      go_ret
      exact ⟨_, rfl, by rw [touch_len, HLN.out]; exact hO, hbr⟩
end Go.Proofs.Ytcnjcldfbidkmaa
