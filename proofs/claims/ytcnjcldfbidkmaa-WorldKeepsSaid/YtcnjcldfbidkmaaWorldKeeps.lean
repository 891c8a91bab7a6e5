
/- WorldKeeps holds for all its arguments. No conditions. -/
import Derived.Test.YtcnjcldfbidkmaaWmZ
import Derived.Test.YtcnjcldfbidkmaaAwake16
import Derived.Test.YtcnjcldfbidkmaaWl3
import Derived.Test.YtcnjcldfbidkmaaWl5
namespace Go.Proofs.Ytcnjcldfbidkmaa.worldKeeps
open Go.ChangeShapes Go.WideShapes Go.ChangeAt Go.RowKit
open Go.ChangeMaps (open_string shut_string)
set_option linter.unusedVariables false
set_option linter.unusedSimpArgs false
open Go.Sort
theorem ris_boxes {F : List Nat} {u : World} {m : WorldV} {r : Int} {oa ba ia : Option Addr} {n1 n2 n3 oc bc ic : Nat} (h : RIs F u (.agg #[.int .i64 r, .slice oa n1 oc, .slice ba n2 bc, .slice ia n3 ic]) m) : Row u ba n2 bc 4 (m.boxes.flatMap ContV.cells) := by
  obtain ⟨oa1, oc1, ba1, bc1, ia1, ic1, e, h1, h2, h3, _⟩ := h
  simp only [Value.agg.injEq, Array.mk.injEq, List.cons.injEq, Value.slice.injEq, and_true] at e
  obtain ⟨_, _, ⟨rfl, rfl, rfl⟩, _⟩ := e
  exact h2
theorem placeRC_yes {L : List ContV} (h : RisesC L) {s : ByteArray} (ht : thereC L s = true) : ∃ p, p < L.length ∧ placeRC L s = (p : Int) ∧ L[p]? = some (fndC L s) := by
  obtain ⟨x, hx, _⟩ := thereC_at h ht
  refine ⟨placeC L s, (List.getElem?_eq_some_iff.1 hx).1, ?_, ?_⟩
  · rw [placeRC_eq h, ht, if_pos rfl]
  · rw [fndC_at ht hx]; exact hx
theorem fewW_wn {L : List ActW} (h : fewW L = true) {x : ActW} (hx : x ∈ L) : x.wn ≤ 3000 := by
  have hl := fewW_len h
  unfold fewW at h
  rw [Bool.and_eq_true, List.take_of_length_le (by omega)] at h
  have h2 := List.all_eq_true.1 h.1 x hx
  unfold actWB at h2
  simp only [Bool.and_eq_true, decide_eq_true_eq] at h2
  exact h2.1.1.1.2
theorem strs_one (U : List ByteArray) : ∀ v ∈ U.map Value.string, v.oneCell' = true := fun v hv => by obtain ⟨x, _, rfl⟩ := List.mem_map.1 hv; rfl
theorem bools_one (V : List Bool) : ∀ v ∈ V.map Value.bool, v.oneCell' = true := fun v hv => by obtain ⟨x, _, rfl⟩ := List.mem_map.1 hv; rfl
/-- From place m on the one is as the other. -/
def TailE (cs ds : List Value) (m : Nat) : Prop := cs.length = ds.length ∧ ∀ j, m ≤ j → cs[j]? = ds[j]?
theorem TailE.refl (cs : List Value) (m : Nat) : TailE cs cs m := ⟨rfl, fun _ _ => rfl⟩
theorem TailE.set {cs ds : List Value} {m q : Nat} (h : TailE cs ds m) (j : Nat) (hj : j < q) (hm : m ≤ q) (v : Value) : TailE (cs.set j v) ds q := ⟨by rw [List.length_set]; exact h.1, fun i hi => by rw [List.getElem?_set_ne (by omega)]; exact h.2 i (by omega)⟩
theorem take_cell {C cs : List Value} {m j : Nat} {v : Value} (h : C.take m = cs) (hj : cs[j]? = some v) : C[j]? = some v := by
  have h1 := (List.getElem?_eq_some_iff.1 hj).1
  rw [← h, List.length_take] at h1
  rw [← h, List.getElem?_take_of_lt (by omega)] at hj
  exact hj
/-- As LoopW; the law's blocks X are none of the runtime's, nor of the law's own runtime's rows. -/
def LoopX (w u : World) (M mb : Nat) (X : List Nat) (m : WorldV) : Prop := ∃ oa oc ba bc ia ic F, Blk u mb [.int .i64 m.retries, .slice oa m.outs.length oc, .slice ba m.boxes.length bc, .slice ia m.images.length ic] 31 ∧ WAt u M M F m ∧ RIs (X ++ F) u (.agg #[.int .i64 m.retries, .slice oa m.outs.length oc, .slice ba m.boxes.length bc, .slice ia m.images.length ic]) m ∧ Below w.heap.size w u ∧ w.heap.size ≤ M ∧ mb ∉ F ∧ w.heap.size ≤ mb ∧ ∀ x ∈ X, x ∉ F ∧ x ≠ mb ∧ w.heap.size ≤ x ∧ x < u.heap.size
theorem LoopX.below {w u : World} {M mb : Nat} {X : List Nat} {m : WorldV} (h : LoopX w u M mb X m) : Below w.heap.size w u := by obtain ⟨_, _, _, _, _, _, _, _, _, _, h, _⟩ := h; exact h
theorem LoopX.start {w u : World} {M mb : Nat} {m : WorldV} (h : LoopW w u M mb m) : LoopX w u M mb [] m := by
  obtain ⟨oa, oc, ba, bc, ia, ic, F, h0, h1, h2, h3, h4, h5, h6⟩ := h
  exact ⟨oa, oc, ba, bc, ia, ic, F, h0, h1, h2, h3, h4, h5, h6, fun x hx => by cases hx⟩
/-- The law writes its own blocks. -/
theorem LoopX.mine {w u v : World} {M mb : Nat} {X : List Nat} {m : WorldV} (h : LoopX w u M mb X m) (ha : Apart X u v) : LoopX w v M mb X m := by
  obtain ⟨oa, oc, ba, bc, ia, ic, F, h0, h1, h2, h3, h4, h5, h6, h7⟩ := h
  exact ⟨oa, oc, ba, bc, ia, ic, F, h0.apart ha (fun q => (h7 _ q).2.1 rfl), h1.same (fun b hb => ha.block b (h1.foot_lt b hb).2 (fun q => (h7 b q).1 hb)), h2.apart (ha.weaken (fun b hb => List.mem_append_left F hb)), h3.trans (ha.below (fun b hb => (h7 b hb).2.2.1) h3.size), h4, h5, h6, fun x hx => ⟨(h7 x hx).1, (h7 x hx).2.1, (h7 x hx).2.2.1, Nat.lt_of_lt_of_le (h7 x hx).2.2.2 ha.size⟩⟩
/-- New blocks of the law. -/
theorem LoopX.grow {w u v : World} {M mb : Nat} {X Y : List Nat} {m : WorldV} (h : LoopX w u M mb X m) (hb : Below u.heap.size u v) (hY : ∀ y ∈ Y, y ∈ X ∨ (u.heap.size ≤ y ∧ y < v.heap.size)) : LoopX w v M mb Y m := by
  obtain ⟨oa, oc, ba, bc, ia, ic, F, h0, h1, h2, h3, h4, h5, h6, h7⟩ := h
  refine ⟨oa, oc, ba, bc, ia, ic, F, h0.later hb, h1.later hb, (h2.more (fun b hb2 => ?_)).later hb, belStep h3 hb, h4, h5, h6, fun y hy => ?_⟩
  · rcases List.mem_append.1 hb2 with q | q
    · rcases hY b q with r | r
      · exact .inl (List.mem_append_left F r)
      · exact .inr r.1
    · exact .inl (List.mem_append_right X q)
  · rcases hY y hy with q | ⟨q1, q2⟩
    · exact ⟨(h7 y q).1, (h7 y q).2.1, (h7 y q).2.2.1, Nat.lt_of_lt_of_le (h7 y q).2.2.2 hb.size⟩
    · exact ⟨fun hF => absurd (h1.foot_lt _ hF).2 (by omega), fun e => by have := h0.lt; omega, Nat.le_trans h3.size q1, q2⟩
theorem LoopX.later {w u v : World} {M mb : Nat} {X : List Nat} {m : WorldV} (h : LoopX w u M mb X m) (hb : Below u.heap.size u v) : LoopX w v M mb X m := h.grow hb (fun y hy => .inl hy)
theorem LoopX.sub {w u : World} {M mb : Nat} {X Y : List Nat} {m : WorldV} (h : LoopX w u M mb X m) (hY : ∀ y ∈ Y, y ∈ X) : LoopX w u M mb Y m := h.grow (Below.refl _ _) (fun y hy => .inl (hY y hy))
theorem LoopX.wl {w u : World} {M mb : Nat} {X : List Nat} {m : WorldV} (h : LoopX w u M mb X m) : WL w u M [] m := by
  obtain ⟨_, _, _, _, _, _, F, _, h1, _, h3, h4, _⟩ := h
  exact ⟨F, h1, h3, h4, fun x hx => by cases hx⟩
/-- The law's own runtime is the new one. -/
theorem loopX_put {w u : World} {M mb : Nat} {X G : List Nat} {m : WorldV} {oa ba ia : Option Addr} {oc bc ic : Nat} (hW : WAt u M M G m) (hR : RIs (X ++ G) u (.agg #[.int .i64 m.retries, .slice oa m.outs.length oc, .slice ba m.boxes.length bc, .slice ia m.images.length ic]) m)
    (hb : Below w.heap.size w u) (hM : w.heap.size ≤ M) (hm : mb ∉ G) (hw : w.heap.size ≤ mb) (c0 c1 c2 c3 : Value) (hB : Blk u mb [c0, c1, c2, c3] 31) (hC : worldKind [c0, c1, c2, c3]) (hX : ∀ x ∈ X, x ∉ G ∧ x ≠ mb ∧ w.heap.size ≤ x ∧ x < u.heap.size) :
    LoopX w ((((u.setCell ⟨mb, 0, none⟩ (.int .i64 m.retries)).setCell ⟨mb, 1, none⟩ (.slice oa m.outs.length oc)).setCell ⟨mb, 2, none⟩ (.slice ba m.boxes.length bc)).setCell ⟨mb, 3, none⟩ (.slice ia m.images.length ic)) M mb X m := by
  have hA := ((((Apart.refl [mb] u).set ⟨mb, 0, none⟩ (.int .i64 m.retries) (by simp)).set ⟨mb, 1, none⟩ (.slice oa m.outs.length oc) (by simp)).set ⟨mb, 2, none⟩ (.slice ba m.boxes.length bc) (by simp)).set ⟨mb, 3, none⟩ (.slice ia m.images.length ic) (by simp)
  have hR2 := (ris_blk hR hB hC).apart (hA.weaken (fun b hb => by simp only [List.mem_singleton] at hb; subst hb; exact List.mem_cons_self))
  refine ⟨oa, oc, ba, bc, ia, ic, G, ?_, hW.same (fun b hb2 => hA.block b (hW.foot_lt b hb2).2 (fun q => by simp only [List.mem_singleton] at q; subst q; exact hm hb2)), hR2.more (fun b hb2 => .inl (List.mem_cons_of_mem _ hb2)), ?_, hM, hm, hw, fun x hx => ⟨(hX x hx).1, (hX x hx).2.1, (hX x hx).2.2.1, Nat.lt_of_lt_of_le (hX x hx).2.2.2 hA.size⟩⟩
  · exact (((hB.set 0 (.int .i64 m.retries)).set 1 (.slice oa m.outs.length oc)).set 2 (.slice ba m.boxes.length bc)).set 3 (.slice ia m.images.length ic)
  · exact belSet (belSet (belSet (belSet hb ⟨mb, 0, none⟩ _ hw) ⟨mb, 1, none⟩ _ hw) ⟨mb, 2, none⟩ _ hw) ⟨mb, 3, none⟩ _ hw
theorem own_apart {F : List Nat} {u v : World} {B k n : Nat} {E : TypeId} {x : Value} {cs : List Value} (h : OwnR u B E k x n cs) (ha : Apart F u v) (hF : ∀ g, x.ownBlock = some g → g ∉ F) : OwnR v B E k x n cs := own_same h (fun g e => ha.block g (own_type h e).2.1 (hF g e))
def obs (v : Value) : List Nat := v.ownBlock.toList
theorem obs_mem {v : Value} {b : Nat} : b ∈ obs v ↔ v.ownBlock = some b := by unfold obs; rw [Option.mem_toList]
theorem row_of_ownS {w : World} {B : Nat} {E : TypeId} {k : Nat} {a : Option Addr} {n c : Nat} {cs : List Value} (h : OwnR w B E k (.slice a n c) n cs) : Row w a n c k cs := own_row h
theorem set_str {cs : List Value} (k : Nat) (s : ByteArray) (h : ∀ v ∈ cs, ∃ t, v = Value.string t) : ∀ v ∈ cs.set k (.string s), ∃ t, v = Value.string t := fun v hv => by
  rcases List.mem_or_eq_of_mem_set hv with q | q
  · exact h v q
  · exact ⟨s, q⟩
def AllB (cs : List Value) : Prop := ∀ (j : Nat) (v : Value), cs[j]? = some v → ∃ b, v = Value.bool b
theorem allB_map (V : List Bool) : AllB (V.map Value.bool) := fun j v h => by obtain ⟨b, _, rfl⟩ := List.mem_map.1 (List.mem_of_getElem? h); exact ⟨b, rfl⟩
theorem AllB.set {cs : List Value} (h : AllB cs) (k : Nat) (b : Bool) : AllB (cs.set k (.bool b)) := fun j v hv => by
  rcases List.mem_or_eq_of_mem_set (List.mem_of_getElem? hv) with q | q
  · obtain ⟨i, hi⟩ := List.getElem?_of_mem q; exact h i v hi
  · exact ⟨b, q⟩
theorem fewW_un {L : List ActW} (h : fewW L = true) {x : ActW} (hx : x ∈ L) {W : World} (hg : x.good W) : x.un ≤ 60 := by
  have hl := fewW_len h
  unfold fewW at h
  rw [Bool.and_eq_true, List.take_of_length_le (by omega)] at h
  have h2 := List.all_eq_true.1 h.1 x hx
  unfold actWB at h2
  simp only [Bool.and_eq_true, decide_eq_true_eq] at h2
  have := few_lenT h2.1.1.2
  rw [hg.1.2.2.2.2.2.2.2.1] at this
  exact this
theorem own_blk {w : World} {B k n c : Nat} {E : TypeId} {a : Option Addr} {cs : List Value} (h : OwnR w B E k (.slice a n c) n cs) {y : Addr} (e : a = some y) : (Value.slice a n c).ownBlock = some y.block := by
  subst e
  rcases own_open h with ⟨e, _, _⟩ | ⟨g, c2, C, e, _⟩
  · cases e
  · simp only [Value.slice.injEq, Option.some.injEq, true_and] at e
    obtain ⟨rfl, _⟩ := e
    rfl
set_option maxRecDepth 100000 in
set_option maxHeartbeats 64000000 in
theorem walk (a : Option Addr) (n c : Nat) (L : List ActW) (w : World) (hl : L.length = n) (hg : ∀ x ∈ L, x.good w) (hR : Row w a n c 8 (L.flatMap ActW.cells)) :
    Calls Try.prog 5 #[.slice a n c] w fun e w' => e = .returned (.bool true) ∧ Below w.heap.size w w' := by
  have hw : Below w.heap.size w w := Below.refl _ _
  have hbel := hw
  have hbd_a : n ≤ c ∧ c ≤ 9223372036854775807 := by obtain ⟨_, h1, h2, _⟩ := hR; unfold maxLen at h2; exact ⟨h1, h2⟩
  obtain ⟨hbd1_a, hbd2_a⟩ := hbd_a
  subst hl
  obtain ⟨fw, hfw⟩ : ∃ q, fewW L = q := ⟨_, rfl⟩
  have CFW := Lib.hid (fun u (hu : Below w.heap.size w u) => hfw ▸ law16_few a L.length c L u rfl (hR.later hu) (fun y hy => good_laterW (hg y hy) hu))
  have HFW := Lib.hid hfw
  have HR := Lib.hid hR
  have HG := Lib.hid hg
  clear hR hg hfw
  go_enter Try.func5, Try.ntmps5
  go_upto_region 3 with (first | (go_at_call 16; (with_reducible refine (awake16 _).mono ?_); rintro e w1 ⟨rfl, hb1⟩; replace hbel := belStep hbel hb1; clear hb1) | (go_at_call 17; (with_reducible refine (CFW.out _ hbel).mono ?_); rintro e wf1 ⟨rfl, hb_wf1⟩; replace hbel := belStep hbel hb_wf1; clear hb_wf1; rcases fw with _ | _))
  · go_ret
    exact ⟨rfl, hbel⟩
  have hn50 : L.length ≤ 50 := fewW_len HFW.out
  clear CFW hw
  obtain ⟨r, hr2⟩ : ∃ r : Int, r = 1 := ⟨_, rfl⟩
  go_upto_region 6 with (go_at_call 18; (with_reducible refine (wl_NewM 1 w _ hbel).mono ?_); rintro e w1 ⟨M, rfl, hS_, hb_⟩; have HS := Lib.hid hS_; clear hS_ hb_)
  clear hbel
  go_upto_region 7 with fail
  have HLX := Lib.hid (LoopX.start (LoopW.start HS.out))
  generalize (w1.alloc (.cells #[.int .i64 1, .slice none 0 0, .slice none 0 0, .slice none 0 0] 31)) = W7 at *
  generalize w1.heap.size = mb at *
  clear HS
  rw [← hr2] at HLX
  clear hr2
  go_wp2
  go_loopw [5] (fun iv wr => ∃ k : Nat, k ≤ L.length ∧ iv = .int .i64 k ∧ Hid (LoopX w wr M mb [] (afterW r (L.take k)))) (fun iv _ => L.length - (intOf iv).toNat)
  case atStart => exact ⟨0, Nat.zero_le _, rfl, HLX⟩
  case round =>
    clear HLX
    obtain ⟨k, hk, rfl, HLX⟩ := hrel
    by_cases hlt : k < L.length
    · have hd : decide ((k : Int) < (L.length : Int)) = true := decide_eq_true (by omega)
      have hki : (k : Int) < (L.length : Int) := by omega
      have hk0 : (0 : Int) ≤ (k : Int) := by omega
      have hbel := HLX.out.below
      obtain ⟨x, hx⟩ : ∃ x, L[k]? = some x := ⟨L[k], List.getElem?_eq_getElem hlt⟩
      obtain ⟨bc, oc, ec, _, hcc⟩ := (HR.out).elem ActW.cells_len (by omega) hx
      subst ec
      have c0 := keep (hcc 0 _ rfl)
      have c1 := keep (hcc 1 _ rfl)
      have c2 := keep (hcc 2 _ rfl)
      have c3 := keep (hcc 3 _ rfl)
      have c4 := keep (hcc 4 _ rfl)
      have c5 := keep (hcc 5 _ rfl)
      have c6 := keep (hcc 6 _ rfl)
      have c7 := keep (hcc 7 _ rfl)
      rw [Nat.add_zero] at c0
      have HC7 := Lib.hid c7
      have HGX := Lib.hid (HG.out x (List.mem_of_getElem? hx))
      have hwn := fewW_wn HFW.out (List.mem_of_getElem? hx)
      have hun := fewW_un HFW.out (List.mem_of_getElem? hx) HGX.out
      have HNX := Lib.hid (afterW_next (r := r) hx)
      have HGM := Lib.hid (afterW_good (W := w) r k L HG.out (by omega))
      clear hx hcc
      obtain ⟨m, hm⟩ : ∃ m, afterW r (L.take k) = m := ⟨_, rfl⟩
      rw [hm] at HLX HNX HGM
      clear hm
      obtain ⟨N, hN⟩ : ∃ N, stepW m x = N := ⟨_, rfl⟩
      have HSN := Lib.hid hN
      have HGN := Lib.hid (show N.Good (k + 1) from hN ▸ good_step HGM.out HGX.out)
      rw [hN] at HNX
      clear hN
      obtain ⟨⟨_, _, _, _, _, _, hvl_, hul_, _⟩, hrv_, hru_⟩ := HGX.out
      have HVL := Lib.hid hvl_
      have HUL := Lib.hid hul_
      have HRV := Lib.hid hrv_
      have HRU := Lib.hid hru_
      have hbw1 := hrv_.2.1
      have hbw2 : x.wc ≤ 9223372036854775807 := by have h_ := hrv_.2.2.1; unfold maxLen at h_; exact h_
      have hbu1 := hru_.2.1
      have hbu2 : x.uc ≤ 9223372036854775807 := by have h_ := hru_.2.2.1; unfold maxLen at h_; exact h_
      clear hvl_ hul_ hrv_ hru_
      go_upto_region 11 with fail
      have k1 : Below wr.heap.size wr (wr.alloc (.cells #[.int .i64 x.op, .slice x.wa x.wn x.wc, .string x.id, .int .i64 x.what, .string x.name, .int .i64 x.size, .int .i64 x.round, .slice x.ua x.un x.uc] 36)) := belAlloc (Below.refl _ _) _
      have HAB := Lib.hid (Blk.new wr [.int .i64 x.op, .slice x.wa x.wn x.wc, .string x.id, .int .i64 x.what, .string x.name, .int .i64 x.size, .int .i64 x.round, .slice x.ua x.un x.uc] 36)
      replace HLX := Lib.hid (LoopX.grow (Y := [wr.heap.size]) HLX.out k1 (fun y hy => by simp only [List.mem_singleton] at hy; subst hy; exact .inr ⟨Nat.le_refl _, by simp⟩))
      clear k1 hbel
      generalize (wr.alloc (.cells #[.int .i64 x.op, .slice x.wa x.wn x.wc, .string x.id, .int .i64 x.what, .string x.name, .int .i64 x.size, .int .i64 x.round, .slice x.ua x.un x.uc] 36)) = W10 at *
      have hbel := HLX.out.below
      generalize wr.heap.size = ab at *
      have hab := HAB.out.lt
      have HL := Lib.hid ((HRV.out.later hbel).later (belAlloc (Below.refl W10.heap.size W10) (.cells #[] 4)))
      have HE := Lib.hid (own_empty W10 4 1)
      have hk0 := belAlloc (Below.refl W10.heap.size W10) (.cells #[] 4)
      have HAB0 := Lib.hid (HAB.out.later hk0)
      go_upto_region 12 with (at_builtin; refine wpList_app_row rfl _ _ 27 rfl W10.heap.size 4 (.bool false) 1 1 Try.underlying27 info_boolI rfl (by decide) _ 0 [] rfl HE.out _ x.wn x.wc _ rfl HL.out (bools_one x.V) (by unfold maxLen; omega) (by omega) (Below.size hk0) ?_; intro v3 w3 ho3 hb3 _; have ho4 : OwnR w3 W10.heap.size 4 1 v3 x.wn (x.V.map Value.bool) := (by rw [Nat.zero_add, List.nil_append] at ho3; exact ho3); clear ho3; obtain ⟨wa, wc, rfl, _⟩ := rowR_of_own ho4; have hk3 := hk0.trans hb3; have HAB3 := Lib.hid (HAB.out.later hk3); have z1 := HAB3.out.cell (j := 1) rfl; have zf := HAB3.out.frozen)
      have hAp : Apart [ab] w3 (w3.setCell ⟨ab, 1, none⟩ (.slice wa x.wn wc)) := (Apart.refl _ _).set _ _ (by simp)
      have HO1 := Lib.hid (own_apart ho4 hAp (fun g e q => by simp only [List.mem_singleton] at q; subst q; have := (own_type ho4 e).1; omega))
      have HLX2 := Lib.hid (LoopX.mine (X := ab :: obs (.slice wa x.wn wc)) (LoopX.grow HLX.out hk3 (fun y hy => by
      rcases List.mem_cons.1 hy with q | q
      · subst q; exact .inl List.mem_cons_self
      · exact .inr ⟨(own_type ho4 (obs_mem.1 q)).1, (own_type ho4 (obs_mem.1 q)).2.1⟩)) (hAp.weaken (fun b hb => by simp only [List.mem_singleton] at hb; subst hb; exact List.mem_cons_self)))
      have HX1 := Lib.hid (fun g (e : (Value.slice wa x.wn wc).ownBlock = some g) => (⟨(own_type ho4 e).1, Nat.lt_of_lt_of_le (own_type ho4 e).2.1 hAp.size⟩ : W10.heap.size ≤ g ∧ g < (w3.setCell ⟨ab, 1, none⟩ (.slice wa x.wn wc)).heap.size))
      have HAB2 := Lib.hid (show Blk (w3.setCell ⟨ab, 1, none⟩ (.slice wa x.wn wc)) ab [.int .i64 x.op, .slice wa x.wn wc, .string x.id, .int .i64 x.what, .string x.name, .int .i64 x.size, .int .i64 x.round, .slice x.ua x.un x.uc] 36 from HAB3.out.set 1 (.slice wa x.wn wc))
      clear ho4 hb3 hk3 hAp z1 zf HAB3 HAB0 HAB HLX HE HL hk0 hbel
      generalize w3.setCell ⟨ab, 1, none⟩ (.slice wa x.wn wc) = W11 at *
      have HAB := HAB2
      have HLX := HLX2
      clear HAB2 HLX2
      have hbel := HLX.out.below
      have hs11 : W10.heap.size ≤ W11.heap.size ∨ True := .inr trivial
      clear hs11
      have HL := Lib.hid ((HRU.out.later hbel).later (belAlloc (Below.refl W11.heap.size W11) (.cells #[] 9)))
      have HE := Lib.hid (own_empty W11 9 1)
      have hk0 := belAlloc (Below.refl W11.heap.size W11) (.cells #[] 9)
      have HAB0 := Lib.hid (HAB.out.later hk0)
      go_upto_region 13 with (at_builtin; refine wpList_app_row rfl _ _ 34 rfl W11.heap.size 9 (.string ⟨#[]⟩) 1 16 Try.underlying34 info_strI rfl (by decide) _ 0 [] rfl HE.out _ x.un x.uc _ rfl HL.out (strs_one x.U) (by unfold maxLen; omega) (by omega) (Below.size hk0) ?_; intro v5 w5 ho3 hb3 _; have ho4 : OwnR w5 W11.heap.size 9 1 v5 x.un (x.U.map Value.string) := (by rw [Nat.zero_add, List.nil_append] at ho3; exact ho3); clear ho3; obtain ⟨ua, uc, rfl, _⟩ := rowR_of_own ho4; have hk3 := hk0.trans hb3; have HAB3 := Lib.hid (HAB.out.later hk3); have z7 := HAB3.out.cell (j := 7) rfl; have zf := HAB3.out.frozen)
      have hab11 := HAB.out.lt
      have hAp : Apart [ab] w5 (w5.setCell ⟨ab, 7, none⟩ (.slice ua x.un uc)) := (Apart.refl _ _).set _ _ (by simp)
      have HO2 := Lib.hid (own_apart ho4 hAp (fun g e q => by simp only [List.mem_singleton] at q; subst q; have := (own_type ho4 e).1; omega))
      replace HO1 := Lib.hid (own_apart (OwnR.later HO1.out hk3) hAp (fun g e q => by simp only [List.mem_singleton] at q; subst q; have := (HX1.out _ e).1; omega))
      have HX2 := Lib.hid (fun g (e : (Value.slice ua x.un uc).ownBlock = some g) => (⟨(own_type ho4 e).1, Nat.lt_of_lt_of_le (own_type ho4 e).2.1 hAp.size⟩ : W11.heap.size ≤ g ∧ g < (w5.setCell ⟨ab, 7, none⟩ (.slice ua x.un uc)).heap.size))
      have hs12 : W11.heap.size ≤ (w5.setCell ⟨ab, 7, none⟩ (.slice ua x.un uc)).heap.size := Nat.le_trans hk3.size hAp.size
      have HLX2 := Lib.hid (LoopX.mine (X := (ab :: (obs (.slice wa x.wn wc) ++ obs (.slice ua x.un uc)))) (LoopX.grow HLX.out hk3 (fun y hy => by
      rcases List.mem_cons.1 hy with q | q
      · subst q; exact .inl List.mem_cons_self
      · rcases List.mem_append.1 q with q | q
        · exact .inl (List.mem_cons_of_mem _ q)
        · exact .inr ⟨(own_type ho4 (obs_mem.1 q)).1, (own_type ho4 (obs_mem.1 q)).2.1⟩)) (hAp.weaken (fun b hb => by simp only [List.mem_singleton] at hb; subst hb; exact List.mem_cons_self)))
      have HAB2 := Lib.hid (show Blk (w5.setCell ⟨ab, 7, none⟩ (.slice ua x.un uc)) ab [.int .i64 x.op, .slice wa x.wn wc, .string x.id, .int .i64 x.what, .string x.name, .int .i64 x.size, .int .i64 x.round, .slice ua x.un uc] 36 from HAB3.out.set 7 (.slice ua x.un uc))
      clear ho4 hb3 hk3 hAp z7 zf HAB3 HAB0 HAB HLX HE HL hk0 hbel
      generalize w5.setCell ⟨ab, 7, none⟩ (.slice ua x.un uc) = W12 at *
      have HAB := HAB2
      have HLX := HLX2
      clear HAB2 HLX2
      have hbel := HLX.out.below
      obtain ⟨oa, oc, ba, bc, ia, ic, F, h0, h1, h2, h3, hM, h5, h6, h7⟩ := HLX.out
      have HMB := Lib.hid h0
      have HWA := Lib.hid h1
      have HRI := Lib.hid h2
      have HNF := Lib.hid h5
      have HLE := Lib.hid h6
      have HXF := Lib.hid h7
      clear HLX h0 h1 h2 h3 h5 h6 h7
      have HX2G := Lib.hid (show ActW.good W12 { x with wa := wa, wc := wc, ua := ua, uc := uc } from ⟨HGX.out.1, row_of_ownS HO1.out, row_of_ownS HO2.out⟩)
      have CD := Lib.hid (show Calls Try.prog 19 #[.pointer (some ⟨M, 0, none⟩), .agg #[.int .i64 m.retries, .slice oa m.outs.length oc, .slice ba m.boxes.length bc, .slice ia m.images.length ic], .agg #[.int .i64 x.op, .slice wa x.wn wc, .string x.id, .int .i64 x.what, .string x.name, .int .i64 x.size, .int .i64 x.round, .slice ua x.un uc]] W12 fun e w' => ∃ v', e = .returned (.tuple #[v', .bool true]) ∧ JX w W12 w' M (ab :: (obs (.slice wa x.wn wc) ++ obs (.slice ua x.un uc))) F N v' from HSN.out ▸ law16_doesX w M k m _ { x with wa := wa, wc := wc, ua := ua, uc := uc } W12 (ab :: (obs (.slice wa x.wn wc) ++ obs (.slice ua x.un uc))) F (fun b hb => (HXF.out b hb).2.2.2) HWA.out HRI.out hbel hM HGM.out (by omega) HX2G.out (fun _ y ey hy => (HXF.out y.block (List.mem_cons_of_mem _ (List.mem_append_right _ (obs_mem.2 (own_blk HO2.out ey))))).1 hy) hwn)
      have m0 := HMB.out.cell (j := 0) rfl
      have m1 := HMB.out.cell (j := 1) rfl
      have m2 := HMB.out.cell (j := 2) rfl
      have m3 := HMB.out.cell (j := 3) rfl
      have a0 := HAB.out.cell (j := 0) rfl
      have a1 := HAB.out.cell (j := 1) rfl
      have a2 := HAB.out.cell (j := 2) rfl
      have a3 := HAB.out.cell (j := 3) rfl
      have a4 := HAB.out.cell (j := 4) rfl
      have a5 := HAB.out.cell (j := 5) rfl
      have a6 := HAB.out.cell (j := 6) rfl
      have a7 := HAB.out.cell (j := 7) rfl
      go_upto_region 14 with (go_at_call 19; (with_reducible refine (CD.out).mono ?_); rintro e wq ⟨v9, rfl, hj⟩; obtain ⟨G, g1, g2, g3, _, g5, g6⟩ := hj; have HG1 := Lib.hid g1; have HG2 := Lib.hid g2; have HG3 := Lib.hid g3; have HG5 := Lib.hid g5; have HG6 := Lib.hid g6; obtain ⟨oa1, oc1, ba1, bc1, ia1, ic1, rfl, hO1, hL1, hI1, hN1⟩ := g2; have hbo1 := hO1.2; have hbb1 := hL1.2; have hbi1 := hI1.2; have HRI1 := Lib.hid hI1; clear hO1 hL1 hI1 hN1; clear g1 g3 g5 g6)
      clear m0 m1 m2 m3 a0 a1 a2 a3 a4 a5 a6 a7 CD hbel HX2G
      have hmb12 := HMB.out.lt
      replace HMB := Lib.hid (HMB.out.apart HG5.out HNF.out)
      replace HAB := Lib.hid (HAB.out.apart HG5.out (HXF.out ab List.mem_cons_self).1)
      replace HO1 := Lib.hid (own_apart HO1.out HG5.out (fun g e => (HXF.out g (List.mem_cons_of_mem _ (List.mem_append_left _ (obs_mem.2 e)))).1))
      replace HO2 := Lib.hid (own_apart HO2.out HG5.out (fun g e => (HXF.out g (List.mem_cons_of_mem _ (List.mem_append_right _ (obs_mem.2 e)))).1))
      have hsz := HG5.out.size
      have hmlt := HWA.out.foot_lt
      have HNQ := Lib.hid (show mb ∉ G from fun q => (HG6.out _ q).elim HNF.out (fun r_ => absurd hmb12 (Nat.not_lt.2 r_)))
      have HXG := Lib.hid (show ∀ y ∈ (ab :: (obs (.slice wa x.wn wc) ++ obs (.slice ua x.un uc))), y ∉ G ∧ y ≠ mb ∧ w.heap.size ≤ y ∧ y < wq.heap.size from fun y hy => ⟨fun q => (HG6.out _ q).elim (HXF.out y hy).1 (fun r_ => absurd (HXF.out y hy).2.2.2 (Nat.not_lt.2 r_)), (HXF.out y hy).2.1, (HXF.out y hy).2.2.1, Nat.lt_of_lt_of_le (HXF.out y hy).2.2.2 hsz⟩)
      have k9 := belAlloc (Below.refl wq.heap.size wq) (.cells #[.int .i64 N.retries, .slice oa1 N.outs.length oc1, .slice ba1 N.boxes.length bc1, .slice ia1 N.images.length ic1] 31)
      have HX9 := Lib.hid (Blk.new wq [.int .i64 N.retries, .slice oa1 N.outs.length oc1, .slice ba1 N.boxes.length bc1, .slice ia1 N.images.length ic1] 31)
      replace HG1 := Lib.hid (HG1.out.later k9)
      replace HG2 := Lib.hid (HG2.out.later k9)
      replace HMB := Lib.hid (HMB.out.later k9)
      replace HAB := Lib.hid (HAB.out.later k9)
      replace HO1 := Lib.hid (OwnR.later HO1.out k9)
      replace HO2 := Lib.hid (OwnR.later HO2.out k9)
      replace HG3 := Lib.hid (belStep HG3.out k9)
      replace HXG := Lib.hid (show ∀ y ∈ (ab :: (obs (.slice wa x.wn wc) ++ obs (.slice ua x.un uc))), y ∉ G ∧ y ≠ mb ∧ w.heap.size ≤ y ∧ y < (wq.alloc (.cells #[.int .i64 N.retries, .slice oa1 N.outs.length oc1, .slice ba1 N.boxes.length bc1, .slice ia1 N.images.length ic1] 31)).heap.size from fun y hy => ⟨(HXG.out y hy).1, (HXG.out y hy).2.1, (HXG.out y hy).2.2.1, Nat.lt_of_lt_of_le (HXG.out y hy).2.2.2 k9.size⟩)
      clear k9 HG5 HG6 hmlt hsz HWA HRI HXF
      generalize wq.alloc (.cells #[.int .i64 N.retries, .slice oa1 N.outs.length oc1, .slice ba1 N.boxes.length bc1, .slice ia1 N.images.length ic1] 31) = W13 at *
      generalize wq.heap.size = xb at *
      have x0 := HX9.out.cell (j := 0) rfl
      have x1 := HX9.out.cell (j := 1) rfl
      have x2 := HX9.out.cell (j := 2) rfl
      have x3 := HX9.out.cell (j := 3) rfl
      have z0 := HMB.out.cell (j := 0) rfl
      have z1 := HMB.out.cell (j := 1) rfl
      have z2 := HMB.out.cell (j := 2) rfl
      have z3 := HMB.out.cell (j := 3) rfl
      have zf := HMB.out.frozen
      go_upto_region 15 with fail
      have HLX := Lib.hid (loopX_put HG1.out HG2.out HG3.out hM HNQ.out HLE.out _ _ _ _ HMB.out (kindW _ _ _ _ _ _ _ _ _ _) HXG.out)
      have hAp : Apart [mb] W13 ((((W13.setCell ⟨mb, 0, none⟩ (.int .i64 N.retries)).setCell ⟨mb, 1, none⟩ (.slice oa1 N.outs.length oc1)).setCell ⟨mb, 2, none⟩ (.slice ba1 N.boxes.length bc1)).setCell ⟨mb, 3, none⟩ (.slice ia1 N.images.length ic1)) := ((((Apart.refl [mb] W13).set _ _ (by simp)).set _ _ (by simp)).set _ _ (by simp)).set _ _ (by simp)
      replace HAB := Lib.hid (HAB.out.apart hAp (fun q => (HXG.out ab List.mem_cons_self).2.1 (by simpa using q)))
      replace HO1 := Lib.hid (own_apart HO1.out hAp (fun g e q => (HXG.out g (List.mem_cons_of_mem _ (List.mem_append_left _ (obs_mem.2 e)))).2.1 (by simpa using q)))
      replace HO2 := Lib.hid (own_apart HO2.out hAp (fun g e q => (HXG.out g (List.mem_cons_of_mem _ (List.mem_append_right _ (obs_mem.2 e)))).2.1 (by simpa using q)))
      clear x0 x1 x2 x3 z0 z1 z2 z3 zf HX9 HMB HG1 HG2 HG3 HNQ HXG hAp
      generalize ((((W13.setCell ⟨mb, 0, none⟩ (.int .i64 N.retries)).setCell ⟨mb, 1, none⟩ (.slice oa1 N.outs.length oc1)).setCell ⟨mb, 2, none⟩ (.slice ba1 N.boxes.length bc1)).setCell ⟨mb, 3, none⟩ (.slice ia1 N.images.length ic1)) = W14 at *
      have hbel0 := HLX.out.below
      replace c1 := keepOnP c1 hbel0
      replace c7 := keepOnP c7 hbel0
      clear c0 c2 c3 c4 c5 c6
      have a1 := keep (HAB.out.cell (j := 1) rfl)
      have hbel : Below W14.heap.size W14 W14 := Below.refl _ _
      have CSO := Lib.hid (fun u (hu : Below W14.heap.size W14 u) => (sameV_refl x.V) ▸ outs_any wa x.wa x.wn x.wn wc x.wc x.V x.V u HVL.out HVL.out ((row_of_ownS HO1.out).later hu) (HRV.out.later (belStep hbel0 hu)))
      go_upto_region 15 with fail
      refine wp_region_held_drew (S := fun u => Below W14.heap.size W14 u) (by kernel_rfl) (by exact (show Below W14.heap.size W14 _ by repeat (first | assumption | exact Below.refl _ _ | refine belDrew ?_ | refine belAlloc ?_ _ | refine belStep ?_ (by assumption)))) (fun hHeld => ?_)
      refine wpAnyH_take (i := 0) (oi := ?oi_k1) (v := ?v_k1) ?hi_k1 (by kernel_rfl) ?hf_k1 ?hr_k1 ?hQ_k1 (Or.inl ⟨?hw_k1, ?hy_k1⟩) (by assumption) ?rest_k1
      case hi_k1 => ((simp only [List.getElem?_toArray, List.getElem?_cons_succ, List.getElem?_cons_zero]); rfl)
      case hf_k1 => kernel_rfl
      case hr_k1 => kernel_rfl
      case hQ_k1 => exact fun _ _ _ h => h
      case hw_k1 => rfl
      case hy_k1 => ((intro w hSw; (try dsimp only at hSw); go_simp); all_goals (with_reducible rfl))
      try simp only [Act.put, List.setIfInBounds_toArray, List.set_cons_zero, List.set_cons_succ]
      refine wpAnyH_take (i := 1) (oi := ?oi_k2) (v := ?v_k2) ?hi_k2 (by kernel_rfl) ?hf_k2 ?hr_k2 ?hQ_k2 (Or.inl ⟨?hw_k2, ?hy_k2⟩) (by assumption) ?rest_k2
      case hi_k2 => ((simp only [List.getElem?_toArray, List.getElem?_cons_succ, List.getElem?_cons_zero]); rfl)
      case hf_k2 => kernel_rfl
      case hr_k2 => kernel_rfl
      case hQ_k2 => exact fun _ _ _ h => h
      case hw_k2 => rfl
      case hy_k2 => ((intro w hSw; (try dsimp only at hSw); go_simp); all_goals (with_reducible rfl))
      try simp only [Act.put, List.setIfInBounds_toArray, List.set_cons_zero, List.set_cons_succ]
      refine wpAnyH_take (i := 2) (oi := ?oi_k3) (v := ?v_k3) ?hi_k3 (by kernel_rfl) ?hf_k3 ?hr_k3 ?hQ_k3 (Or.inl ⟨?hw_k3, ?hy_k3⟩) (by assumption) ?rest_k3
      case hi_k3 => ((simp only [List.getElem?_toArray, List.getElem?_cons_succ, List.getElem?_cons_zero]); rfl)
      case hf_k3 => kernel_rfl
      case hr_k3 => kernel_rfl
      case hQ_k3 => exact fun _ _ _ h => h
      case hw_k3 => rfl
      case hy_k3 => ((intro w hSw; (try dsimp only at hSw); go_simp); all_goals (with_reducible rfl))
      try simp only [Act.put, List.setIfInBounds_toArray, List.set_cons_zero, List.set_cons_succ]
      refine wpAnyH_take (i := 3) (oi := ?oi_k4) (v := ?v_k4) ?hi_k4 (by kernel_rfl) ?hf_k4 ?hr_k4 ?hQ_k4 (Or.inl ⟨?hw_k4, ?hy_k4⟩) (by assumption) ?rest_k4
      case hi_k4 => ((simp only [List.getElem?_toArray, List.getElem?_cons_succ, List.getElem?_cons_zero]); rfl)
      case hf_k4 => kernel_rfl
      case hr_k4 => kernel_rfl
      case hQ_k4 => exact fun _ _ _ h => h
      case hw_k4 => rfl
      case hy_k4 => ((intro w hSw; (try dsimp only at hSw); go_simp); all_goals (with_reducible rfl))
      try simp only [Act.put, List.setIfInBounds_toArray, List.set_cons_zero, List.set_cons_succ]
      refine wpAnyH_take (i := 4) (oi := ?oi_k5) (v := ?v_k5) ?hi_k5 (by kernel_rfl) ?hf_k5 ?hr_k5 ?hQ_k5 (Or.inl ⟨?hw_k5, ?hy_k5⟩) (by assumption) ?rest_k5
      case hi_k5 => ((simp only [List.getElem?_toArray, List.getElem?_cons_succ, List.getElem?_cons_zero]); rfl)
      case hf_k5 => kernel_rfl
      case hr_k5 => kernel_rfl
      case hQ_k5 => exact fun _ _ _ h => h
      case hw_k5 => rfl
      case hy_k5 => ((intro w hSw; (try dsimp only at hSw); go_simp); all_goals (with_reducible rfl))
      try simp only [Act.put, List.setIfInBounds_toArray, List.set_cons_zero, List.set_cons_succ]
      refine wpAnyH_take (i := 5) (oi := ?oi_k6) (v := ?v_k6) ?hi_k6 (by kernel_rfl) ?hf_k6 ?hr_k6 ?hQ_k6 (Or.inl ⟨?hw_k6, ?hy_k6⟩) (by assumption) ?rest_k6
      case hi_k6 => ((simp only [List.getElem?_toArray, List.getElem?_cons_succ, List.getElem?_cons_zero]); rfl)
      case hf_k6 => kernel_rfl
      case hr_k6 => kernel_rfl
      case hQ_k6 => exact fun _ _ _ h => h
      case hw_k6 => rfl
      case hy_k6 => ((intro w hSw; (try dsimp only at hSw); go_simp); all_goals (with_reducible rfl))
      try simp only [Act.put, List.setIfInBounds_toArray, List.set_cons_zero, List.set_cons_succ]
      refine wpAnyH_take (i := 6) (oi := ?oi_k7) (v := ?v_k7) ?hi_k7 (by kernel_rfl) ?hf_k7 ?hr_k7 ?hQ_k7 (Or.inl ⟨?hw_k7, ?hy_k7⟩) (by assumption) ?rest_k7
      case hi_k7 => ((simp only [List.getElem?_toArray, List.getElem?_cons_succ, List.getElem?_cons_zero]); rfl)
      case hf_k7 => kernel_rfl
      case hr_k7 => kernel_rfl
      case hQ_k7 => exact fun _ _ _ h => h
      case hw_k7 => rfl
      case hy_k7 => ((intro w hSw; (try dsimp only at hSw); go_simp); all_goals (with_reducible rfl))
      try simp only [Act.put, List.setIfInBounds_toArray, List.set_cons_zero, List.set_cons_succ]
      refine wpAnyH_take (i := 7) (oi := ?oi_k8) (v := ?v_k8) ?hi_k8 (by kernel_rfl) ?hf_k8 ?hr_k8 ?hQ_k8 (Or.inl ⟨?hw_k8, ?hy_k8⟩) (by assumption) ?rest_k8
      case hi_k8 => ((simp only [List.getElem?_toArray, List.getElem?_cons_succ, List.getElem?_cons_zero]); rfl)
      case hf_k8 => kernel_rfl
      case hr_k8 => kernel_rfl
      case hQ_k8 => exact fun _ _ _ h => h
      case hw_k8 => rfl
      case hy_k8 => ((intro w hSw; (try dsimp only at hSw); go_simp); all_goals (with_reducible rfl))
      try simp only [Act.put, List.setIfInBounds_toArray, List.set_cons_zero, List.set_cons_succ]
      refine wpAnyH_take (i := 8) (oi := ?oi_k9) (v := ?v_k9) ?hi_k9 (by kernel_rfl) ?hf_k9 ?hr_k9 ?hQ_k9 (Or.inl ⟨?hw_k9, ?hy_k9⟩) (by assumption) ?rest_k9
      case hi_k9 => ((simp only [List.getElem?_toArray, List.getElem?_cons_succ, List.getElem?_cons_zero]); rfl)
      case hf_k9 => kernel_rfl
      case hr_k9 => kernel_rfl
      case hQ_k9 => exact fun _ _ _ h => h
      case hw_k9 => rfl
      case hy_k9 => ((intro w hSw; (try dsimp only at hSw); go_simp); all_goals (with_reducible rfl))
      try simp only [Act.put, List.setIfInBounds_toArray, List.set_cons_zero, List.set_cons_succ]
      refine wpAnyH_take (i := 9) (oi := ?oi_k10) (v := ?v_k10) ?hi_k10 (by kernel_rfl) ?hf_k10 ?hr_k10 ?hQ_k10 (Or.inl ⟨?hw_k10, ?hy_k10⟩) (by assumption) ?rest_k10
      case hi_k10 => ((simp only [List.getElem?_toArray, List.getElem?_cons_succ, List.getElem?_cons_zero]); rfl)
      case hf_k10 => kernel_rfl
      case hr_k10 => kernel_rfl
      case hQ_k10 => exact fun _ _ _ h => h
      case hw_k10 => rfl
      case hy_k10 => ((intro w hSw; (try dsimp only at hSw); go_simp); all_goals (with_reducible rfl))
      try simp only [Act.put, List.setIfInBounds_toArray, List.set_cons_zero, List.set_cons_succ]
      refine wpAnyH_ready (rs := [10]) (by kernel_rfl) (by simp) ?_
      refine AllReadyH.cons (o := ?o1_k11) ?hi_k11 (fun K hK => ?rest_k11) AllReadyH.nil
      case hi_k11 => ((simp only [List.getElem?_toArray, List.getElem?_cons_succ, List.getElem?_cons_zero]); rfl)
      go_simp
      (go_at_call 28; (with_reducible refine (CSO.out _ hHeld).mono ?_); rintro e wq10 ⟨rfl, hbq⟩)
      have hu10 : Below W14.heap.size W14 wq10 := belStep hHeld hbq
      clear hbq
      try go_simp
      refine hK.out _ _ (by exact hu10) (fun hHeld => ?_)
      clear hK K
      try simp only [Act.put, List.setIfInBounds_toArray, List.set_cons_zero, List.set_cons_succ]
      refine wpAnyH_take (i := 11) (oi := ?oi_k12) (v := ?v_k12) ?hi_k12 (by kernel_rfl) ?hf_k12 ?hr_k12 ?hQ_k12 (Or.inl ⟨?hw_k12, ?hy_k12⟩) (by assumption) ?rest_k12
      case hi_k12 => ((simp only [List.getElem?_toArray, List.getElem?_cons_succ, List.getElem?_cons_zero]); rfl)
      case hf_k12 => kernel_rfl
      case hr_k12 => kernel_rfl
      case hQ_k12 => exact fun _ _ _ h => h
      case hw_k12 => rfl
      case hy_k12 => ((intro w hSw; (try dsimp only at hSw); go_simp); all_goals (with_reducible rfl))
      try simp only [Act.put, List.setIfInBounds_toArray, List.set_cons_zero, List.set_cons_succ]
      refine wpAnyH_take (i := 12) (oi := ?oi_k13) (v := ?v_k13) ?hi_k13 (by kernel_rfl) ?hf_k13 ?hr_k13 ?hQ_k13 (Or.inl ⟨?hw_k13, ?hy_k13⟩) (by assumption) ?rest_k13
      case hi_k13 => ((simp only [List.getElem?_toArray, List.getElem?_cons_succ, List.getElem?_cons_zero]); rfl)
      case hf_k13 => kernel_rfl
      case hr_k13 => kernel_rfl
      case hQ_k13 => exact fun _ _ _ h => h
      case hw_k13 => rfl
      case hy_k13 => ((intro w hSw; (try dsimp only at hSw); go_simp); all_goals (with_reducible rfl))
      try simp only [Act.put, List.setIfInBounds_toArray, List.set_cons_zero, List.set_cons_succ]
      refine wpAnyH_done (by kernel_rfl) ?_ _
      have hB15 := Lib.hid hu10
      clear hHeld hu10 hbel a1 c1 CSO
      generalize wq10 = W15 at *
      replace HAB := Lib.hid (HAB.out.later hB15.out)
      replace HO1 := Lib.hid (OwnR.later HO1.out hB15.out)
      replace HO2 := Lib.hid (OwnR.later HO2.out hB15.out)
      replace HLX := Lib.hid (HLX.out.later hB15.out)
      clear hbel0 hB15 c7
      have hun3 : x.un ≤ uc ∧ x.wn ≤ wc := ⟨(row_of_ownS HO2.out).2.1, (row_of_ownS HO1.out).2.1⟩
      obtain ⟨hun4, hwn4⟩ := hun3
      have hun5 : uc ≤ 9223372036854775807 := by have h_ := (row_of_ownS HO2.out).2.2.1; unfold maxLen at h_; exact h_
      have hwn5 : wc ≤ 9223372036854775807 := by have h_ := (row_of_ownS HO1.out).2.2.1; unfold maxLen at h_; exact h_
      go_wp2
      go_loopw [9] (fun iv wr => ∃ (q : Nat) (cs : List Value), q ≤ x.wn ∧ iv = .int .i64 q ∧ Hid (AllB cs) ∧ Hid (OwnR wr W10.heap.size 4 1 (.slice wa x.wn wc) x.wn cs) ∧ Hid (OwnR wr W11.heap.size 9 1 (.slice ua x.un uc) x.un (x.U.map Value.string)) ∧ Hid (Blk wr ab [.int .i64 x.op, .slice wa x.wn wc, .string x.id, .int .i64 x.what, .string x.name, .int .i64 x.size, .int .i64 x.round, .slice ua x.un uc] 36) ∧ Hid (LoopX w wr M mb (ab :: (obs (.slice wa x.wn wc) ++ obs (.slice ua x.un uc))) N)) (fun iv _ => x.wn - (intOf iv).toNat)
      case atStart => exact ⟨0, _, Nat.zero_le _, rfl, Lib.hid (allB_map _), HO1, HO2, HAB, HLX⟩
      case round =>
        clear HO1 HO2 HAB HLX
        obtain ⟨q, cs, hq, rfl, HALL, HO1, HO2, HAB, HLX⟩ := hrel
        have a1 := HAB.out.cell (j := 1) rfl
        by_cases hlt2 : q < x.wn
        · have hd2 : decide ((q : Int) < (x.wn : Int)) = true := decide_eq_true (by omega)
          have hqi : (q : Int) < (x.wn : Int) := by omega
          have hq0 : (0 : Int) ≤ (q : Int) := by omega
          go_upto_region 20 with fail
          clear a1
          rcases own_open HO1.out with ⟨_, hz0, _⟩ | ⟨g, gc, C, e9, hBg, hCb, hnc, hcm, hCl, hCt⟩
          · omega
          simp only [Value.slice.injEq, true_and] at e9
          obtain ⟨rfl, rfl⟩ := e9
          obtain ⟨cv, hcv⟩ : ∃ v, cs[q]? = some v := ⟨_, List.getElem?_eq_getElem (by rw [← hCt, List.length_take, hCl]; omega)⟩
          obtain ⟨bv, rfl⟩ := HALL.out q cv hcv
          have HQC := Lib.hid (hCb.cell (take_cell hCt hcv))
          have HBK := Lib.hid hCb
          have hgx : g ∈ (ab :: (obs (.slice (some ⟨g, 0, none⟩) x.wn wc) ++ obs (.slice ua x.un uc))) := List.mem_cons_of_mem _ (List.mem_append_left _ (obs_mem.2 rfl))
          have HGU := Lib.hid (HX1.out g rfl)
          clear hCb hCt hCl hcv hcm
          generalize wr = W20 at *
          refine wp_region_upc (S := fun u => Blk u ab [.int .i64 x.op, .slice (some ⟨g, 0, none⟩) x.wn wc, .string x.id, .int .i64 x.what, .string x.name, .int .i64 x.size, .int .i64 x.round, .slice ua x.un uc] 36 ∧ u.cell? ⟨g, q, none⟩ = some (.bool bv)) [10] (by kernel_rfl) (by exact ⟨HAB.out.later (belDrew (Below.refl _ _)), HQC.out⟩) (fun hHeld => ?_)
          refine UpC.take (i := 0) (oi := ?oi_uc14) (v := ?v_uc14) ?hi_uc14 (by kernel_rfl) ?hf_uc14 ?hr_uc14 (by kernel_rfl) ?hQ_uc14 (Or.inl ⟨?hw_uc14, ?hy_uc14⟩) (by assumption) ?rest_uc14
          case hi_uc14 => ((simp only [List.getElem?_toArray, List.getElem?_cons_succ, List.getElem?_cons_zero]); rfl)
          case hf_uc14 => kernel_rfl
          case hr_uc14 => kernel_rfl
          case hQ_uc14 => exact fun _ _ _ h => h
          case hw_uc14 => rfl
          case hy_uc14 => ((intro w hSw; (try dsimp only at hSw); go_simp); all_goals (with_reducible rfl))
          try simp only [Act.put, List.setIfInBounds_toArray, List.set_cons_zero, List.set_cons_succ]
          refine UpC.take (i := 1) (oi := ?oi_uc15) (v := ?v_uc15) ?hi_uc15 (by kernel_rfl) ?hf_uc15 ?hr_uc15 (by kernel_rfl) ?hQ_uc15 (Or.inl ⟨?hw_uc15, ?hy_uc15⟩) (by assumption) ?rest_uc15
          case hi_uc15 => ((simp only [List.getElem?_toArray, List.getElem?_cons_succ, List.getElem?_cons_zero]); rfl)
          case hf_uc15 => kernel_rfl
          case hr_uc15 => kernel_rfl
          case hQ_uc15 => exact fun _ _ _ h => h
          case hw_uc15 => rfl
          case hy_uc15 => ((intro w hSw; (try dsimp only at hSw); (have s1 := hSw.1.cell (j := 1) rfl; have s2 := hSw.2); go_simp); all_goals (with_reducible rfl))
          try simp only [Act.put, List.setIfInBounds_toArray, List.set_cons_zero, List.set_cons_succ]
          refine UpC.take (i := 2) (oi := ?oi_uc16) (v := ?v_uc16) ?hi_uc16 (by kernel_rfl) ?hf_uc16 ?hr_uc16 (by kernel_rfl) ?hQ_uc16 (Or.inl ⟨?hw_uc16, ?hy_uc16⟩) (by assumption) ?rest_uc16
          case hi_uc16 => ((simp only [List.getElem?_toArray, List.getElem?_cons_succ, List.getElem?_cons_zero]); rfl)
          case hf_uc16 => kernel_rfl
          case hr_uc16 => kernel_rfl
          case hQ_uc16 => exact fun _ _ _ h => h
          case hw_uc16 => rfl
          case hy_uc16 => ((intro w hSw; (try dsimp only at hSw); go_simp); all_goals (with_reducible rfl))
          try simp only [Act.put, List.setIfInBounds_toArray, List.set_cons_zero, List.set_cons_succ]
          refine UpC.take (i := 3) (oi := ?oi_uc17) (v := ?v_uc17) ?hi_uc17 (by kernel_rfl) ?hf_uc17 ?hr_uc17 (by kernel_rfl) ?hQ_uc17 (Or.inl ⟨?hw_uc17, ?hy_uc17⟩) (by assumption) ?rest_uc17
          case hi_uc17 => ((simp only [List.getElem?_toArray, List.getElem?_cons_succ, List.getElem?_cons_zero]); rfl)
          case hf_uc17 => kernel_rfl
          case hr_uc17 => kernel_rfl
          case hQ_uc17 => exact fun _ _ _ h => h
          case hw_uc17 => rfl
          case hy_uc17 => ((intro w hSw; (try dsimp only at hSw); go_simp); all_goals (with_reducible rfl))
          try simp only [Act.put, List.setIfInBounds_toArray, List.set_cons_zero, List.set_cons_succ]
          refine UpC.take (i := 4) (oi := ?oi_uc18) (v := ?v_uc18) ?hi_uc18 (by kernel_rfl) ?hf_uc18 ?hr_uc18 (by kernel_rfl) ?hQ_uc18 (Or.inl ⟨?hw_uc18, ?hy_uc18⟩) (by assumption) ?rest_uc18
          case hi_uc18 => ((simp only [List.getElem?_toArray, List.getElem?_cons_succ, List.getElem?_cons_zero]); rfl)
          case hf_uc18 => kernel_rfl
          case hr_uc18 => kernel_rfl
          case hQ_uc18 => exact fun _ _ _ h => h
          case hw_uc18 => rfl
          case hy_uc18 => ((intro w hSw; (try dsimp only at hSw); (have s1 := hSw.1.cell (j := 1) rfl; have s2 := hSw.2); go_simp); all_goals (with_reducible rfl))
          try simp only [Act.put, List.setIfInBounds_toArray, List.set_cons_zero, List.set_cons_succ]
          refine UpC.take (i := 5) (oi := ?oi_uc19) (v := ?v_uc19) ?hi_uc19 (by kernel_rfl) ?hf_uc19 ?hr_uc19 (by kernel_rfl) ?hQ_uc19 (Or.inl ⟨?hw_uc19, ?hy_uc19⟩) (by assumption) ?rest_uc19
          case hi_uc19 => ((simp only [List.getElem?_toArray, List.getElem?_cons_succ, List.getElem?_cons_zero]); rfl)
          case hf_uc19 => kernel_rfl
          case hr_uc19 => kernel_rfl
          case hQ_uc19 => exact fun _ _ _ h => h
          case hw_uc19 => rfl
          case hy_uc19 => ((intro w hSw; (try dsimp only at hSw); go_simp); all_goals (with_reducible rfl))
          try simp only [Act.put, List.setIfInBounds_toArray, List.set_cons_zero, List.set_cons_succ]
          refine UpC.take (i := 6) (oi := ?oi_uc20) (v := ?v_uc20) ?hi_uc20 (by kernel_rfl) ?hf_uc20 ?hr_uc20 (by kernel_rfl) ?hQ_uc20 (Or.inl ⟨?hw_uc20, ?hy_uc20⟩) (by assumption) ?rest_uc20
          case hi_uc20 => ((simp only [List.getElem?_toArray, List.getElem?_cons_succ, List.getElem?_cons_zero]); rfl)
          case hf_uc20 => kernel_rfl
          case hr_uc20 => kernel_rfl
          case hQ_uc20 => exact fun _ _ _ h => h
          case hw_uc20 => rfl
          case hy_uc20 => ((intro w hSw; (try dsimp only at hSw); go_simp); all_goals (with_reducible rfl))
          try simp only [Act.put, List.setIfInBounds_toArray, List.set_cons_zero, List.set_cons_succ]
          refine UpC.take (i := 7) (oi := ?oi_uc21) (v := ?v_uc21) ?hi_uc21 (by kernel_rfl) ?hf_uc21 ?hr_uc21 (by kernel_rfl) ?hQ_uc21 (Or.inl ⟨?hw_uc21, ?hy_uc21⟩) (by assumption) ?rest_uc21
          case hi_uc21 => ((simp only [List.getElem?_toArray, List.getElem?_cons_succ, List.getElem?_cons_zero]); rfl)
          case hf_uc21 => kernel_rfl
          case hr_uc21 => kernel_rfl
          case hQ_uc21 => exact fun _ _ _ h => h
          case hw_uc21 => rfl
          case hy_uc21 => ((intro w hSw; (try dsimp only at hSw); (have s1 := hSw.1.cell (j := 1) rfl; have s2 := hSw.2); go_simp); all_goals (with_reducible rfl))
          try simp only [Act.put, List.setIfInBounds_toArray, List.set_cons_zero, List.set_cons_succ]
          refine UpC.take (i := 8) (oi := ?oi_uc22) (v := ?v_uc22) ?hi_uc22 (by kernel_rfl) ?hf_uc22 ?hr_uc22 (by kernel_rfl) ?hQ_uc22 (Or.inl ⟨?hw_uc22, ?hy_uc22⟩) (by assumption) ?rest_uc22
          case hi_uc22 => ((simp only [List.getElem?_toArray, List.getElem?_cons_succ, List.getElem?_cons_zero]); rfl)
          case hf_uc22 => kernel_rfl
          case hr_uc22 => kernel_rfl
          case hQ_uc22 => exact fun _ _ _ h => h
          case hw_uc22 => rfl
          case hy_uc22 => ((intro w hSw; (try dsimp only at hSw); go_simp); all_goals (with_reducible rfl))
          try simp only [Act.put, List.setIfInBounds_toArray, List.set_cons_zero, List.set_cons_succ]
          refine UpC.take (i := 9) (oi := ?oi_uc23) (v := ?v_uc23) ?hi_uc23 (by kernel_rfl) ?hf_uc23 ?hr_uc23 (by kernel_rfl) ?hQ_uc23 (Or.inl ⟨?hw_uc23, ?hy_uc23⟩) (by assumption) ?rest_uc23
          case hi_uc23 => ((simp only [List.getElem?_toArray, List.getElem?_cons_succ, List.getElem?_cons_zero]); rfl)
          case hf_uc23 => kernel_rfl
          case hr_uc23 => kernel_rfl
          case hQ_uc23 => exact fun _ _ _ h => h
          case hw_uc23 => rfl
          case hy_uc23 => ((intro w hSw; (try dsimp only at hSw); go_simp); all_goals (with_reducible rfl))
          try simp only [Act.put, List.setIfInBounds_toArray, List.set_cons_zero, List.set_cons_succ]
          have z0 := HQC.out
          have zf := HBK.out.frozen
          refine UpC.one (i := 10) (o := ?o_uc24) (by kernel_rfl) ?hi_uc24 (fun K hK => ?rest_uc24)
          case hi_uc24 => ((simp only [List.getElem?_toArray, List.getElem?_cons_succ, List.getElem?_cons_zero]); rfl)
          go_simp
          refine hK.out _ _ (fun q => absurd q (by decide)) (fun _ => ?_)
          clear hK K
          try simp only [Act.put, List.setIfInBounds_toArray, List.set_cons_zero, List.set_cons_succ]
          refine UpC.done (by kernel_rfl) ?_ _
          have hne : ab ≠ g := by have := HGU.out.1; omega
          have HAB2 := Lib.hid (HAB.out.far (a := ⟨g, q, none⟩) (Ne.symm hne) (.bool !bv))
          have HO3 := Lib.hid ((World.ownsRow.stored HO1.out q (.bool !bv)).1)
          have HO4 := Lib.hid (OwnR.setCell HO2.out (a := ⟨g, q, none⟩) (show g < W11.heap.size from HGU.out.2) (.bool !bv))
          have HLX2 := Lib.hid (HLX.out.mine ((Apart.refl _ _).set ⟨g, q, none⟩ (.bool !bv) hgx))
          go_wp2
          go_roundw
          case rel => exact ⟨q + 1, _, by omega, by push_cast; rfl, Lib.hid (HALL.out.set q (!bv)), HO3, HO4, HAB2, Lib.hid (HLX2.out.later (belDrew (Below.refl _ _)))⟩
          case measure => simp [intOf] <;> omega
        · obtain rfl : q = x.wn := by omega
          have hd2 : decide ((x.wn : Int) < (x.wn : Int)) = false := decide_eq_false (by omega)
          clear HO1 HALL HX1
          generalize wr = W20 at *
          go_wp2
          clear a1
          go_loopw [10] (fun iv wr => ∃ (q : Nat) (cs : List Value), q ≤ x.un ∧ iv = .int .i64 q ∧ Hid (TailE cs (x.U.map Value.string) q) ∧ Hid (OwnR wr W11.heap.size 9 1 (.slice ua x.un uc) x.un cs) ∧ Hid (Blk wr ab [.int .i64 x.op, .slice wa x.wn wc, .string x.id, .int .i64 x.what, .string x.name, .int .i64 x.size, .int .i64 x.round, .slice ua x.un uc] 36) ∧ Hid (LoopX w wr M mb (ab :: (obs (.slice wa x.wn wc) ++ obs (.slice ua x.un uc))) N)) (fun iv _ => x.un - (intOf iv).toNat)
          case atStart => exact ⟨0, _, Nat.zero_le _, rfl, Lib.hid (TailE.refl _ _), HO2, HAB, HLX⟩
          case round =>
            clear HO2 HAB HLX
            obtain ⟨p, cs, hp, rfl, HT, HO2, HAB, HLX⟩ := hrel
            have hbel0 := HLX.out.below
            have a7 := HAB.out.cell (j := 7) rfl
            by_cases hlt3 : p < x.un
            · have hd3 : decide ((p : Int) < (x.un : Int)) = true := decide_eq_true (by omega)
              have hpi : (p : Int) < (x.un : Int) := by omega
              have hp0 : (0 : Int) ≤ (p : Int) := by omega
              go_upto_region 24 with fail
              clear a7
              rcases own_open HO2.out with ⟨_, hz0, _⟩ | ⟨g, gc, C, e9, hBg, hCb, hnc, hcm, hCl, hCt⟩
              · omega
              simp only [Value.slice.injEq, true_and] at e9
              obtain ⟨rfl, rfl⟩ := e9
              obtain ⟨s, hs⟩ : ∃ s, x.U[p]? = some s := ⟨x.U[p]'(by rw [HUL.out]; exact hlt3), List.getElem?_eq_getElem _⟩
              have hqc := hCb.cell (take_cell hCt ((HT.out.2 p (Nat.le_refl _)).trans (show (x.U.map Value.string)[p]? = some (.string s) by rw [List.getElem?_map, hs]; rfl)))
              obtain ⟨bu, ou, eu, cu⟩ := text_cell (HRU.out.later hbel0) hs
              have HEU := Lib.hid eu
              have y0 := keep hqc
              have y1 := keep cu
              have y2 := keep (HC7.out _ hbel0)
              have y3 := keep (HAB.out.cell (j := 7) rfl)
              have HBK := Lib.hid hCb
              have hgx : g ∈ (ab :: (obs (.slice wa x.wn wc) ++ obs (.slice (some ⟨g, 0, none⟩) x.un uc))) := List.mem_cons_of_mem _ (List.mem_append_right _ (obs_mem.2 rfl))
              have HGU := Lib.hid (HX2.out g rfl)
              clear hCb hCt hcm cu hqc hs
              have hbel : Below wr.heap.size wr wr := Below.refl _ _
              rw [HEU.out] at y2
              generalize wr = W24 at *
              refine wp_region_held_drew (S := fun u => Below W24.heap.size W24 u) (by kernel_rfl) (by exact (show Below W24.heap.size W24 _ by repeat (first | assumption | exact Below.refl _ _ | refine belDrew ?_ | refine belAlloc ?_ _ | refine belStep ?_ (by assumption)))) (fun hHeld => ?_)
              refine wpAnyH_take (i := 0) (oi := ?oi_k25) (v := ?v_k25) ?hi_k25 (by kernel_rfl) ?hf_k25 ?hr_k25 ?hQ_k25 (Or.inl ⟨?hw_k25, ?hy_k25⟩) (by assumption) ?rest_k25
              case hi_k25 => ((simp only [List.getElem?_toArray, List.getElem?_cons_succ, List.getElem?_cons_zero]); rfl)
              case hf_k25 => kernel_rfl
              case hr_k25 => kernel_rfl
              case hQ_k25 => exact fun _ _ _ h => h
              case hw_k25 => rfl
              case hy_k25 => ((intro w hSw; (try dsimp only at hSw); go_simp); all_goals (with_reducible rfl))
              try simp only [Act.put, List.setIfInBounds_toArray, List.set_cons_zero, List.set_cons_succ]
              refine wpAnyH_take (i := 1) (oi := ?oi_k26) (v := ?v_k26) ?hi_k26 (by kernel_rfl) ?hf_k26 ?hr_k26 ?hQ_k26 (Or.inl ⟨?hw_k26, ?hy_k26⟩) (by assumption) ?rest_k26
              case hi_k26 => ((simp only [List.getElem?_toArray, List.getElem?_cons_succ, List.getElem?_cons_zero]); rfl)
              case hf_k26 => kernel_rfl
              case hr_k26 => kernel_rfl
              case hQ_k26 => exact fun _ _ _ h => h
              case hw_k26 => rfl
              case hy_k26 => ((intro w hSw; (try dsimp only at hSw); go_simp); all_goals (with_reducible rfl))
              try simp only [Act.put, List.setIfInBounds_toArray, List.set_cons_zero, List.set_cons_succ]
              refine wpAnyH_take (i := 2) (oi := ?oi_k27) (v := ?v_k27) ?hi_k27 (by kernel_rfl) ?hf_k27 ?hr_k27 ?hQ_k27 (Or.inl ⟨?hw_k27, ?hy_k27⟩) (by assumption) ?rest_k27
              case hi_k27 => ((simp only [List.getElem?_toArray, List.getElem?_cons_succ, List.getElem?_cons_zero]); rfl)
              case hf_k27 => kernel_rfl
              case hr_k27 => kernel_rfl
              case hQ_k27 => exact fun _ _ _ h => h
              case hw_k27 => rfl
              case hy_k27 => ((intro w hSw; (try dsimp only at hSw); go_simp); all_goals (with_reducible rfl))
              try simp only [Act.put, List.setIfInBounds_toArray, List.set_cons_zero, List.set_cons_succ]
              refine wpAnyH_take (i := 3) (oi := ?oi_k28) (v := ?v_k28) ?hi_k28 (by kernel_rfl) ?hf_k28 ?hr_k28 ?hQ_k28 (Or.inl ⟨?hw_k28, ?hy_k28⟩) (by assumption) ?rest_k28
              case hi_k28 => ((simp only [List.getElem?_toArray, List.getElem?_cons_succ, List.getElem?_cons_zero]); rfl)
              case hf_k28 => kernel_rfl
              case hr_k28 => kernel_rfl
              case hQ_k28 => exact fun _ _ _ h => h
              case hw_k28 => rfl
              case hy_k28 => ((intro w hSw; (try dsimp only at hSw); go_simp); all_goals (with_reducible rfl))
              try simp only [Act.put, List.setIfInBounds_toArray, List.set_cons_zero, List.set_cons_succ]
              refine wpAnyH_take (i := 4) (oi := ?oi_k29) (v := ?v_k29) ?hi_k29 (by kernel_rfl) ?hf_k29 ?hr_k29 ?hQ_k29 (Or.inl ⟨?hw_k29, ?hy_k29⟩) (by assumption) ?rest_k29
              case hi_k29 => ((simp only [List.getElem?_toArray, List.getElem?_cons_succ, List.getElem?_cons_zero]); rfl)
              case hf_k29 => kernel_rfl
              case hr_k29 => kernel_rfl
              case hQ_k29 => exact fun _ _ _ h => h
              case hw_k29 => rfl
              case hy_k29 => ((intro w hSw; (try dsimp only at hSw); go_simp); all_goals (with_reducible rfl))
              try simp only [Act.put, List.setIfInBounds_toArray, List.set_cons_zero, List.set_cons_succ]
              refine wpAnyH_take (i := 5) (oi := ?oi_k30) (v := ?v_k30) ?hi_k30 (by kernel_rfl) ?hf_k30 ?hr_k30 ?hQ_k30 (Or.inl ⟨?hw_k30, ?hy_k30⟩) (by assumption) ?rest_k30
              case hi_k30 => ((simp only [List.getElem?_toArray, List.getElem?_cons_succ, List.getElem?_cons_zero]); rfl)
              case hf_k30 => kernel_rfl
              case hr_k30 => kernel_rfl
              case hQ_k30 => exact fun _ _ _ h => h
              case hw_k30 => rfl
              case hy_k30 => ((intro w hSw; (try dsimp only at hSw); go_simp); all_goals (with_reducible rfl))
              try simp only [Act.put, List.setIfInBounds_toArray, List.set_cons_zero, List.set_cons_succ]
              refine wpAnyH_take (i := 6) (oi := ?oi_k31) (v := ?v_k31) ?hi_k31 (by kernel_rfl) ?hf_k31 ?hr_k31 ?hQ_k31 (Or.inl ⟨?hw_k31, ?hy_k31⟩) (by assumption) ?rest_k31
              case hi_k31 => ((simp only [List.getElem?_toArray, List.getElem?_cons_succ, List.getElem?_cons_zero]); rfl)
              case hf_k31 => kernel_rfl
              case hr_k31 => kernel_rfl
              case hQ_k31 => exact fun _ _ _ h => h
              case hw_k31 => rfl
              case hy_k31 => ((intro w hSw; (try dsimp only at hSw); go_simp); all_goals (with_reducible rfl))
              try simp only [Act.put, List.setIfInBounds_toArray, List.set_cons_zero, List.set_cons_succ]
              refine wpAnyH_take (i := 7) (oi := ?oi_k32) (v := ?v_k32) ?hi_k32 (by kernel_rfl) ?hf_k32 ?hr_k32 ?hQ_k32 (Or.inl ⟨?hw_k32, ?hy_k32⟩) (by assumption) ?rest_k32
              case hi_k32 => ((simp only [List.getElem?_toArray, List.getElem?_cons_succ, List.getElem?_cons_zero]); rfl)
              case hf_k32 => kernel_rfl
              case hr_k32 => kernel_rfl
              case hQ_k32 => exact fun _ _ _ h => h
              case hw_k32 => rfl
              case hy_k32 => ((intro w hSw; (try dsimp only at hSw); go_simp); all_goals (with_reducible rfl))
              try simp only [Act.put, List.setIfInBounds_toArray, List.set_cons_zero, List.set_cons_succ]
              refine wpAnyH_take (i := 8) (oi := ?oi_k33) (v := ?v_k33) ?hi_k33 (by kernel_rfl) ?hf_k33 ?hr_k33 ?hQ_k33 (Or.inl ⟨?hw_k33, ?hy_k33⟩) (by assumption) ?rest_k33
              case hi_k33 => ((simp only [List.getElem?_toArray, List.getElem?_cons_succ, List.getElem?_cons_zero]); rfl)
              case hf_k33 => kernel_rfl
              case hr_k33 => kernel_rfl
              case hQ_k33 => exact fun _ _ _ h => h
              case hw_k33 => rfl
              case hy_k33 => ((intro w hSw; (try dsimp only at hSw); go_simp); all_goals (with_reducible rfl))
              try simp only [Act.put, List.setIfInBounds_toArray, List.set_cons_zero, List.set_cons_succ]
              refine wpAnyH_take (i := 9) (oi := ?oi_k34) (v := ?v_k34) ?hi_k34 (by kernel_rfl) ?hf_k34 ?hr_k34 ?hQ_k34 (Or.inl ⟨?hw_k34, ?hy_k34⟩) (by assumption) ?rest_k34
              case hi_k34 => ((simp only [List.getElem?_toArray, List.getElem?_cons_succ, List.getElem?_cons_zero]); rfl)
              case hf_k34 => kernel_rfl
              case hr_k34 => kernel_rfl
              case hQ_k34 => exact fun _ _ _ h => h
              case hw_k34 => rfl
              case hy_k34 => ((intro w hSw; (try dsimp only at hSw); go_simp); all_goals (with_reducible rfl))
              try simp only [Act.put, List.setIfInBounds_toArray, List.set_cons_zero, List.set_cons_succ]
              refine wpAnyH_take (i := 10) (oi := ?oi_k35) (v := ?v_k35) ?hi_k35 (by kernel_rfl) ?hf_k35 ?hr_k35 ?hQ_k35 (Or.inl ⟨?hw_k35, ?hy_k35⟩) (by assumption) ?rest_k35
              case hi_k35 => ((simp only [List.getElem?_toArray, List.getElem?_cons_succ, List.getElem?_cons_zero]); rfl)
              case hf_k35 => kernel_rfl
              case hr_k35 => kernel_rfl
              case hQ_k35 => exact fun _ _ _ h => h
              case hw_k35 => rfl
              case hy_k35 => ((intro w hSw; (try dsimp only at hSw); go_simp); all_goals (with_reducible rfl))
              try simp only [Act.put, List.setIfInBounds_toArray, List.set_cons_zero, List.set_cons_succ]
              refine wpAnyH_take (i := 11) (oi := ?oi_k36) (v := ?v_k36) ?hi_k36 (by kernel_rfl) ?hf_k36 ?hr_k36 ?hQ_k36 (Or.inl ⟨?hw_k36, ?hy_k36⟩) (by assumption) ?rest_k36
              case hi_k36 => ((simp only [List.getElem?_toArray, List.getElem?_cons_succ, List.getElem?_cons_zero]); rfl)
              case hf_k36 => kernel_rfl
              case hr_k36 => kernel_rfl
              case hQ_k36 => exact fun _ _ _ h => h
              case hw_k36 => rfl
              case hy_k36 => ((intro w hSw; (try dsimp only at hSw); go_simp); all_goals (with_reducible rfl))
              try simp only [Act.put, List.setIfInBounds_toArray, List.set_cons_zero, List.set_cons_succ]
              refine wpAnyH_take (i := 12) (oi := ?oi_k37) (v := ?v_k37) ?hi_k37 (by kernel_rfl) ?hf_k37 ?hr_k37 ?hQ_k37 (Or.inl ⟨?hw_k37, ?hy_k37⟩) (by assumption) ?rest_k37
              case hi_k37 => ((simp only [List.getElem?_toArray, List.getElem?_cons_succ, List.getElem?_cons_zero]); rfl)
              case hf_k37 => kernel_rfl
              case hr_k37 => kernel_rfl
              case hQ_k37 => exact fun _ _ _ h => h
              case hw_k37 => rfl
              case hy_k37 => ((intro w hSw; (try dsimp only at hSw); go_simp); all_goals (with_reducible rfl))
              try simp only [Act.put, List.setIfInBounds_toArray, List.set_cons_zero, List.set_cons_succ]
              refine wpAnyH_take (i := 13) (oi := ?oi_k38) (v := ?v_k38) ?hi_k38 (by kernel_rfl) ?hf_k38 ?hr_k38 ?hQ_k38 (Or.inl ⟨?hw_k38, ?hy_k38⟩) (by assumption) ?rest_k38
              case hi_k38 => ((simp only [List.getElem?_toArray, List.getElem?_cons_succ, List.getElem?_cons_zero]); rfl)
              case hf_k38 => kernel_rfl
              case hr_k38 => kernel_rfl
              case hQ_k38 => exact fun _ _ _ h => h
              case hw_k38 => rfl
              case hy_k38 => ((intro w hSw; (try dsimp only at hSw); go_simp); all_goals (with_reducible rfl))
              try simp only [Act.put, List.setIfInBounds_toArray, List.set_cons_zero, List.set_cons_succ]
              refine wpAnyH_done (by kernel_rfl) ?_ _
              go_upto_region 26 with fail
              have hdr : Below W24.heap.size W24 W24.drew := belDrew (Below.refl _ _)
              have zf := (HBK.out.later hdr).frozen
              have z0 := y0 _ hdr
              have z3 := y3 _ hdr
              clear y0 y1 y2 y3
              have hne : ab ≠ g := by have := HGU.out.1; omega
              have HAB2 := Lib.hid (HAB.out.far (a := ⟨g, p, none⟩) (Ne.symm hne) (.string ⟨#[63]⟩))
              have HO3 := Lib.hid ((World.ownsRow.stored HO2.out p (.string ⟨#[63]⟩)).1)
              have HLX2 := Lib.hid ((HLX.out.mine ((Apart.refl _ _).set ⟨g, p, none⟩ (.string ⟨#[63]⟩) hgx)).later (belDrew (Below.refl _ _)))
              have HT2 := Lib.hid (HT.out.set p (Nat.lt_succ_self p) (Nat.le_succ p) (.string ⟨#[63]⟩))
              clear HT HO2 HAB HLX HBK hbel hbel0
              go_wp2
              go_roundw
              case rel => exact ⟨p + 1, _, by omega, by push_cast; rfl, HT2, HO3, HAB2, HLX2⟩
              case measure => simp [intOf] <;> omega
            · obtain rfl : p = x.un := by omega
              have hd3 : decide ((x.un : Int) < (x.un : Int)) = false := decide_eq_false (by omega)
              go_wp2
              go_roundw
              case rel => exact ⟨k + 1, by omega, by push_cast; rfl, Lib.hid (by rw [HNX.out]; exact HLX.out.sub (fun y hy => by cases hy))⟩
              case measure => simp [intOf] <;> omega
    · obtain rfl : k = L.length := by omega
      have hd : decide ((L.length : Int) < (L.length : Int)) = false := decide_eq_false (by omega)
      rw [List.take_length] at HLX
      have HGM := Lib.hid (show (afterW r L).Good L.length from by have h := afterW_good (W := w) r L.length L HG.out (Nat.le_refl _); rwa [List.take_length] at h)
      obtain ⟨m, hm⟩ : ∃ m, afterW r L = m := ⟨_, rfl⟩
      rw [hm] at HLX HGM
      clear hm
      generalize wr = W14 at *
      have hgn : L.length ≤ 100000 := by omega
      have hmb := HGM.out.len
      have hmi := HGM.out.lenI
      have hmo := HGM.out.outs
      have C1 := Lib.hid (fun u (h : WL w u M [] m) => wl_Containers w u M [] m L.length h HGM.out hgn m.boxes.length rfl)
      have C2 := Lib.hid (fun u (h : WL w u M [] m) => wl_Images w u M [] m L.length h HGM.out hgn m.images.length rfl)
      have C3 := Lib.hid (fun u (h : WL w u M [] m) => wl_Waiting w u M [] m L.length h HGM.out hgn m.outs.length rfl)
      go_upto_region 28 with (go_at_call 23; (with_reducible refine (C1.out _ (LoopX.wl HLX.out)).mono ?_); rintro e w27 ⟨a1, c1, rfl, ho_, _, _, hb_⟩; have HBN := Lib.hid hb_; have HON := Lib.hid ho_; clear hb_ ho_)
      have ho_ := HON.out
      have hb_ := HBN.out
      have hzs1 : W14.heap.size ≤ w27.heap.size := hb_.size
      have HO1 := Lib.hid ho_
      have HX1 := Lib.hid (fun g (e : (Value.slice a1 m.boxes.length c1).ownBlock = some g) => (⟨(own_type ho_ e).1, (own_type ho_ e).2.1⟩ : W14.heap.size ≤ g ∧ g < w27.heap.size))
      replace HLX := Lib.hid (LoopX.grow (Y := (obs (.slice a1 m.boxes.length c1))) HLX.out hb_ (fun y hy => by
      exact .inr ⟨(own_type ho_ (obs_mem.1 hy)).1, (own_type ho_ (obs_mem.1 hy)).2.1⟩))
      clear ho_ hb_ HBN HON
      generalize w27 = W27 at *
      go_upto_region 29 with (go_at_call 24; (with_reducible refine (C2.out _ (LoopX.wl HLX.out)).mono ?_); rintro e w28 ⟨a2, c2, rfl, ho_, _, _, hb_⟩; have HBN := Lib.hid hb_; have HON := Lib.hid ho_; clear hb_ ho_)
      have ho_ := HON.out
      have hb_ := HBN.out
      have hzs2 : W27.heap.size ≤ w28.heap.size := hb_.size
      replace HO1 := Lib.hid (OwnR.later HO1.out hb_)
      have HO2 := Lib.hid ho_
      have HX2 := Lib.hid (fun g (e : (Value.slice a2 m.images.length c2).ownBlock = some g) => (⟨(own_type ho_ e).1, (own_type ho_ e).2.1⟩ : W27.heap.size ≤ g ∧ g < w28.heap.size))
      replace HLX := Lib.hid (LoopX.grow (Y := (obs (.slice a1 m.boxes.length c1) ++ obs (.slice a2 m.images.length c2))) HLX.out hb_ (fun y hy => by
      rcases List.mem_append.1 hy with q | q
      · exact .inl q
      · exact .inr ⟨(own_type ho_ (obs_mem.1 q)).1, (own_type ho_ (obs_mem.1 q)).2.1⟩))
      clear ho_ hb_ HBN HON
      generalize w28 = W28 at *
      go_upto_region 30 with (go_at_call 29; (with_reducible refine (C3.out _ (LoopX.wl HLX.out)).mono ?_); rintro e w29 ⟨a3, c3, rfl, ho_, _, _, hb_⟩; have HBN := Lib.hid hb_; have HON := Lib.hid ho_; clear hb_ ho_)
      have ho_ := HON.out
      have hb_ := HBN.out
      have hzs3 : W28.heap.size ≤ w29.heap.size := hb_.size
      replace HO1 := Lib.hid (OwnR.later HO1.out hb_)
      replace HO2 := Lib.hid (OwnR.later HO2.out hb_)
      have HO3 := Lib.hid ho_
      have HX3 := Lib.hid (fun g (e : (Value.slice a3 m.outs.length c3).ownBlock = some g) => (⟨(own_type ho_ e).1, (own_type ho_ e).2.1⟩ : W28.heap.size ≤ g ∧ g < w29.heap.size))
      replace HLX := Lib.hid (LoopX.grow (Y := (obs (.slice a1 m.boxes.length c1) ++ obs (.slice a2 m.images.length c2) ++ obs (.slice a3 m.outs.length c3))) HLX.out hb_ (fun y hy => by
      rcases List.mem_append.1 hy with q | q
      · exact .inl q
      · exact .inr ⟨(own_type ho_ (obs_mem.1 q)).1, (own_type ho_ (obs_mem.1 q)).2.1⟩))
      clear ho_ hb_ HBN HON
      generalize w29 = W29 at *
      clear C1 C2 C3
      have hr1a := (row_of_ownS HO1.out).2.1
      have hr1b : c1 ≤ 9223372036854775807 := by have h_ := (row_of_ownS HO1.out).2.2.1; unfold maxLen at h_; exact h_
      have hr2a := (row_of_ownS HO2.out).2.1
      have hr2b : c2 ≤ 9223372036854775807 := by have h_ := (row_of_ownS HO2.out).2.2.1; unfold maxLen at h_; exact h_
      have hr3a := (row_of_ownS HO3.out).2.1
      have hr3b : c3 ≤ 9223372036854775807 := by have h_ := (row_of_ownS HO3.out).2.2.1; unfold maxLen at h_; exact h_
      have hsz0 := HLX.out.below.size
      go_wp2
      go_loopw [14] (fun iv wr => ∃ (q : Nat) (cs : List Value), q ≤ m.boxes.length ∧ iv = .int .i64 q ∧ Hid (OwnR wr W14.heap.size 44 4 (.slice a1 m.boxes.length c1) m.boxes.length (cs)) ∧ Hid (OwnR wr W27.heap.size 58 3 (.slice a2 m.images.length c2) m.images.length (m.images.flatMap ImgV.cells)) ∧ Hid (OwnR wr W28.heap.size 4 1 (.slice a3 m.outs.length c3) m.outs.length (m.outs.map Value.bool)) ∧ Hid (LoopX w wr M mb (obs (.slice a1 m.boxes.length c1) ++ obs (.slice a2 m.images.length c2) ++ obs (.slice a3 m.outs.length c3)) m)) (fun iv _ => m.boxes.length - (intOf iv).toNat)
      case atStart => exact ⟨0, _, Nat.zero_le _, rfl, HO1, HO2, HO3, HLX⟩
      case round =>
        clear HLX HO1 HO2 HO3
        obtain ⟨i1, cs, hq0, rfl, HO1, HO2, HO3, HLX⟩ := hrel
        by_cases hl0 : i1 < m.boxes.length
        · have hd4 : decide ((i1 : Int) < (m.boxes.length : Int)) = true := decide_eq_true (by omega)
          have hv0 : (i1 : Int) < (m.boxes.length : Int) := by omega
          have hv0b : (0 : Int) ≤ (i1 : Int) := by omega
          rcases own_open HO1.out with ⟨_, hz0, _⟩ | ⟨g, gc, C, e9, hBg, hCb, hnc, hcm, hCl, hCt⟩
          · omega
          simp only [Value.slice.injEq, true_and] at e9
          obtain ⟨rfl, rfl⟩ := e9
          obtain ⟨d0v, d0⟩ : ∃ v, wr.cell? ⟨g, i1 * 4, none⟩ = some v := ⟨_, hCb.cell (List.getElem?_eq_getElem (by rw [hCl]; omega))⟩
          obtain ⟨d1v, d1⟩ : ∃ v, wr.cell? ⟨g, i1 * 4 + 1, none⟩ = some v := ⟨_, hCb.cell (List.getElem?_eq_getElem (by rw [hCl]; omega))⟩
          obtain ⟨d2v, d2⟩ : ∃ v, wr.cell? ⟨g, i1 * 4 + 2, none⟩ = some v := ⟨_, hCb.cell (List.getElem?_eq_getElem (by rw [hCl]; omega))⟩
          obtain ⟨d3v, d3⟩ : ∃ v, wr.cell? ⟨g, i1 * 4 + 3, none⟩ = some v := ⟨_, hCb.cell (List.getElem?_eq_getElem (by rw [hCl]; omega))⟩
          have df := hCb.frozen
          have hgx : g ∈ (obs (.slice (some ⟨g, 0, none⟩) m.boxes.length c1) ++ obs (.slice a2 m.images.length c2) ++ obs (.slice a3 m.outs.length c3)) := List.mem_append_left _ (List.mem_append_left _ (obs_mem.2 rfl))
          have HGU := HX1.out g rfl
          have HOW2 := Lib.hid ((World.ownsRow.stored (World.ownsRow.stored (World.ownsRow.stored (World.ownsRow.stored HO1.out (i1 * 4) (.string ⟨#[]⟩)).1 (i1 * 4 + 1) (.int .i64 0)).1 (i1 * 4 + 2) (.int .i64 0)).1 (i1 * 4 + 3) (.int .i64 0)).1)
          have HLX2 := Lib.hid (HLX.out.mine (((((Apart.refl _ _).set ⟨g, i1 * 4, none⟩ (.string ⟨#[]⟩) hgx).set ⟨g, i1 * 4 + 1, none⟩ (.int .i64 0) hgx).set ⟨g, i1 * 4 + 2, none⟩ (.int .i64 0) hgx).set ⟨g, i1 * 4 + 3, none⟩ (.int .i64 0) hgx))
          have HN2 := Lib.hid (OwnR.setCell (OwnR.setCell (OwnR.setCell (OwnR.setCell HO2.out (a := ⟨g, i1 * 4, none⟩) (show g < W27.heap.size by omega) (.string ⟨#[]⟩)) (a := ⟨g, i1 * 4 + 1, none⟩) (show g < W27.heap.size by omega) (.int .i64 0)) (a := ⟨g, i1 * 4 + 2, none⟩) (show g < W27.heap.size by omega) (.int .i64 0)) (a := ⟨g, i1 * 4 + 3, none⟩) (show g < W27.heap.size by omega) (.int .i64 0))
          have HN3 := Lib.hid (OwnR.setCell (OwnR.setCell (OwnR.setCell (OwnR.setCell HO3.out (a := ⟨g, i1 * 4, none⟩) (show g < W28.heap.size by omega) (.string ⟨#[]⟩)) (a := ⟨g, i1 * 4 + 1, none⟩) (show g < W28.heap.size by omega) (.int .i64 0)) (a := ⟨g, i1 * 4 + 2, none⟩) (show g < W28.heap.size by omega) (.int .i64 0)) (a := ⟨g, i1 * 4 + 3, none⟩) (show g < W28.heap.size by omega) (.int .i64 0))
          clear hCb hCl hCt hcm HLX HO1 HO2 HO3
          go_wp2
          go_roundw
          case rel => exact ⟨i1 + 1, _, by omega, by push_cast; rfl, HOW2, HN2, HN3, HLX2⟩
          case measure => simp [intOf] <;> omega
        · obtain rfl : i1 = m.boxes.length := by omega
          have hd4 : decide ((m.boxes.length : Int) < (m.boxes.length : Int)) = false := decide_eq_false (by omega)
          clear HO1
          generalize wr = W34 at *
          go_wp2
          go_loopw [15] (fun iv wr => ∃ (q : Nat) (cs : List Value), q ≤ m.images.length ∧ iv = .int .i64 q ∧ Hid (OwnR wr W27.heap.size 58 3 (.slice a2 m.images.length c2) m.images.length (cs)) ∧ Hid (OwnR wr W28.heap.size 4 1 (.slice a3 m.outs.length c3) m.outs.length (m.outs.map Value.bool)) ∧ Hid (LoopX w wr M mb (obs (.slice a1 m.boxes.length c1) ++ obs (.slice a2 m.images.length c2) ++ obs (.slice a3 m.outs.length c3)) m)) (fun iv _ => m.images.length - (intOf iv).toNat)
          case atStart => exact ⟨0, _, Nat.zero_le _, rfl, HO2, HO3, HLX⟩
          case round =>
            clear HLX HO2 HO3
            obtain ⟨i2, cs, hq1, rfl, HO2, HO3, HLX⟩ := hrel
            by_cases hl1 : i2 < m.images.length
            · have hd5 : decide ((i2 : Int) < (m.images.length : Int)) = true := decide_eq_true (by omega)
              have hv1 : (i2 : Int) < (m.images.length : Int) := by omega
              have hv1b : (0 : Int) ≤ (i2 : Int) := by omega
              rcases own_open HO2.out with ⟨_, hz0, _⟩ | ⟨g, gc, C, e9, hBg, hCb, hnc, hcm, hCl, hCt⟩
              · omega
              simp only [Value.slice.injEq, true_and] at e9
              obtain ⟨rfl, rfl⟩ := e9
              obtain ⟨d0v, d0⟩ : ∃ v, wr.cell? ⟨g, i2 * 3, none⟩ = some v := ⟨_, hCb.cell (List.getElem?_eq_getElem (by rw [hCl]; omega))⟩
              obtain ⟨d1v, d1⟩ : ∃ v, wr.cell? ⟨g, i2 * 3 + 1, none⟩ = some v := ⟨_, hCb.cell (List.getElem?_eq_getElem (by rw [hCl]; omega))⟩
              obtain ⟨d2v, d2⟩ : ∃ v, wr.cell? ⟨g, i2 * 3 + 2, none⟩ = some v := ⟨_, hCb.cell (List.getElem?_eq_getElem (by rw [hCl]; omega))⟩
              have df := hCb.frozen
              have hgx : g ∈ (obs (.slice a1 m.boxes.length c1) ++ obs (.slice (some ⟨g, 0, none⟩) m.images.length c2) ++ obs (.slice a3 m.outs.length c3)) := List.mem_append_left _ (List.mem_append_right _ (obs_mem.2 rfl))
              have HGU := HX2.out g rfl
              have HOW2 := Lib.hid ((World.ownsRow.stored (World.ownsRow.stored (World.ownsRow.stored HO2.out (i2 * 3) (.string ⟨#[]⟩)).1 (i2 * 3 + 1) (.int .i64 0)).1 (i2 * 3 + 2) (.int .i64 0)).1)
              have HLX2 := Lib.hid (HLX.out.mine ((((Apart.refl _ _).set ⟨g, i2 * 3, none⟩ (.string ⟨#[]⟩) hgx).set ⟨g, i2 * 3 + 1, none⟩ (.int .i64 0) hgx).set ⟨g, i2 * 3 + 2, none⟩ (.int .i64 0) hgx))
              have HN3 := Lib.hid (OwnR.setCell (OwnR.setCell (OwnR.setCell HO3.out (a := ⟨g, i2 * 3, none⟩) (show g < W28.heap.size by omega) (.string ⟨#[]⟩)) (a := ⟨g, i2 * 3 + 1, none⟩) (show g < W28.heap.size by omega) (.int .i64 0)) (a := ⟨g, i2 * 3 + 2, none⟩) (show g < W28.heap.size by omega) (.int .i64 0))
              clear hCb hCl hCt hcm HLX HO2 HO3
              go_wp2
              go_roundw
              case rel => exact ⟨i2 + 1, _, by omega, by push_cast; rfl, HOW2, HN3, HLX2⟩
              case measure => simp [intOf] <;> omega
            · obtain rfl : i2 = m.images.length := by omega
              have hd5 : decide ((m.images.length : Int) < (m.images.length : Int)) = false := decide_eq_false (by omega)
              clear HO2
              generalize wr = W38 at *
              go_wp2
              go_loopw [16] (fun iv wr => ∃ (q : Nat) (cs : List Value), q ≤ m.outs.length ∧ iv = .int .i64 q ∧ Hid (OwnR wr W28.heap.size 4 1 (.slice a3 m.outs.length c3) m.outs.length (cs)) ∧ Hid (AllB cs) ∧ Hid (LoopX w wr M mb (obs (.slice a1 m.boxes.length c1) ++ obs (.slice a2 m.images.length c2) ++ obs (.slice a3 m.outs.length c3)) m)) (fun iv _ => m.outs.length - (intOf iv).toNat)
              case atStart => exact ⟨0, _, Nat.zero_le _, rfl, HO3, Lib.hid (allB_map _), HLX⟩
              case round =>
                clear HLX HO3
                obtain ⟨i3, cs, hq2, rfl, HO3, HALL, HLX⟩ := hrel
                by_cases hl2 : i3 < m.outs.length
                · have hd6 : decide ((i3 : Int) < (m.outs.length : Int)) = true := decide_eq_true (by omega)
                  have hv2 : (i3 : Int) < (m.outs.length : Int) := by omega
                  have hv2b : (0 : Int) ≤ (i3 : Int) := by omega
                  rcases own_open HO3.out with ⟨_, hz0, _⟩ | ⟨g, gc, C, e9, hBg, hCb, hnc, hcm, hCl, hCt⟩
                  · omega
                  simp only [Value.slice.injEq, true_and] at e9
                  obtain ⟨rfl, rfl⟩ := e9
                  obtain ⟨cv, hcv⟩ : ∃ v, cs[i3]? = some v := ⟨_, List.getElem?_eq_getElem (by rw [← hCt, List.length_take, hCl]; omega)⟩
                  obtain ⟨bv, rfl⟩ := HALL.out i3 cv hcv
                  have d0 := hCb.cell (take_cell hCt hcv)
                  have df := hCb.frozen
                  have hgx : g ∈ (obs (.slice a1 m.boxes.length c1) ++ obs (.slice a2 m.images.length c2) ++ obs (.slice (some ⟨g, 0, none⟩) m.outs.length c3)) := List.mem_append_right _ (obs_mem.2 rfl)
                  have HGU := HX3.out g rfl
                  have HOW2 := Lib.hid ((World.ownsRow.stored HO3.out (i3) (.bool !bv)).1)
                  have HLX2 := Lib.hid (HLX.out.mine ((Apart.refl _ _).set ⟨g, i3, none⟩ (.bool !bv) hgx))
                  clear hCb hCl hCt hcm HLX HO3
                  go_wp2
                  go_roundw
                  case rel => exact ⟨i3 + 1, _, by omega, by push_cast; rfl, HOW2, Lib.hid (HALL.out.set i3 (!bv)), HLX2⟩
                  case measure => simp [intOf] <;> omega
                · obtain rfl : i3 = m.outs.length := by omega
                  have hd6 : decide ((m.outs.length : Int) < (m.outs.length : Int)) = false := decide_eq_false (by omega)
                  clear HO3
                  obtain ⟨oa, oc, ba, bc, ia, ic, F, h0, h1, h2, h3, _⟩ := HLX.out
                  have HB9 := Lib.hid h3
                  have m0 := h0.cell (j := 0) rfl
                  have m1 := h0.cell (j := 1) rfl
                  have m2 := h0.cell (j := 2) rfl
                  have m3 := h0.cell (j := 3) rfl
                  have CS := Lib.hid (samesW m ▸ law16_same M F _ m m _ L.length wr h1 HGM.out hgn h2)
                  clear h0 h1 h2 h3
                  go_wp2_with (go_at_call 22; (with_reducible refine (CS.out).mono ?_); rintro e w9 ⟨rfl, hb_⟩; have HB10 := Lib.hid (belStep HB9.out hb_); clear hb_)
                  go_ret
                  exact ⟨rfl, HB10.out⟩

set_option maxRecDepth 100000 in
theorem lifted (os : Os) (started : os.Started) (H : Type) (enc : TypeId × Value → H) :
    ReturnsInHanded {} Try.checked os 5 .any (Rows.worldKeepsSpec.pre6 enc Try.prog Try.f5 Rows.worldKeepsRow.domain false) (Rows.worldKeepsSpec.post enc Try.prog Try.f5 false true false false) := by
  refine returnsInHanded_of_change (C := Try.checked) own started (by kernel_rfl) Try.func5
    (ChangeSpec.witness6 (enc := enc) (C := Try.checked) false ⟨#[], #[.slice none 0 0], []⟩ 8 (by kernel_rfl) (by kernel_rfl) (by kernel_rfl) (by kernel_rfl)) ?_
  intro W base args ds gs before hval0 hW hcnd _
  have hval : ∀ (j : Nat) t v, Try.f5.params[j]? = some t → args[j]? = some v → Value.okWide Try.prog W .any base t v := hval0
  have hW' := hW
  obtain ⟨p, q, hA0, hV, rfl, hfz, hnd⟩ := hW
  have hA : DataW.TrodAll enc Try.prog W 0 (fun _ => true) true Try.f5.params.toList args.toList ds p := hA0
  rw [Try.params5] at hA hval
  obtain ⟨v0, vs0, d0, ds0, p0, q0, hargs, rfl, rfl, h0, r0⟩ := trodAll_cons hA
  obtain ⟨rfl, rfl, rfl⟩ := trodAll_nil r0
  obtain rfl : args = #[v0] := by cases args; simp_all
  obtain ⟨rfl, rfl⟩ := trodVars_none hV
  have k0 := h0
  have lt0 : ∀ x ∈ p0, x.block < W.heap.size := by obtain ⟨m, hm⟩ := k0; exact DataW.trod_lt m _ _ _ hm
  have o0 : Value.okWide Try.prog W .any base 22 v0 := hval 0 22 v0 rfl rfl
  obtain ⟨xa0, xn0, xc0, xl0, rfl, fl0, fo0, fr0⟩ := open_actsW o0 h0
  clear hA0 hval0
  refine (walk xa0 xn0 xc0 xl0 W fl0 fo0 fr0).mono fun e W' ⟨he, bel⟩ => ?_
  subst he
  exact ⟨_, rfl, _, _, _, [], _, [], hW', trodAll_mk1 (shut_bool Try.underlying4 _), (trodAll_cons_mk (Below.trod laidOut (by kernel_rfl) (of_decide_eq_true (by kernel_rfl)) k0 bel lt0) trodAll_mk0), rfl, bel.frame _, fun h => by cases h⟩

theorem over : Rows.worldKeepsRow.holds Try.pinned (OpenSpec.ofChange Rows.worldKeepsSpec) :=
  OpenClaim.holds_of_wide 5 Try.f5 rfl rfl rfl rfl rfl rfl rfl ⟨rfl, rfl, rfl, rfl, rfl⟩ rfl rfl rfl rfl rfl (by kernel_rfl) Try.func5 (by kernel_rfl)
    (of_decide_eq_true (by kernel_rfl)) (by unfold Func.isWrapper; first | (rw [if_pos (by decide +kernel)]; kernel_rfl) | (rw [if_neg (by decide +kernel)]; exact ⟨rfl, rfl⟩))
    (fun os started H enc _ => lifted os started H enc)

/-- The statement. -/
theorem proved : Rows.WorldKeepsSaid := over
#print axioms proved

end Go.Proofs.Ytcnjcldfbidkmaa.worldKeeps
