
/- WorldApart holds for all its arguments. No conditions. -/
import Derived.Test.YtcnjcldfbidkmaaWmZ
import Derived.Test.YtcnjcldfbidkmaaAwake16
import Derived.Test.YtcnjcldfbidkmaaWl3
import Derived.Test.YtcnjcldfbidkmaaWl5
namespace Go.Proofs.Ytcnjcldfbidkmaa.worldApart
open Go.ChangeShapes Go.WideShapes Go.ChangeAt Go.RowKit
open Go.ChangeMaps (open_string shut_string)
set_option linter.unusedVariables false
set_option linter.unusedSimpArgs false
open Go.Sort
theorem ris_boxes {F : List Nat} {u : World} {m : WorldV} {r : Int} {oa ba ia : Option Addr} {n1 n2 n3 oc bc ic : Nat} (h : RIs F u (.agg #[.int .i64 r, .slice oa n1 oc, .slice ba n2 bc, .slice ia n3 ic]) m) : Row u ba n2 bc 4 (m.boxes.flatMap ContV.cells) := by
  obtain ⟨oa1, oc1, ba1, bc1, ia1, ic1, e, h1, h2, h3, _⟩ := h
  simp only [Value.agg.injEq, Array.mk.injEq, List.cons.injEq, Value.slice.injEq, and_true] at e
  obtain ⟨_, _, ⟨rfl, rfl, rfl⟩, _⟩ := e
  exact h2
theorem placeRC_yes {L : List ContV} (h : RisesC L) {s : ByteArray} (ht : thereC L s = true) : ∃ p, p < L.length ∧ placeRC L s = (p : Int) ∧ L[p]? = some (fndC L s) := by
  obtain ⟨x, hx, _⟩ := thereC_at h ht
  refine ⟨placeC L s, (List.getElem?_eq_some_iff.1 hx).1, ?_, ?_⟩
  · rw [placeRC_eq h, ht, if_pos rfl]
  · rw [fndC_at ht hx]; exact hx
theorem fewW_wn {L : List ActW} (h : fewW L = true) {x : ActW} (hx : x ∈ L) : x.wn ≤ 3000 := by
  have hl := fewW_len h
  unfold fewW at h
  rw [Bool.and_eq_true, List.take_of_length_le (by omega)] at h
  have h2 := List.all_eq_true.1 h.1 x hx
  unfold actWB at h2
  simp only [Bool.and_eq_true, decide_eq_true_eq] at h2
  exact h2.1.1.1.2
theorem find_mem {L : List ContV} (h : RisesC L) {x : ContV} (hx : x ∈ L) : thereC L x.id = true ∧ fndC L x.id = x := by
  have ht : thereC L x.id = true := List.any_eq_true.2 ⟨x, hx, beq_self_eq_true _⟩
  obtain ⟨y, hy, he⟩ := thereC_at h ht
  refine ⟨ht, ?_⟩
  rw [fndC_at ht hy]
  obtain ⟨i, hi⟩ := List.getElem?_of_mem hx
  rcases Nat.lt_trichotomy i (placeC L x.id) with q | q | q
  · have := h.lt hi hy q; rw [he] at this; exact absurd this (List.lt_irrefl _)
  · rw [← q, hi] at hy; exact (Option.some.inj hy).symm
  · have := h.lt hy hi q; rw [he] at this; exact absurd this (List.lt_irrefl _)
theorem settle_mem {L : List ContV} {p : Nat} {x y : ContV} (hx : L[p]? = some x) (hy : y ∈ L) (hne : y ≠ x) (what : Int) (well : Bool) (round r : Int) : y ∈ settleC L p x what well round r := by
  obtain ⟨i, hi⟩ := List.getElem?_of_mem hy
  have hip : i ≠ p := fun e => by subst e; rw [hx] at hi; exact hne (Option.some.inj hi).symm
  unfold settleC
  split
  · rcases Nat.lt_or_gt_of_ne hip with q | q
    · exact List.mem_append_left _ (List.mem_of_getElem? (by rw [List.getElem?_take_of_lt q]; exact hi))
    · refine List.mem_append_right _ (List.mem_of_getElem? (i := i - (p + 1)) ?_)
      rw [List.getElem?_drop, show p + 1 + (i - (p + 1)) = i by omega]; exact hi
  · exact List.mem_of_getElem? (i := i) (by rw [List.getElem?_set_ne (Ne.symm hip)]; exact hi)
theorem ask_mem {m : WorldV} {n : Nat} (hg : m.Good n) {s : ByteArray} {y : ContV} (hy : y ∈ m.boxes) (hne : y.id.toList ≠ s.toList) (what round : Int) : y ∈ (askW m s what round).boxes := by
  unfold askW
  split
  · show y ∈ settleC m.boxes (placeC m.boxes s) (fndC m.boxes s) what (takeB m.outs) round m.retries
    cases ht : thereC m.boxes s with
    | false =>
      rename_i hc
      unfold askC mayC at hc
      rw [ht] at hc
      simp at hc
    | true =>
      obtain ⟨x, hx, he⟩ := thereC_at hg.rises ht
      rw [fndC_at ht hx]
      exact settle_mem hx hy (fun e => hne (by rw [e, he])) _ _ _ _
  · exact hy
theorem fed_boxes (m : WorldV) (V : List Bool) : (m.fed V).boxes = m.boxes ∧ (m.fed V).images = m.images := by unfold WorldV.fed; split <;> exact ⟨rfl, rfl⟩
theorem ask_images (m : WorldV) (s : ByteArray) (what round : Int) : (askW m s what round).images = m.images := by unfold askW; split <;> rfl
theorem drop_boxes (m : WorldV) (nm : ByteArray) : (dropW m nm).boxes = m.boxes := by unfold dropW; split <;> rfl
theorem drop_mem {m : WorldV} {nm : ByteArray} {x : ImgV} (hx : x ∈ m.images) (hne : (x.name.toList == nm.toList) = false) : x ∈ (dropW m nm).images := by
  unfold dropW
  split
  · show x ∈ (if takeB m.outs then dropI m.images nm else m.images)
    split
    · exact List.mem_filter.2 ⟨hx, by rw [hne]; rfl⟩
    · exact hx
  · exact hx
def apartW (m : WorldV) (b : Bool) (what round : Int) : WorldV := dropW (askW (m.fed [b]) ⟨#[97]⟩ what round) ⟨#[119, 101, 98]⟩
theorem apart_good {m : WorldV} {n : Nat} (hg : m.Good n) (b : Bool) (what : Int) {round : Int} (hr : InI round) : (apartW m b what round).Good n := good_drop (good_ask (good_fed hg _) _ _ hr) _
theorem apart_box {m : WorldV} {n : Nat} (hg : m.Good n) (b : Bool) (what : Int) {round : Int} (hr : InI round) {y : ContV} (hy : y ∈ m.boxes) (hne : (y.id.toList == (⟨#[97]⟩ : ByteArray).toList) = false) : thereC (apartW m b what round).boxes y.id = true ∧ fndC (apartW m b what round).boxes y.id = y := by
  refine find_mem (apart_good hg b what hr).rises ?_
  unfold apartW
  rw [drop_boxes]
  exact ask_mem (good_fed hg [b]) (by rw [(fed_boxes m [b]).1]; exact hy) (by simpa using hne) _ _
theorem apart_img {m : WorldV} (b : Bool) (what round : Int) {x : ImgV} (hx : x ∈ m.images) (hne : (x.name.toList == (⟨#[119, 101, 98]⟩ : ByteArray).toList) = false) : x ∈ (apartW m b what round).images := drop_mem (by rw [ask_images, (fed_boxes m [b]).2]; exact hx) hne
theorem any_img {N : List ImgV} {x : ImgV} (h : x ∈ N) : N.any (fun y => eqImg y x) = true := List.any_eq_true.2 ⟨x, h, (eqImg_iff x x).2 rfl⟩
theorem any_nextG {α : Type} {f : α → Bool} {L : List α} {k : Nat} {x : α} (h : L[k]? = some x) : (L.take (k + 1)).any f = ((L.take k).any f || f x) := by
  rw [List.take_add_one, h, List.any_append]; simp
/-- The runtime, and the law's two lists. -/
def ApS (w u : World) (M : Nat) (v1 v2 : Value) (L : List ContV) (I : List ImgV) (m : WorldV) : Prop := WL w u M (v1.ownBlock.toList ++ v2.ownBlock.toList) m ∧ OwnR u w.heap.size 44 4 v1 L.length (L.flatMap ContV.cells) ∧ OwnR u w.heap.size 58 3 v2 I.length (I.flatMap ImgV.cells)
theorem ApS.call {w u u' : World} {M : Nat} {v1 v2 : Value} {L : List ContV} {I : List ImgV} {m k : WorldV} (h : ApS w u M v1 v2 L I m) (hS : WL w u' M (v1.ownBlock.toList ++ v2.ownBlock.toList) k) (hK : KX (v1.ownBlock.toList ++ v2.ownBlock.toList) u u') : ApS w u' M v1 v2 L I k :=
  ⟨hS, hK.own h.2.1 (fun g e => by simp [e]), hK.own h.2.2 (fun g e => by simp [e])⟩
theorem ApS.later {w u u' : World} {M : Nat} {v1 v2 : Value} {L : List ContV} {I : List ImgV} {m : WorldV} (h : ApS w u M v1 v2 L I m) (hb : Below u.heap.size u u') : ApS w u' M v1 v2 L I m := ⟨h.1.later hb, OwnR.later h.2.1 hb, OwnR.later h.2.2 hb⟩
theorem ApS.start {w u u1 u2 : World} {M : Nat} {v1 v2 : Value} {L : List ContV} {I : List ImgV} {m : WorldV} (h : WL w u M [] m) (hb1 : Below u.heap.size u u1) (ho1 : OwnR u1 u.heap.size 44 4 v1 L.length (L.flatMap ContV.cells)) (hb2 : Below u1.heap.size u1 u2) (ho2 : OwnR u2 u1.heap.size 58 3 v2 I.length (I.flatMap ImgV.cells)) : ApS w u2 M v1 v2 L I m := by
  have ho3 := OwnR.later ho1 hb2
  refine ⟨h.grown (Apart.of_below (belStep hb1 hb2)) (fun y hy => ?_), OwnR.mono ho3 h.below.size, OwnR.mono ho2 (Nat.le_trans h.below.size hb1.size)⟩
  rcases List.mem_append.1 hy with q | q
  · rw [Option.mem_toList] at q; have := own_type ho3 q; exact .inr ⟨this.1, this.2.1⟩
  · rw [Option.mem_toList] at q; have := own_type ho2 q; exact .inr ⟨Nat.le_trans hb1.size this.1, this.2.1⟩
theorem LoopW.wl {w u : World} {M mb : Nat} {m : WorldV} (h : LoopW w u M mb m) : WL w u M [] m := by
  obtain ⟨_, _, _, _, _, _, F, _, h1, _, h3, h4, _⟩ := h
  exact ⟨F, h1, h3, h4, fun x hx => by cases hx⟩
set_option maxRecDepth 100000 in
set_option maxHeartbeats 64000000 in
theorem walk (a : Option Addr) (n c : Nat) (L : List ActW) (what round : Int) (well : Bool) (w : World) (hl : L.length = n) (hg : ∀ x ∈ L, x.good w) (hR : Row w a n c 8 (L.flatMap ActW.cells)) (hwI : InI what) (hrI : InI round) :
    Calls Try.prog 4 #[.slice a n c, .int .i64 what, .int .i64 round, .bool well] w fun e w' => e = .returned (.bool true) ∧ Below w.heap.size w w' := by
  have hw : Below w.heap.size w w := Below.refl _ _
  have hbel := hw
  have hbd_a : n ≤ c ∧ c ≤ 9223372036854775807 := by obtain ⟨_, h1, h2, _⟩ := hR; unfold maxLen at h2; exact ⟨h1, h2⟩
  obtain ⟨hbd1_a, hbd2_a⟩ := hbd_a
  subst hl
  obtain ⟨fw, hfw⟩ : ∃ q, fewW L = q := ⟨_, rfl⟩
  have CFW := Lib.hid (fun u (hu : Below w.heap.size w u) => hfw ▸ law16_few a L.length c L u rfl (hR.later hu) (fun y hy => good_laterW (hg y hy) hu))
  have HFW := Lib.hid hfw
  have HR := Lib.hid hR
  have HG := Lib.hid hg
  clear hR hg hfw
  go_enter Try.func4, Try.ntmps4
  by_cases hrd : round < 0
  · have d0 : decide (round < (0 : Int)) = true := decide_eq_true hrd
    go_upto_region 3 with (first | (go_at_call 16; (with_reducible refine (awake16 _).mono ?_); rintro e w1 ⟨rfl, hb1⟩; replace hbel := belStep hbel hb1; clear hb1) | (go_at_call 17; (with_reducible refine (CFW.out _ hbel).mono ?_); rintro e wf1 ⟨rfl, hb_wf1⟩; replace hbel := belStep hbel hb_wf1; clear hb_wf1; rcases fw with _ | _))
    · go_ret
      exact ⟨rfl, hbel⟩
    · go_ret
      exact ⟨rfl, hbel⟩
  · have d0 : decide (round < (0 : Int)) = false := decide_eq_false hrd
    go_upto_region 3 with (first | (go_at_call 16; (with_reducible refine (awake16 _).mono ?_); rintro e w1 ⟨rfl, hb1⟩; replace hbel := belStep hbel hb1; clear hb1) | (go_at_call 17; (with_reducible refine (CFW.out _ hbel).mono ?_); rintro e wf1 ⟨rfl, hb_wf1⟩; replace hbel := belStep hbel hb_wf1; clear hb_wf1; rcases fw with _ | _))
    · go_ret
      exact ⟨rfl, hbel⟩
    have hn50 : L.length ≤ 50 := fewW_len HFW.out
    clear CFW hw hrd d0
    obtain ⟨r, hr2⟩ : ∃ r : Int, r = 2 := ⟨_, rfl⟩
    have HR2 := Lib.hid hr2
    go_upto_region 6 with (go_at_call 18; (with_reducible refine (wl_NewM 2 w _ hbel).mono ?_); rintro e w1 ⟨M, rfl, hS_, hb_⟩; have HS := Lib.hid hS_; clear hS_ hb_)
    clear hbel
    go_upto_region 7 with fail
    have HLW := Lib.hid (LoopW.start HS.out)
    generalize (w1.alloc (.cells #[.int .i64 2, .slice none 0 0, .slice none 0 0, .slice none 0 0] 31)) = W7 at *
    generalize w1.heap.size = mb at *
    clear HS
    rw [← hr2] at HLW
    clear hr2
    go_wp2
    go_loopw [11] (fun iv wr => ∃ k : Nat, k ≤ L.length ∧ iv = .int .i64 k ∧ Hid (LoopW w wr M mb (afterW r (L.take k)))) (fun iv _ => L.length - (intOf iv).toNat)
    case atStart => exact ⟨0, Nat.zero_le _, rfl, HLW⟩
    case round =>
      clear HLW
      obtain ⟨k, hk, rfl, HLW⟩ := hrel
      by_cases hlt : k < L.length
      · have hd : decide ((k : Int) < (L.length : Int)) = true := decide_eq_true (by omega)
        have hki : (k : Int) < (L.length : Int) := by omega
        have hk0 : (0 : Int) ≤ (k : Int) := by omega
        have hbel := HLW.out.below
        obtain ⟨x, hx⟩ : ∃ x, L[k]? = some x := ⟨L[k], List.getElem?_eq_getElem hlt⟩
        obtain ⟨bc, oc, ec, _, hcc⟩ := (HR.out).elem ActW.cells_len (by omega) hx
        subst ec
        have c0 := keep (hcc 0 _ rfl)
        have c1 := keep (hcc 1 _ rfl)
        have c2 := keep (hcc 2 _ rfl)
        have c3 := keep (hcc 3 _ rfl)
        have c4 := keep (hcc 4 _ rfl)
        have c5 := keep (hcc 5 _ rfl)
        have c6 := keep (hcc 6 _ rfl)
        have c7 := keep (hcc 7 _ rfl)
        rw [Nat.add_zero] at c0
        have HGX := Lib.hid (HG.out x (List.mem_of_getElem? hx))
        have hwn := fewW_wn HFW.out (List.mem_of_getElem? hx)
        have HNX := Lib.hid (afterW_next (r := r) hx)
        have HGM := Lib.hid (afterW_good (W := w) r k L HG.out (by omega))
        clear hx hcc
        obtain ⟨m, hm⟩ : ∃ m, afterW r (L.take k) = m := ⟨_, rfl⟩
        rw [hm] at HLW HNX HGM
        clear hm
        obtain ⟨N, hN⟩ : ∃ N, stepW m x = N := ⟨_, rfl⟩
        have HGN := Lib.hid (show N.Good (k + 1) from hN ▸ good_step HGM.out HGX.out)
        rw [hN] at HNX
        obtain ⟨oa, oc, ba, bc, ia, ic, F, h0, h1, h2, h3, hM, h5, h6⟩ := HLW.out
        have HMB := Lib.hid h0
        have HWA := Lib.hid h1
        have HRI := Lib.hid h2
        have HNF := Lib.hid h5
        have HLE := Lib.hid h6
        clear HLW h0 h1 h2 h3 h5 h6
        have CD := Lib.hid (fun u F (hW : WAt u M M F m) (hR : RIs F u (.agg #[.int .i64 m.retries, .slice oa m.outs.length oc, .slice ba m.boxes.length bc, .slice ia m.images.length ic]) m) (hB : Below w.heap.size w u) => law16_does w M k m (.agg #[.int .i64 m.retries, .slice oa m.outs.length oc, .slice ba m.boxes.length bc, .slice ia m.images.length ic]) x u F hW hR hB hM HGM.out (by omega) (good_laterW HGX.out hB) (notin_before hW hM HGX.out.2.2) hwn)
        rw [hN] at CD
        clear hN
        go_upto_region 10 with fail
        refine wp_region_held_drew (S := fun u => Blk u mb [.int .i64 m.retries, .slice oa m.outs.length oc, .slice ba m.boxes.length bc, .slice ia m.images.length ic] 31 ∧ Below w.heap.size w u) (by kernel_rfl) (by exact ⟨HMB.out.later (belDrew (Below.refl _ _)), belDrew hbel⟩) (fun hHeld => ?_)
        refine wpAnyH_take (i := 0) (oi := ?oi_k1) (v := ?v_k1) ?hi_k1 (by kernel_rfl) ?hf_k1 ?hr_k1 ?hQ_k1 (Or.inl ⟨?hw_k1, ?hy_k1⟩) (by assumption) ?rest_k1
        case hi_k1 => ((simp only [List.getElem?_toArray, List.getElem?_cons_succ, List.getElem?_cons_zero]); rfl)
        case hf_k1 => kernel_rfl
        case hr_k1 => kernel_rfl
        case hQ_k1 => exact fun _ _ _ h => h
        case hw_k1 => rfl
        case hy_k1 => ((intro w hSw; (try dsimp only at hSw); go_simp); all_goals (with_reducible rfl))
        try simp only [Act.put, List.setIfInBounds_toArray, List.set_cons_zero, List.set_cons_succ]
        refine wpAnyH_take (i := 1) (oi := ?oi_k2) (v := ?v_k2) ?hi_k2 (by kernel_rfl) ?hf_k2 ?hr_k2 ?hQ_k2 (Or.inl ⟨?hw_k2, ?hy_k2⟩) (by assumption) ?rest_k2
        case hi_k2 => ((simp only [List.getElem?_toArray, List.getElem?_cons_succ, List.getElem?_cons_zero]); rfl)
        case hf_k2 => kernel_rfl
        case hr_k2 => kernel_rfl
        case hQ_k2 => exact fun _ _ _ h => h
        case hw_k2 => rfl
        case hy_k2 => ((intro w hSw; (try dsimp only at hSw); (have x0 := hSw.1.cell (j := 0) rfl; have x1 := hSw.1.cell (j := 1) rfl; have x2 := hSw.1.cell (j := 2) rfl; have x3 := hSw.1.cell (j := 3) rfl); go_simp); all_goals (with_reducible rfl))
        try simp only [Act.put, List.setIfInBounds_toArray, List.set_cons_zero, List.set_cons_succ]
        refine wpAnyH_take (i := 2) (oi := ?oi_k3) (v := ?v_k3) ?hi_k3 (by kernel_rfl) ?hf_k3 ?hr_k3 ?hQ_k3 (Or.inl ⟨?hw_k3, ?hy_k3⟩) (by assumption) ?rest_k3
        case hi_k3 => ((simp only [List.getElem?_toArray, List.getElem?_cons_succ, List.getElem?_cons_zero]); rfl)
        case hf_k3 => kernel_rfl
        case hr_k3 => kernel_rfl
        case hQ_k3 => exact fun _ _ _ h => h
        case hw_k3 => rfl
        case hy_k3 => ((intro w hSw; (try dsimp only at hSw); go_simp); all_goals (with_reducible rfl))
        try simp only [Act.put, List.setIfInBounds_toArray, List.set_cons_zero, List.set_cons_succ]
        refine wpAnyH_take (i := 3) (oi := ?oi_k4) (v := ?v_k4) ?hi_k4 (by kernel_rfl) ?hf_k4 ?hr_k4 ?hQ_k4 (Or.inl ⟨?hw_k4, ?hy_k4⟩) (by assumption) ?rest_k4
        case hi_k4 => ((simp only [List.getElem?_toArray, List.getElem?_cons_succ, List.getElem?_cons_zero]); rfl)
        case hf_k4 => kernel_rfl
        case hr_k4 => kernel_rfl
        case hQ_k4 => exact fun _ _ _ h => h
        case hw_k4 => rfl
        case hy_k4 => ((intro w hSw; (try dsimp only at hSw); go_simp); all_goals (with_reducible rfl))
        try simp only [Act.put, List.setIfInBounds_toArray, List.set_cons_zero, List.set_cons_succ]
        refine wpAnyH_take (i := 4) (oi := ?oi_k5) (v := ?v_k5) ?hi_k5 (by kernel_rfl) ?hf_k5 ?hr_k5 ?hQ_k5 (Or.inl ⟨?hw_k5, ?hy_k5⟩) (by assumption) ?rest_k5
        case hi_k5 => ((simp only [List.getElem?_toArray, List.getElem?_cons_succ, List.getElem?_cons_zero]); rfl)
        case hf_k5 => kernel_rfl
        case hr_k5 => kernel_rfl
        case hQ_k5 => exact fun _ _ _ h => h
        case hw_k5 => rfl
        case hy_k5 => ((intro w hSw; (try dsimp only at hSw); go_simp); all_goals (with_reducible rfl))
        try simp only [Act.put, List.setIfInBounds_toArray, List.set_cons_zero, List.set_cons_succ]
        refine wpAnyH_take (i := 5) (oi := ?oi_k6) (v := ?v_k6) ?hi_k6 (by kernel_rfl) ?hf_k6 ?hr_k6 ?hQ_k6 (Or.inl ⟨?hw_k6, ?hy_k6⟩) (by assumption) ?rest_k6
        case hi_k6 => ((simp only [List.getElem?_toArray, List.getElem?_cons_succ, List.getElem?_cons_zero]); rfl)
        case hf_k6 => kernel_rfl
        case hr_k6 => kernel_rfl
        case hQ_k6 => exact fun _ _ _ h => h
        case hw_k6 => rfl
        case hy_k6 => ((intro w hSw; (try dsimp only at hSw); (have hS2 := hSw.2); go_simp); all_goals (with_reducible rfl))
        try simp only [Act.put, List.setIfInBounds_toArray, List.set_cons_zero, List.set_cons_succ]
        refine wpAnyH_ready (rs := [6, 10]) (by kernel_rfl) (by simp) ?_
        refine AllReadyH.cons (o := ?oA_rr7) ?hiA_rr7 (fun K hK => ?restA_rr7) (AllReadyH.cons (o := ?oB_rr7) ?hiB_rr7 (fun K hK => ?restB_rr7) AllReadyH.nil)
        case hiA_rr7 => ((simp only [List.getElem?_toArray, List.getElem?_cons_succ, List.getElem?_cons_zero]); rfl)
        case hiB_rr7 => ((simp only [List.getElem?_toArray, List.getElem?_cons_succ, List.getElem?_cons_zero]); rfl)
        case restA_rr7 =>
          go_simp
          (go_at_call 19; (with_reducible refine (CD.out _ F (HWA.out.later (belDrew (Below.refl _ _))) (HRI.out.later (belDrew (Below.refl _ _))) (belDrew hbel)).mono ?_); rintro e wq ⟨v9, rfl, hj⟩; obtain ⟨G, g1, g2, g3, _, g5, g6⟩ := hj; have HG1 := Lib.hid g1; have HG2 := Lib.hid g2; have HG3 := Lib.hid g3; have HG5 := Lib.hid g5; have HG6 := Lib.hid g6; obtain ⟨oa1, oc1, ba1, bc1, ia1, ic1, rfl, hO1, hL1, hI1, hN1⟩ := g2; have hbo1 := hO1.2; have hbb1 := hL1.2; have hbi1 := hI1.2; have HRI1 := Lib.hid hI1; clear hO1 hL1 hI1 hN1; have HMQ := Lib.hid ((HMB.out.later (belDrew (Below.refl _ _))).apart g5 HNF.out); clear g1 g3 g5 g6)
          try go_simp
          refine hK.out _ _ (by exact ⟨HMQ.out, HG3.out⟩) (fun hHeld => ?_)
          clear hK K
          try simp only [Act.put, List.setIfInBounds_toArray, List.set_cons_zero, List.set_cons_succ]
          refine wpAnyH_take (i := 7) (oi := ?oi_k8) (v := ?v_k8) ?hi_k8 (by kernel_rfl) ?hf_k8 ?hr_k8 ?hQ_k8 (Or.inl ⟨?hw_k8, ?hy_k8⟩) (by assumption) ?rest_k8
          case hi_k8 => ((simp only [List.getElem?_toArray, List.getElem?_cons_succ, List.getElem?_cons_zero]); rfl)
          case hf_k8 => kernel_rfl
          case hr_k8 => kernel_rfl
          case hQ_k8 => exact fun _ _ _ h => h
          case hw_k8 => rfl
          case hy_k8 => ((intro w hSw; (try dsimp only at hSw); go_simp); all_goals (with_reducible rfl))
          try simp only [Act.put, List.setIfInBounds_toArray, List.set_cons_zero, List.set_cons_succ]
          refine wpAnyH_take (i := 8) (oi := ?oi_k9) (v := ?v_k9) ?hi_k9 (by kernel_rfl) ?hf_k9 ?hr_k9 ?hQ_k9 (Or.inl ⟨?hw_k9, ?hy_k9⟩) (by assumption) ?rest_k9
          case hi_k9 => ((simp only [List.getElem?_toArray, List.getElem?_cons_succ, List.getElem?_cons_zero]); rfl)
          case hf_k9 => kernel_rfl
          case hr_k9 => kernel_rfl
          case hQ_k9 => exact fun _ _ _ h => h
          case hw_k9 => rfl
          case hy_k9 => ((intro w hSw; (try dsimp only at hSw); go_simp); all_goals (with_reducible rfl))
          try simp only [Act.put, List.setIfInBounds_toArray, List.set_cons_zero, List.set_cons_succ]
          refine wpAnyH_take (i := 9) (oi := ?oi_k10) (v := ?v_k10) ?hi_k10 (by kernel_rfl) ?hf_k10 ?hr_k10 ?hQ_k10 (Or.inl ⟨?hw_k10, ?hy_k10⟩) (by assumption) ?rest_k10
          case hi_k10 => ((simp only [List.getElem?_toArray, List.getElem?_cons_succ, List.getElem?_cons_zero]); rfl)
          case hf_k10 => kernel_rfl
          case hr_k10 => kernel_rfl
          case hQ_k10 => exact fun _ _ _ h => h
          case hw_k10 => rfl
          case hy_k10 => ((intro w hSw; (try dsimp only at hSw); go_simp); all_goals (with_reducible rfl))
          try simp only [Act.put, List.setIfInBounds_toArray, List.set_cons_zero, List.set_cons_succ]
          refine wpAnyH_ready (rs := [10]) (by kernel_rfl) (by simp) ?_
          refine AllReadyH.cons (o := ?o1_k11) ?hi_k11 (fun K hK => ?rest_k11) AllReadyH.nil
          case hi_k11 => ((simp only [List.getElem?_toArray, List.getElem?_cons_succ, List.getElem?_cons_zero]); rfl)
          go_simp
          refine hK.out _ _ (by exact ⟨HMQ.out.later (belAlloc (Below.refl _ _) _), belAlloc HG3.out _⟩) (fun hHeld => ?_)
          clear hK K
          try simp only [Act.put, List.setIfInBounds_toArray, List.set_cons_zero, List.set_cons_succ]
          refine wpAnyH_ready (rs := [11]) (by kernel_rfl) (by simp) ?_
          refine AllReadyH.cons (o := ?o1_k12) ?hi_k12 (fun K hK => ?rest_k12) AllReadyH.nil
          case hi_k12 => ((simp only [List.getElem?_toArray, List.getElem?_cons_succ, List.getElem?_cons_zero]); rfl)
          go_simp
          refine hK.out _ _ (by exact ⟨HMQ.out.later (belAlloc (Below.refl _ _) _), belAlloc HG3.out _⟩) (fun hHeld => ?_)
          clear hK K
          try simp only [Act.put, List.setIfInBounds_toArray, List.set_cons_zero, List.set_cons_succ]
          refine wpAnyH_take (i := 12) (oi := ?oi_k13) (v := ?v_k13) ?hi_k13 (by kernel_rfl) ?hf_k13 ?hr_k13 ?hQ_k13 (Or.inl ⟨?hw_k13, ?hy_k13⟩) (by assumption) ?rest_k13
          case hi_k13 => ((simp only [List.getElem?_toArray, List.getElem?_cons_succ, List.getElem?_cons_zero]); rfl)
          case hf_k13 => kernel_rfl
          case hr_k13 => kernel_rfl
          case hQ_k13 => exact fun _ _ _ h => h
          case hw_k13 => rfl
          case hy_k13 => ((intro w hSw; (try dsimp only at hSw); go_simp); all_goals (with_reducible rfl))
          try simp only [Act.put, List.setIfInBounds_toArray, List.set_cons_zero, List.set_cons_succ]
          refine wpAnyH_done (by kernel_rfl) ?_ _
          have k9 := belAlloc (Below.refl wq.heap.size wq) (.cells #[.int .i64 N.retries, .slice oa1 N.outs.length oc1, .slice ba1 N.boxes.length bc1, .slice ia1 N.images.length ic1] 31)
          have HX9 := Lib.hid (Blk.new wq [.int .i64 N.retries, .slice oa1 N.outs.length oc1, .slice ba1 N.boxes.length bc1, .slice ia1 N.images.length ic1] 31)
          replace HG1 := Lib.hid (HG1.out.later k9)
          replace HG2 := Lib.hid (HG2.out.later k9)
          replace HMQ := Lib.hid (HMQ.out.later k9)
          replace HG3 := Lib.hid (belStep HG3.out k9)
          have HNQ := Lib.hid (show mb ∉ G from fun q => (HG6.out _ q).elim HNF.out (fun r_ => absurd HMB.out.lt (Nat.not_lt.2 r_)))
          clear k9 hHeld hbel HG5 HG6 CD
          generalize wq.alloc (.cells #[.int .i64 N.retries, .slice oa1 N.outs.length oc1, .slice ba1 N.boxes.length bc1, .slice ia1 N.images.length ic1] 31) = W9 at *
          generalize wq.heap.size = xb at *
          have x0 := HX9.out.cell (j := 0) rfl
          have x1 := HX9.out.cell (j := 1) rfl
          have x2 := HX9.out.cell (j := 2) rfl
          have x3 := HX9.out.cell (j := 3) rfl
          have z0 := HMQ.out.cell (j := 0) rfl
          have z1 := HMQ.out.cell (j := 1) rfl
          have z2 := HMQ.out.cell (j := 2) rfl
          have z3 := HMQ.out.cell (j := 3) rfl
          have zf := HMQ.out.frozen
          go_upto_region 12 with fail
          have HLW := Lib.hid (loopW_put HG1.out HG2.out HG3.out hM HNQ.out HLE.out _ _ _ _ HMQ.out (kindW _ _ _ _ _ _ _ _ _ _))
          clear x0 x1 x2 x3 z0 z1 z2 z3 zf HX9 HMQ HG1 HG2 HG3 HNQ
          generalize ((((W9.setCell ⟨mb, 0, none⟩ (.int .i64 N.retries)).setCell ⟨mb, 1, none⟩ (.slice oa1 N.outs.length oc1)).setCell ⟨mb, 2, none⟩ (.slice ba1 N.boxes.length bc1)).setCell ⟨mb, 3, none⟩ (.slice ia1 N.images.length ic1)) = W11 at *
          go_wp2
          go_roundw
          case rel => exact ⟨k + 1, by omega, by push_cast; rfl, Lib.hid (by rw [HNX.out]; exact HLW.out)⟩
          case measure => simp [intOf] <;> omega
        case restB_rr7 =>
          go_simp
          generalize hW8 : World.alloc _ (.cells #[.int .i64 0, .slice none 0 0, .slice none 0 0, .slice none 0 0] 31) = W8
          have k8 : Below wr.heap.size wr W8 := by first | exact hW8 ▸ belAlloc (Below.refl _ _) _ | exact hW8 ▸ belAlloc (belDrew (Below.refl _ _)) _
          have HZ8 := Lib.hid (show Blk W8 wr.heap.size [.int .i64 0, .slice none 0 0, .slice none 0 0, .slice none 0 0] 31 from hW8 ▸ Blk.new _ [.int .i64 0, .slice none 0 0, .slice none 0 0, .slice none 0 0] _)
          have HK8 := Lib.hid k8
          have HB8 := Lib.hid (belStep hbel k8)
          clear hW8 k8
          refine hK.out _ _ (by exact ⟨HMB.out.later (belDrew HK8.out), belDrew HB8.out⟩) (fun hHeld => ?_)
          clear hK K
          try simp only [Act.put, List.setIfInBounds_toArray, List.set_cons_zero, List.set_cons_succ]
          refine wpAnyH_ready (rs := [6]) (by kernel_rfl) (by simp) ?_
          refine AllReadyH.cons (o := ?o1_k14) ?hi_k14 (fun K hK => ?rest_k14) AllReadyH.nil
          case hi_k14 => ((simp only [List.getElem?_toArray, List.getElem?_cons_succ, List.getElem?_cons_zero]); rfl)
          go_simp
          (go_at_call 19; (with_reducible refine (CD.out _ F (HWA.out.later (belDrew HK8.out)) (HRI.out.later (belDrew HK8.out)) (belDrew HB8.out)).mono ?_); rintro e wq ⟨v9, rfl, hj⟩; obtain ⟨G, g1, g2, g3, _, g5, g6⟩ := hj; have HG1 := Lib.hid g1; have HG2 := Lib.hid g2; have HG3 := Lib.hid g3; have HG5 := Lib.hid g5; have HG6 := Lib.hid g6; obtain ⟨oa1, oc1, ba1, bc1, ia1, ic1, rfl, hO1, hL1, hI1, hN1⟩ := g2; have hbo1 := hO1.2; have hbb1 := hL1.2; have hbi1 := hI1.2; have HRI1 := Lib.hid hI1; clear hO1 hL1 hI1 hN1; have HMQ := Lib.hid ((HMB.out.later (belDrew HK8.out)).apart g5 HNF.out); have HZQ := Lib.hid ((HZ8.out.later (belDrew (Below.refl _ _))).apart g5 (fun q => absurd (HWA.out.foot_lt _ q).2 (by omega))); clear g1 g3 g5 g6)
          try go_simp
          refine hK.out _ _ (by exact ⟨HMQ.out, HG3.out⟩) (fun hHeld => ?_)
          clear hK K
          try simp only [Act.put, List.setIfInBounds_toArray, List.set_cons_zero, List.set_cons_succ]
          refine wpAnyH_take (i := 7) (oi := ?oi_k15) (v := ?v_k15) ?hi_k15 (by kernel_rfl) ?hf_k15 ?hr_k15 ?hQ_k15 (Or.inl ⟨?hw_k15, ?hy_k15⟩) (by assumption) ?rest_k15
          case hi_k15 => ((simp only [List.getElem?_toArray, List.getElem?_cons_succ, List.getElem?_cons_zero]); rfl)
          case hf_k15 => kernel_rfl
          case hr_k15 => kernel_rfl
          case hQ_k15 => exact fun _ _ _ h => h
          case hw_k15 => rfl
          case hy_k15 => ((intro w hSw; (try dsimp only at hSw); go_simp); all_goals (with_reducible rfl))
          try simp only [Act.put, List.setIfInBounds_toArray, List.set_cons_zero, List.set_cons_succ]
          refine wpAnyH_take (i := 8) (oi := ?oi_k16) (v := ?v_k16) ?hi_k16 (by kernel_rfl) ?hf_k16 ?hr_k16 ?hQ_k16 (Or.inl ⟨?hw_k16, ?hy_k16⟩) (by assumption) ?rest_k16
          case hi_k16 => ((simp only [List.getElem?_toArray, List.getElem?_cons_succ, List.getElem?_cons_zero]); rfl)
          case hf_k16 => kernel_rfl
          case hr_k16 => kernel_rfl
          case hQ_k16 => exact fun _ _ _ h => h
          case hw_k16 => rfl
          case hy_k16 => ((intro w hSw; (try dsimp only at hSw); go_simp); all_goals (with_reducible rfl))
          try simp only [Act.put, List.setIfInBounds_toArray, List.set_cons_zero, List.set_cons_succ]
          refine wpAnyH_take (i := 9) (oi := ?oi_k17) (v := ?v_k17) ?hi_k17 (by kernel_rfl) ?hf_k17 ?hr_k17 ?hQ_k17 (Or.inl ⟨?hw_k17, ?hy_k17⟩) (by assumption) ?rest_k17
          case hi_k17 => ((simp only [List.getElem?_toArray, List.getElem?_cons_succ, List.getElem?_cons_zero]); rfl)
          case hf_k17 => kernel_rfl
          case hr_k17 => kernel_rfl
          case hQ_k17 => exact fun _ _ _ h => h
          case hw_k17 => rfl
          case hy_k17 => ((intro w hSw; (try dsimp only at hSw); go_simp); all_goals (with_reducible rfl))
          try simp only [Act.put, List.setIfInBounds_toArray, List.set_cons_zero, List.set_cons_succ]
          have hxg : wr.heap.size ∉ G := fun q => (HG6.out _ q).elim (fun r_ => absurd (HWA.out.foot_lt _ r_).2 (by omega)) (fun r_ => by have := (HZ8.out.later (belDrew (Below.refl _ _))).lt; omega)
          have hne8 : mb ≠ wr.heap.size := by have := HMB.out.lt; omega
          have HPT := Lib.hid (worlds_put HG1.out HG2.out HG3.out hxg hbel.size _ _ _ _ HZQ.out (kindW _ _ _ _ _ _ _ _ _ _) HMQ.out hne8 rfl)
          have y0 := HZQ.out.cell (j := 0) rfl
          have y1 := HZQ.out.cell (j := 1) rfl
          have y2 := HZQ.out.cell (j := 2) rfl
          have y3 := HZQ.out.cell (j := 3) rfl
          have yf := HZQ.out.frozen
          refine wpAnyH_ready (rs := [11]) (by kernel_rfl) (by simp) ?_
          refine AllReadyH.cons (o := ?o1_k18) ?hi_k18 (fun K hK => ?rest_k18) AllReadyH.nil
          case hi_k18 => ((simp only [List.getElem?_toArray, List.getElem?_cons_succ, List.getElem?_cons_zero]); rfl)
          go_simp
          refine hK.out _ _ (by exact ⟨HPT.out.2.2.2.2, HPT.out.2.2.1⟩) (fun hHeld => ?_)
          clear hK K
          try simp only [Act.put, List.setIfInBounds_toArray, List.set_cons_zero, List.set_cons_succ]
          clear y0 y1 y2 y3 yf
          refine wpAnyH_take (i := 12) (oi := ?oi_k19) (v := ?v_k19) ?hi_k19 (by kernel_rfl) ?hf_k19 ?hr_k19 ?hQ_k19 (Or.inl ⟨?hw_k19, ?hy_k19⟩) (by assumption) ?rest_k19
          case hi_k19 => ((simp only [List.getElem?_toArray, List.getElem?_cons_succ, List.getElem?_cons_zero]); rfl)
          case hf_k19 => kernel_rfl
          case hr_k19 => kernel_rfl
          case hQ_k19 => exact fun _ _ _ h => h
          case hw_k19 => rfl
          case hy_k19 => ((intro w hSw; (try dsimp only at hSw); go_simp); all_goals (with_reducible rfl))
          try simp only [Act.put, List.setIfInBounds_toArray, List.set_cons_zero, List.set_cons_succ]
          refine wpAnyH_done (by kernel_rfl) ?_ _
          have HNQ := Lib.hid (show mb ∉ G from fun q => (HG6.out _ q).elim HNF.out (fun r_ => absurd (Nat.lt_of_lt_of_le HMB.out.lt (belDrew HK8.out).size) (Nat.not_lt.2 r_)))
          have hPT := HPT.out
          clear HPT HG1 HG2 HG3 HMQ HZQ HZ8 hHeld
          generalize ((((wq.setCell ⟨wr.heap.size, 0, none⟩ (.int .i64 N.retries)).setCell ⟨wr.heap.size, 1, none⟩ (.slice oa1 N.outs.length oc1)).setCell ⟨wr.heap.size, 2, none⟩ (.slice ba1 N.boxes.length bc1)).setCell ⟨wr.heap.size, 3, none⟩ (.slice ia1 N.images.length ic1)) = W9 at *
          obtain ⟨p1, p2, p3, p4, p5⟩ := hPT
          have HG1 := Lib.hid p1
          have HG2 := Lib.hid p2
          have HG3 := Lib.hid p3
          have HX9 := Lib.hid p4
          have HMQ := Lib.hid p5
          clear p1 p2 p3 p4 p5 hxg hne8 hbel HG5 HG6 CD HK8 HB8
          generalize wr.heap.size = xb at *
          have x0 := HX9.out.cell (j := 0) rfl
          have x1 := HX9.out.cell (j := 1) rfl
          have x2 := HX9.out.cell (j := 2) rfl
          have x3 := HX9.out.cell (j := 3) rfl
          have z0 := HMQ.out.cell (j := 0) rfl
          have z1 := HMQ.out.cell (j := 1) rfl
          have z2 := HMQ.out.cell (j := 2) rfl
          have z3 := HMQ.out.cell (j := 3) rfl
          have zf := HMQ.out.frozen
          go_upto_region 12 with fail
          have HLW := Lib.hid (loopW_put HG1.out HG2.out HG3.out hM HNQ.out HLE.out _ _ _ _ HMQ.out (kindW _ _ _ _ _ _ _ _ _ _))
          clear x0 x1 x2 x3 z0 z1 z2 z3 zf HX9 HMQ HG1 HG2 HG3 HNQ
          generalize ((((W9.setCell ⟨mb, 0, none⟩ (.int .i64 N.retries)).setCell ⟨mb, 1, none⟩ (.slice oa1 N.outs.length oc1)).setCell ⟨mb, 2, none⟩ (.slice ba1 N.boxes.length bc1)).setCell ⟨mb, 3, none⟩ (.slice ia1 N.images.length ic1)) = W11 at *
          go_wp2
          go_roundw
          case rel => exact ⟨k + 1, by omega, by push_cast; rfl, Lib.hid (by rw [HNX.out]; exact HLW.out)⟩
          case measure => simp [intOf] <;> omega
      · obtain rfl : k = L.length := by omega
        have hd : decide ((L.length : Int) < (L.length : Int)) = false := decide_eq_false (by omega)
        rw [List.take_length] at HLW
        have HGM := Lib.hid (show (afterW r L).Good L.length from by have h := afterW_good (W := w) r L.length L HG.out (Nat.le_refl _); rwa [List.take_length] at h)
        obtain ⟨m, hm⟩ : ∃ m, afterW r L = m := ⟨_, rfl⟩
        rw [hm] at HLW HGM
        clear hm
        replace HLW := Lib.hid (LoopW.wl HLW.out)
        generalize wr = W14 at *
        have hgn : L.length ≤ 100000 := by omega
        have C1 := Lib.hid (fun u (h : WL w u M [] m) => wl_Containers w u M [] m L.length h HGM.out hgn m.boxes.length rfl)
        have C2 := Lib.hid (fun u (h : WL w u M [] m) => wl_Images w u M [] m L.length h HGM.out hgn m.images.length rfl)
        go_upto_region 15 with (go_at_call 23; (with_reducible refine (C1.out _ HLW.out).mono ?_); rintro e w15 ⟨a1, c1, rfl, ho_, _, hS_, hb_⟩; have HO1 := Lib.hid ho_; have HBB1 := Lib.hid hb_; have HS15 := Lib.hid hS_; clear ho_ hS_ hb_)
        go_upto_region 16 with (go_at_call 24; (with_reducible refine (C2.out _ HS15.out).mono ?_); rintro e w16 ⟨a2, c2, rfl, ho_, _, hS_, hb_⟩; have HAP := Lib.hid (ApS.start HLW.out HBB1.out HO1.out hb_ ho_); clear ho_ hS_ hb_)
        clear C1 C2 HO1 HBB1 HS15 HLW
        generalize w16 = W16 at *
        have HRF := Lib.hid (row_new W16 [.bool well] 4 1 1 rfl (by unfold maxLen; omega))
        replace HAP := Lib.hid (HAP.out.later (belAlloc (Below.refl _ _) (.cells #[.bool well] 4)))
        obtain ⟨v1, hv1⟩ : ∃ v : Value, v = .slice a1 m.boxes.length c1 := ⟨_, rfl⟩
        obtain ⟨v2, hv2⟩ : ∃ v : Value, v = .slice a2 m.images.length c2 := ⟨_, rfl⟩
        rw [← hv1, ← hv2] at HAP
        have HV1 := Lib.hid hv1
        have HV2 := Lib.hid hv2
        clear hv1 hv2
        obtain ⟨q1, hq1⟩ : ∃ q, feedE m [well] = q := ⟨_, rfl⟩
        obtain ⟨m1, hm1⟩ : ∃ q, m.fed [well] = q := ⟨_, rfl⟩
        obtain ⟨q2, hq2⟩ : ∃ q, askC m1 ⟨#[97]⟩ what = q := ⟨_, rfl⟩
        obtain ⟨b2, hb2⟩ : ∃ q, askB m1 ⟨#[97]⟩ what = q := ⟨_, rfl⟩
        obtain ⟨m2, hm2⟩ : ∃ q, askW m1 ⟨#[97]⟩ what round = q := ⟨_, rfl⟩
        obtain ⟨q3, hq3⟩ : ∃ q, dropC m2 ⟨#[119, 101, 98]⟩ = q := ⟨_, rfl⟩
        obtain ⟨b3, hb3⟩ : ∃ q, dropB m2 ⟨#[119, 101, 98]⟩ = q := ⟨_, rfl⟩
        obtain ⟨m3, hm3⟩ : ∃ q, dropW m2 ⟨#[119, 101, 98]⟩ = q := ⟨_, rfl⟩
        have HM3 := Lib.hid (show apartW m well what round = m3 from by unfold apartW; rw [hm1, hm2, hm3])
        have g1 := hm1 ▸ good_fed HGM.out [well]
        have g2 := hm2 ▸ good_ask g1 ⟨#[97]⟩ what hrI
        have g3 := hm3 ▸ good_drop g2 ⟨#[119, 101, 98]⟩
        have HG3 := Lib.hid g3
        have D1 := Lib.hid (fun u (h : ApS w u M v1 v2 m.boxes m.images m) d c hr => wl_Feed w u M _ m L.length h.1 HGM.out hgn d 1 c [well] q1 m1 rfl hr (by omega) hq1 hm1)
        have D2 := Lib.hid (fun u (h : ApS w u M v1 v2 m.boxes m.images m1) => wl_Ask w u M _ m1 L.length h.1 g1 hgn ⟨#[97]⟩ what round q2 b2 m2 hwI hq2 hb2 hm2)
        have D3 := Lib.hid (fun u (h : ApS w u M v1 v2 m.boxes m.images m2) => wl_Drop w u M _ m2 L.length h.1 g2 hgn ⟨#[119, 101, 98]⟩ q3 b3 m3 hq3 hb3 hm3)
        clear hq1 hm1 hq2 hb2 hm2 hq3 hb3 hm3 g1 g2 g3
        go_upto_region 17 with (go_at_call 25; (with_reducible refine (D1.out _ HAP.out _ _ HRF.out).mono ?_); rintro e w17 ⟨rfl, hS_, hK_, hz_⟩; replace HAP := Lib.hid (HAP.out.call hS_ hK_); clear hS_ hK_ hz_)
        clear HRF D1
        go_upto_region 18 with (go_at_call 26; (with_reducible refine (D2.out _ HAP.out).mono ?_); rintro e w18 ⟨rfl, hS_, hK_, hz_⟩; replace HAP := Lib.hid (HAP.out.call hS_ hK_); clear hS_ hK_ hz_)
        clear D2
        go_upto_region 19 with (go_at_call 27; (with_reducible refine (D3.out _ HAP.out).mono ?_); rintro e w19 ⟨rfl, hS_, hK_, hz_⟩; replace HAP := Lib.hid (HAP.out.call hS_ hK_); clear hS_ hK_ hz_)
        clear D3
        generalize w19 = W19 at *
        have HWL := Lib.hid (show WL w W19 M [] m3 from HAP.out.1.sub (fun y hy => by cases hy))
        have HR1 := Lib.hid (show Row W19 a1 m.boxes.length c1 4 (m.boxes.flatMap ContV.cells) from by have h := HAP.out.2.1; rw [HV1.out] at h; exact own_row h)
        have HR9 := Lib.hid (show Row W19 a2 m.images.length c2 3 (m.images.flatMap ImgV.cells) from by have h := HAP.out.2.2; rw [HV2.out] at h; exact own_row h)
        clear HAP HV1 HV2
        have hb10 := HR1.out.2.1
        have hb11 : c1 ≤ 9223372036854775807 := by have h_ := HR1.out.2.2.1; unfold maxLen at h_; exact h_
        have hb20 := HR9.out.2.1
        have hb21 : c2 ≤ 9223372036854775807 := by have h_ := HR9.out.2.2.1; unfold maxLen at h_; exact h_
        have hmb := HGM.out.len
        have hmi := HGM.out.lenI
        have hbel : Below W19.heap.size W19 W19 := Below.refl _ _
        go_wp2
        go_loopw [16] (fun iv wr => ∃ k : Nat, k ≤ m.boxes.length ∧ iv = .int .i64 k ∧ Below W19.heap.size W19 wr) (fun iv _ => m.boxes.length - (intOf iv).toNat)
        case atStart => exact ⟨0, Nat.zero_le _, rfl, hbel⟩
        case round =>
          clear hbel
          obtain ⟨k, hk, rfl, hbel⟩ := hrel
          by_cases hlt : k < m.boxes.length
          · have hd : decide ((k : Int) < (m.boxes.length : Int)) = true := decide_eq_true (by omega)
            have hki : (k : Int) < (m.boxes.length : Int) := by omega
            have hk0 : (0 : Int) ≤ (k : Int) := by omega
            obtain ⟨x, hx⟩ : ∃ x, m.boxes[k]? = some x := ⟨m.boxes[k], List.getElem?_eq_getElem hlt⟩
            obtain ⟨bc, oc, ec, _, hcc⟩ := (HR1.out).elem ContV.cells_len (by omega) hx
            subst ec
            have c0 := keep (hcc 0 _ rfl)
            have c1 := keep (hcc 1 _ rfl)
            have c2 := keep (hcc 2 _ rfl)
            have c3 := keep (hcc 3 _ rfl)
            rw [Nat.add_zero] at c0
            have HQ := Lib.hid (fun hne => HM3.out ▸ apart_box HGM.out well what hrI (List.mem_of_getElem? hx) hne)
            clear hx hcc
            obtain ⟨t, ht⟩ : ∃ t, thereC m3.boxes x.id = t := ⟨_, rfl⟩
            obtain ⟨y, hy⟩ : ∃ y, fndC m3.boxes x.id = y := ⟨_, rfl⟩
            have CB := Lib.hid (fun u (hu : Below W19.heap.size W19 u) => show Calls Try.prog 20 #[.pointer (some ⟨M, 0, none⟩), .string x.id] u fun e w' => e = .returned (.tuple #[.agg #[.int .i64 y.state, .int .i64 y.tries], .bool t]) ∧ Below u.heap.size u w' from by have h := wl_Box w u M [] m3 L.length (HWL.out.later hu) HG3.out hgn x.id t y.state y.tries ht (by rw [hy]) (by rw [hy]); exact h.mono (fun e w' q => ⟨q.1, q.2.2⟩))
            rw [ht, hy] at HQ
            clear ht hy
            go_upto_region 23 with (go_at_call 20; (with_reducible refine (CB.out _ hbel).mono ?_); rintro e wb ⟨rfl, hb_⟩; have HB1 := Lib.hid (belStep hbel hb_); clear hb_)
            have HB2 := Lib.hid (show Below W19.heap.size W19 (wb.alloc (.cells #[.int .i64 y.state, .int .i64 y.tries] 38)) from belStep HB1.out (belAlloc (Below.refl _ _) _))
            have HBX := Lib.hid (Blk.new wb [.int .i64 y.state, .int .i64 y.tries] 38)
            generalize (wb.alloc (.cells #[.int .i64 y.state, .int .i64 y.tries] 38)) = W12 at *
            generalize wb.heap.size = bx at *
            clear HB1 CB hbel
            replace c0 := keepOnP c0 HB2.out
            replace c1 := keepOnP c1 HB2.out
            replace c2 := keepOnP c2 HB2.out
            replace c3 := keepOnP c3 HB2.out
            have b0 := keep (HBX.out.cell (j := 0) rfl)
            have b1 := keep (HBX.out.cell (j := 1) rfl)
            have hbel : Below W12.heap.size W12 W12 := Below.refl _ _
            cases hqa : (x.id.toList == (⟨#[97]⟩ : ByteArray).toList) with
            | true =>
              have hq2 : x.id.toList = (⟨#[97]⟩ : ByteArray).toList := by simpa using hqa
              have hq3 : (x.id.toList == ([97] : List UInt8)) = true := by rw [← show (⟨#[97]⟩ : ByteArray).toList = [97] by decide +kernel]; exact hqa
              refine wp_region_held_drew (S := fun u => Below W12.heap.size W12 u) (by kernel_rfl) (by exact (show Below W12.heap.size W12 _ by repeat (first | assumption | exact Below.refl _ _ | refine belDrew ?_ | refine belAlloc ?_ _ | refine belStep ?_ (by assumption)))) (fun hHeld => ?_)
              refine wpAnyH_take (i := 0) (oi := ?oi_k20) (v := ?v_k20) ?hi_k20 (by kernel_rfl) ?hf_k20 ?hr_k20 ?hQ_k20 (Or.inl ⟨?hw_k20, ?hy_k20⟩) (by assumption) ?rest_k20
              case hi_k20 => ((simp only [List.getElem?_toArray, List.getElem?_cons_succ, List.getElem?_cons_zero]); rfl)
              case hf_k20 => kernel_rfl
              case hr_k20 => kernel_rfl
              case hQ_k20 => exact fun _ _ _ h => h
              case hw_k20 => rfl
              case hy_k20 => ((intro w hSw; (try dsimp only at hSw); go_simp); all_goals (with_reducible rfl))
              try simp only [Act.put, List.setIfInBounds_toArray, List.set_cons_zero, List.set_cons_succ]
              refine wpAnyH_take (i := 1) (oi := ?oi_k21) (v := ?v_k21) ?hi_k21 (by kernel_rfl) ?hf_k21 ?hr_k21 ?hQ_k21 (Or.inl ⟨?hw_k21, ?hy_k21⟩) (by assumption) ?rest_k21
              case hi_k21 => ((simp only [List.getElem?_toArray, List.getElem?_cons_succ, List.getElem?_cons_zero]); rfl)
              case hf_k21 => kernel_rfl
              case hr_k21 => kernel_rfl
              case hQ_k21 => exact fun _ _ _ h => h
              case hw_k21 => rfl
              case hy_k21 => ((intro w hSw; (try dsimp only at hSw); go_simp); all_goals (with_reducible rfl))
              try simp only [Act.put, List.setIfInBounds_toArray, List.set_cons_zero, List.set_cons_succ]
              refine wpAnyH_take (i := 2) (oi := ?oi_k22) (v := ?v_k22) ?hi_k22 (by kernel_rfl) ?hf_k22 ?hr_k22 ?hQ_k22 (Or.inl ⟨?hw_k22, ?hy_k22⟩) (by assumption) ?rest_k22
              case hi_k22 => ((simp only [List.getElem?_toArray, List.getElem?_cons_succ, List.getElem?_cons_zero]); rfl)
              case hf_k22 => kernel_rfl
              case hr_k22 => kernel_rfl
              case hQ_k22 => exact fun _ _ _ h => h
              case hw_k22 => rfl
              case hy_k22 => ((intro w hSw; (try dsimp only at hSw); go_simp); all_goals (with_reducible rfl))
              try simp only [Act.put, List.setIfInBounds_toArray, List.set_cons_zero, List.set_cons_succ]
              refine wpAnyH_take (i := 3) (oi := ?oi_k23) (v := ?v_k23) ?hi_k23 (by kernel_rfl) ?hf_k23 ?hr_k23 ?hQ_k23 (Or.inl ⟨?hw_k23, ?hy_k23⟩) (by assumption) ?rest_k23
              case hi_k23 => ((simp only [List.getElem?_toArray, List.getElem?_cons_succ, List.getElem?_cons_zero]); rfl)
              case hf_k23 => kernel_rfl
              case hr_k23 => kernel_rfl
              case hQ_k23 => exact fun _ _ _ h => h
              case hw_k23 => rfl
              case hy_k23 => ((intro w hSw; (try dsimp only at hSw); go_simp); all_goals (with_reducible rfl))
              try simp only [Act.put, List.setIfInBounds_toArray, List.set_cons_zero, List.set_cons_succ]
              refine wpAnyH_take (i := 4) (oi := ?oi_k24) (v := ?v_k24) ?hi_k24 (by kernel_rfl) ?hf_k24 ?hr_k24 ?hQ_k24 (Or.inl ⟨?hw_k24, ?hy_k24⟩) (by assumption) ?rest_k24
              case hi_k24 => ((simp only [List.getElem?_toArray, List.getElem?_cons_succ, List.getElem?_cons_zero]); rfl)
              case hf_k24 => kernel_rfl
              case hr_k24 => kernel_rfl
              case hQ_k24 => exact fun _ _ _ h => h
              case hw_k24 => rfl
              case hy_k24 => ((intro w hSw; (try dsimp only at hSw); go_simp); all_goals (with_reducible rfl))
              try simp only [Act.put, List.setIfInBounds_toArray, List.set_cons_zero, List.set_cons_succ]
              refine wpAnyH_take (i := 5) (oi := ?oi_k25) (v := ?v_k25) ?hi_k25 (by kernel_rfl) ?hf_k25 ?hr_k25 ?hQ_k25 (Or.inl ⟨?hw_k25, ?hy_k25⟩) (by assumption) ?rest_k25
              case hi_k25 => ((simp only [List.getElem?_toArray, List.getElem?_cons_succ, List.getElem?_cons_zero]); rfl)
              case hf_k25 => kernel_rfl
              case hr_k25 => kernel_rfl
              case hQ_k25 => exact fun _ _ _ h => h
              case hw_k25 => rfl
              case hy_k25 => ((intro w hSw; (try dsimp only at hSw); go_simp); all_goals (with_reducible rfl))
              try simp only [Act.put, List.setIfInBounds_toArray, List.set_cons_zero, List.set_cons_succ]
              refine wpAnyH_take (i := 6) (oi := ?oi_k26) (v := ?v_k26) ?hi_k26 (by kernel_rfl) ?hf_k26 ?hr_k26 ?hQ_k26 (Or.inl ⟨?hw_k26, ?hy_k26⟩) (by assumption) ?rest_k26
              case hi_k26 => ((simp only [List.getElem?_toArray, List.getElem?_cons_succ, List.getElem?_cons_zero]); rfl)
              case hf_k26 => kernel_rfl
              case hr_k26 => kernel_rfl
              case hQ_k26 => exact fun _ _ _ h => h
              case hw_k26 => rfl
              case hy_k26 => ((intro w hSw; (try dsimp only at hSw); go_simp); all_goals (with_reducible rfl))
              try simp only [Act.put, List.setIfInBounds_toArray, List.set_cons_zero, List.set_cons_succ]
              refine wpAnyH_take (i := 7) (oi := ?oi_k27) (v := undef) ?hi_k27 (by kernel_rfl) ?hf_k27 ?hr_k27 ?hQ_k27 (Or.inr ⟨?hw_k27, rfl⟩) (by assumption) ?rest_k27
              case hi_k27 => ((simp only [List.getElem?_toArray, List.getElem?_cons_succ, List.getElem?_cons_zero]); rfl)
              case hf_k27 => kernel_rfl
              case hr_k27 => kernel_rfl
              case hQ_k27 => exact fun _ _ _ h => h
              case hw_k27 => rfl
              try simp only [Act.put, List.setIfInBounds_toArray, List.set_cons_zero, List.set_cons_succ]
              refine wpAnyH_take (i := 8) (oi := ?oi_k28) (v := undef) ?hi_k28 (by kernel_rfl) ?hf_k28 ?hr_k28 ?hQ_k28 (Or.inr ⟨?hw_k28, rfl⟩) (by assumption) ?rest_k28
              case hi_k28 => ((simp only [List.getElem?_toArray, List.getElem?_cons_succ, List.getElem?_cons_zero]); rfl)
              case hf_k28 => kernel_rfl
              case hr_k28 => kernel_rfl
              case hQ_k28 => exact fun _ _ _ h => h
              case hw_k28 => rfl
              try simp only [Act.put, List.setIfInBounds_toArray, List.set_cons_zero, List.set_cons_succ]
              refine wpAnyH_take (i := 9) (oi := ?oi_k29) (v := undef) ?hi_k29 (by kernel_rfl) ?hf_k29 ?hr_k29 ?hQ_k29 (Or.inr ⟨?hw_k29, rfl⟩) (by assumption) ?rest_k29
              case hi_k29 => ((simp only [List.getElem?_toArray, List.getElem?_cons_succ, List.getElem?_cons_zero]); rfl)
              case hf_k29 => kernel_rfl
              case hr_k29 => kernel_rfl
              case hQ_k29 => exact fun _ _ _ h => h
              case hw_k29 => rfl
              try simp only [Act.put, List.setIfInBounds_toArray, List.set_cons_zero, List.set_cons_succ]
              refine wpAnyH_take (i := 10) (oi := ?oi_k30) (v := undef) ?hi_k30 (by kernel_rfl) ?hf_k30 ?hr_k30 ?hQ_k30 (Or.inr ⟨?hw_k30, rfl⟩) (by assumption) ?rest_k30
              case hi_k30 => ((simp only [List.getElem?_toArray, List.getElem?_cons_succ, List.getElem?_cons_zero]); rfl)
              case hf_k30 => kernel_rfl
              case hr_k30 => kernel_rfl
              case hQ_k30 => exact fun _ _ _ h => h
              case hw_k30 => rfl
              try simp only [Act.put, List.setIfInBounds_toArray, List.set_cons_zero, List.set_cons_succ]
              refine wpAnyH_take (i := 11) (oi := ?oi_k31) (v := undef) ?hi_k31 (by kernel_rfl) ?hf_k31 ?hr_k31 ?hQ_k31 (Or.inr ⟨?hw_k31, rfl⟩) (by assumption) ?rest_k31
              case hi_k31 => ((simp only [List.getElem?_toArray, List.getElem?_cons_succ, List.getElem?_cons_zero]); rfl)
              case hf_k31 => kernel_rfl
              case hr_k31 => kernel_rfl
              case hQ_k31 => exact fun _ _ _ h => h
              case hw_k31 => rfl
              try simp only [Act.put, List.setIfInBounds_toArray, List.set_cons_zero, List.set_cons_succ]
              refine wpAnyH_take (i := 12) (oi := ?oi_k32) (v := undef) ?hi_k32 (by kernel_rfl) ?hf_k32 ?hr_k32 ?hQ_k32 (Or.inr ⟨?hw_k32, rfl⟩) (by assumption) ?rest_k32
              case hi_k32 => ((simp only [List.getElem?_toArray, List.getElem?_cons_succ, List.getElem?_cons_zero]); rfl)
              case hf_k32 => kernel_rfl
              case hr_k32 => kernel_rfl
              case hQ_k32 => exact fun _ _ _ h => h
              case hw_k32 => rfl
              try simp only [Act.put, List.setIfInBounds_toArray, List.set_cons_zero, List.set_cons_succ]
              refine wpAnyH_take (i := 13) (oi := ?oi_k33) (v := undef) ?hi_k33 (by kernel_rfl) ?hf_k33 ?hr_k33 ?hQ_k33 (Or.inr ⟨?hw_k33, rfl⟩) (by assumption) ?rest_k33
              case hi_k33 => ((simp only [List.getElem?_toArray, List.getElem?_cons_succ, List.getElem?_cons_zero]); rfl)
              case hf_k33 => kernel_rfl
              case hr_k33 => kernel_rfl
              case hQ_k33 => exact fun _ _ _ h => h
              case hw_k33 => rfl
              try simp only [Act.put, List.setIfInBounds_toArray, List.set_cons_zero, List.set_cons_succ]
              refine wpAnyH_take (i := 14) (oi := ?oi_k34) (v := undef) ?hi_k34 (by kernel_rfl) ?hf_k34 ?hr_k34 ?hQ_k34 (Or.inr ⟨?hw_k34, rfl⟩) (by assumption) ?rest_k34
              case hi_k34 => ((simp only [List.getElem?_toArray, List.getElem?_cons_succ, List.getElem?_cons_zero]); rfl)
              case hf_k34 => kernel_rfl
              case hr_k34 => kernel_rfl
              case hQ_k34 => exact fun _ _ _ h => h
              case hw_k34 => rfl
              try simp only [Act.put, List.setIfInBounds_toArray, List.set_cons_zero, List.set_cons_succ]
              refine wpAnyH_take (i := 15) (oi := ?oi_k35) (v := undef) ?hi_k35 (by kernel_rfl) ?hf_k35 ?hr_k35 ?hQ_k35 (Or.inr ⟨?hw_k35, rfl⟩) (by assumption) ?rest_k35
              case hi_k35 => ((simp only [List.getElem?_toArray, List.getElem?_cons_succ, List.getElem?_cons_zero]); rfl)
              case hf_k35 => kernel_rfl
              case hr_k35 => kernel_rfl
              case hQ_k35 => exact fun _ _ _ h => h
              case hw_k35 => rfl
              try simp only [Act.put, List.setIfInBounds_toArray, List.set_cons_zero, List.set_cons_succ]
              refine wpAnyH_take (i := 16) (oi := ?oi_k36) (v := undef) ?hi_k36 (by kernel_rfl) ?hf_k36 ?hr_k36 ?hQ_k36 (Or.inr ⟨?hw_k36, rfl⟩) (by assumption) ?rest_k36
              case hi_k36 => ((simp only [List.getElem?_toArray, List.getElem?_cons_succ, List.getElem?_cons_zero]); rfl)
              case hf_k36 => kernel_rfl
              case hr_k36 => kernel_rfl
              case hQ_k36 => exact fun _ _ _ h => h
              case hw_k36 => rfl
              try simp only [Act.put, List.setIfInBounds_toArray, List.set_cons_zero, List.set_cons_succ]
              refine wpAnyH_take (i := 17) (oi := ?oi_k37) (v := undef) ?hi_k37 (by kernel_rfl) ?hf_k37 ?hr_k37 ?hQ_k37 (Or.inr ⟨?hw_k37, rfl⟩) (by assumption) ?rest_k37
              case hi_k37 => ((simp only [List.getElem?_toArray, List.getElem?_cons_succ, List.getElem?_cons_zero]); rfl)
              case hf_k37 => kernel_rfl
              case hr_k37 => kernel_rfl
              case hQ_k37 => exact fun _ _ _ h => h
              case hw_k37 => rfl
              try simp only [Act.put, List.setIfInBounds_toArray, List.set_cons_zero, List.set_cons_succ]
              refine wpAnyH_take (i := 18) (oi := ?oi_k38) (v := ?v_k38) ?hi_k38 (by kernel_rfl) ?hf_k38 ?hr_k38 ?hQ_k38 (Or.inl ⟨?hw_k38, ?hy_k38⟩) (by assumption) ?rest_k38
              case hi_k38 => ((simp only [List.getElem?_toArray, List.getElem?_cons_succ, List.getElem?_cons_zero]); rfl)
              case hf_k38 => kernel_rfl
              case hr_k38 => kernel_rfl
              case hQ_k38 => exact fun _ _ _ h => h
              case hw_k38 => rfl
              case hy_k38 => ((intro w hSw; (try dsimp only at hSw); go_simp); all_goals (with_reducible rfl))
              try simp only [Act.put, List.setIfInBounds_toArray, List.set_cons_zero, List.set_cons_succ]
              refine wpAnyH_done (by kernel_rfl) ?_ _
              go_wp2
              go_roundw
              case rel => exact ⟨k + 1, by omega, by push_cast; rfl, belStep HB2.out hHeld⟩
              case measure => simp [intOf] <;> omega
            | false =>
              have hq2 : x.id.toList ≠ (⟨#[97]⟩ : ByteArray).toList := by simpa using hqa
              have hq3 : (x.id.toList == ([97] : List UInt8)) = false := by rw [← show (⟨#[97]⟩ : ByteArray).toList = [97] by decide +kernel]; exact hqa
              obtain ⟨rfl, hyx⟩ := HQ.out hqa
              subst hyx
              have heq := fun u : World => show (Op.equalIn 10000 38 (.agg #[.int .i64 y.state, .int .i64 y.tries]) (.agg #[.int .i64 y.state, .int .i64 y.tries])).run Try.prog u = .ok true u from (eq_box y.state y.tries y.state y.tries u).trans (by simp)
              refine wp_region_held_drew (S := fun u => Below W12.heap.size W12 u) (by kernel_rfl) (by exact (show Below W12.heap.size W12 _ by repeat (first | assumption | exact Below.refl _ _ | refine belDrew ?_ | refine belAlloc ?_ _ | refine belStep ?_ (by assumption)))) (fun hHeld => ?_)
              refine wpAnyH_take (i := 0) (oi := ?oi_k39) (v := ?v_k39) ?hi_k39 (by kernel_rfl) ?hf_k39 ?hr_k39 ?hQ_k39 (Or.inl ⟨?hw_k39, ?hy_k39⟩) (by assumption) ?rest_k39
              case hi_k39 => ((simp only [List.getElem?_toArray, List.getElem?_cons_succ, List.getElem?_cons_zero]); rfl)
              case hf_k39 => kernel_rfl
              case hr_k39 => kernel_rfl
              case hQ_k39 => exact fun _ _ _ h => h
              case hw_k39 => rfl
              case hy_k39 => ((intro w hSw; (try dsimp only at hSw); go_simp); all_goals (with_reducible rfl))
              try simp only [Act.put, List.setIfInBounds_toArray, List.set_cons_zero, List.set_cons_succ]
              refine wpAnyH_take (i := 1) (oi := ?oi_k40) (v := ?v_k40) ?hi_k40 (by kernel_rfl) ?hf_k40 ?hr_k40 ?hQ_k40 (Or.inl ⟨?hw_k40, ?hy_k40⟩) (by assumption) ?rest_k40
              case hi_k40 => ((simp only [List.getElem?_toArray, List.getElem?_cons_succ, List.getElem?_cons_zero]); rfl)
              case hf_k40 => kernel_rfl
              case hr_k40 => kernel_rfl
              case hQ_k40 => exact fun _ _ _ h => h
              case hw_k40 => rfl
              case hy_k40 => ((intro w hSw; (try dsimp only at hSw); go_simp); all_goals (with_reducible rfl))
              try simp only [Act.put, List.setIfInBounds_toArray, List.set_cons_zero, List.set_cons_succ]
              refine wpAnyH_take (i := 2) (oi := ?oi_k41) (v := ?v_k41) ?hi_k41 (by kernel_rfl) ?hf_k41 ?hr_k41 ?hQ_k41 (Or.inl ⟨?hw_k41, ?hy_k41⟩) (by assumption) ?rest_k41
              case hi_k41 => ((simp only [List.getElem?_toArray, List.getElem?_cons_succ, List.getElem?_cons_zero]); rfl)
              case hf_k41 => kernel_rfl
              case hr_k41 => kernel_rfl
              case hQ_k41 => exact fun _ _ _ h => h
              case hw_k41 => rfl
              case hy_k41 => ((intro w hSw; (try dsimp only at hSw); go_simp); all_goals (with_reducible rfl))
              try simp only [Act.put, List.setIfInBounds_toArray, List.set_cons_zero, List.set_cons_succ]
              refine wpAnyH_take (i := 3) (oi := ?oi_k42) (v := ?v_k42) ?hi_k42 (by kernel_rfl) ?hf_k42 ?hr_k42 ?hQ_k42 (Or.inl ⟨?hw_k42, ?hy_k42⟩) (by assumption) ?rest_k42
              case hi_k42 => ((simp only [List.getElem?_toArray, List.getElem?_cons_succ, List.getElem?_cons_zero]); rfl)
              case hf_k42 => kernel_rfl
              case hr_k42 => kernel_rfl
              case hQ_k42 => exact fun _ _ _ h => h
              case hw_k42 => rfl
              case hy_k42 => ((intro w hSw; (try dsimp only at hSw); go_simp); all_goals (with_reducible rfl))
              try simp only [Act.put, List.setIfInBounds_toArray, List.set_cons_zero, List.set_cons_succ]
              refine wpAnyH_take (i := 4) (oi := ?oi_k43) (v := ?v_k43) ?hi_k43 (by kernel_rfl) ?hf_k43 ?hr_k43 ?hQ_k43 (Or.inl ⟨?hw_k43, ?hy_k43⟩) (by assumption) ?rest_k43
              case hi_k43 => ((simp only [List.getElem?_toArray, List.getElem?_cons_succ, List.getElem?_cons_zero]); rfl)
              case hf_k43 => kernel_rfl
              case hr_k43 => kernel_rfl
              case hQ_k43 => exact fun _ _ _ h => h
              case hw_k43 => rfl
              case hy_k43 => ((intro w hSw; (try dsimp only at hSw); go_simp); all_goals (with_reducible rfl))
              try simp only [Act.put, List.setIfInBounds_toArray, List.set_cons_zero, List.set_cons_succ]
              refine wpAnyH_take (i := 5) (oi := ?oi_k44) (v := ?v_k44) ?hi_k44 (by kernel_rfl) ?hf_k44 ?hr_k44 ?hQ_k44 (Or.inl ⟨?hw_k44, ?hy_k44⟩) (by assumption) ?rest_k44
              case hi_k44 => ((simp only [List.getElem?_toArray, List.getElem?_cons_succ, List.getElem?_cons_zero]); rfl)
              case hf_k44 => kernel_rfl
              case hr_k44 => kernel_rfl
              case hQ_k44 => exact fun _ _ _ h => h
              case hw_k44 => rfl
              case hy_k44 => ((intro w hSw; (try dsimp only at hSw); go_simp); all_goals (with_reducible rfl))
              try simp only [Act.put, List.setIfInBounds_toArray, List.set_cons_zero, List.set_cons_succ]
              refine wpAnyH_take (i := 6) (oi := ?oi_k45) (v := ?v_k45) ?hi_k45 (by kernel_rfl) ?hf_k45 ?hr_k45 ?hQ_k45 (Or.inl ⟨?hw_k45, ?hy_k45⟩) (by assumption) ?rest_k45
              case hi_k45 => ((simp only [List.getElem?_toArray, List.getElem?_cons_succ, List.getElem?_cons_zero]); rfl)
              case hf_k45 => kernel_rfl
              case hr_k45 => kernel_rfl
              case hQ_k45 => exact fun _ _ _ h => h
              case hw_k45 => rfl
              case hy_k45 => ((intro w hSw; (try dsimp only at hSw); go_simp); all_goals (with_reducible rfl))
              try simp only [Act.put, List.setIfInBounds_toArray, List.set_cons_zero, List.set_cons_succ]
              refine wpAnyH_take (i := 7) (oi := ?oi_k46) (v := ?v_k46) ?hi_k46 (by kernel_rfl) ?hf_k46 ?hr_k46 ?hQ_k46 (Or.inl ⟨?hw_k46, ?hy_k46⟩) (by assumption) ?rest_k46
              case hi_k46 => ((simp only [List.getElem?_toArray, List.getElem?_cons_succ, List.getElem?_cons_zero]); rfl)
              case hf_k46 => kernel_rfl
              case hr_k46 => kernel_rfl
              case hQ_k46 => exact fun _ _ _ h => h
              case hw_k46 => rfl
              case hy_k46 => ((intro w hSw; (try dsimp only at hSw); go_simp); all_goals (with_reducible rfl))
              try simp only [Act.put, List.setIfInBounds_toArray, List.set_cons_zero, List.set_cons_succ]
              refine wpAnyH_take (i := 8) (oi := ?oi_k47) (v := ?v_k47) ?hi_k47 (by kernel_rfl) ?hf_k47 ?hr_k47 ?hQ_k47 (Or.inl ⟨?hw_k47, ?hy_k47⟩) (by assumption) ?rest_k47
              case hi_k47 => ((simp only [List.getElem?_toArray, List.getElem?_cons_succ, List.getElem?_cons_zero]); rfl)
              case hf_k47 => kernel_rfl
              case hr_k47 => kernel_rfl
              case hQ_k47 => exact fun _ _ _ h => h
              case hw_k47 => rfl
              case hy_k47 => ((intro w hSw; (try dsimp only at hSw); go_simp); all_goals (with_reducible rfl))
              try simp only [Act.put, List.setIfInBounds_toArray, List.set_cons_zero, List.set_cons_succ]
              refine wpAnyH_take (i := 9) (oi := ?oi_k48) (v := ?v_k48) ?hi_k48 (by kernel_rfl) ?hf_k48 ?hr_k48 ?hQ_k48 (Or.inl ⟨?hw_k48, ?hy_k48⟩) (by assumption) ?rest_k48
              case hi_k48 => ((simp only [List.getElem?_toArray, List.getElem?_cons_succ, List.getElem?_cons_zero]); rfl)
              case hf_k48 => kernel_rfl
              case hr_k48 => kernel_rfl
              case hQ_k48 => exact fun _ _ _ h => h
              case hw_k48 => rfl
              case hy_k48 => ((intro w hSw; (try dsimp only at hSw); go_simp); all_goals (with_reducible rfl))
              try simp only [Act.put, List.setIfInBounds_toArray, List.set_cons_zero, List.set_cons_succ]
              refine wpAnyH_take (i := 10) (oi := ?oi_k49) (v := ?v_k49) ?hi_k49 (by kernel_rfl) ?hf_k49 ?hr_k49 ?hQ_k49 (Or.inl ⟨?hw_k49, ?hy_k49⟩) (by assumption) ?rest_k49
              case hi_k49 => ((simp only [List.getElem?_toArray, List.getElem?_cons_succ, List.getElem?_cons_zero]); rfl)
              case hf_k49 => kernel_rfl
              case hr_k49 => kernel_rfl
              case hQ_k49 => exact fun _ _ _ h => h
              case hw_k49 => rfl
              case hy_k49 => ((intro w hSw; (try dsimp only at hSw); go_simp); all_goals (with_reducible rfl))
              try simp only [Act.put, List.setIfInBounds_toArray, List.set_cons_zero, List.set_cons_succ]
              refine wpAnyH_take (i := 11) (oi := ?oi_k50) (v := ?v_k50) ?hi_k50 (by kernel_rfl) ?hf_k50 ?hr_k50 ?hQ_k50 (Or.inl ⟨?hw_k50, ?hy_k50⟩) (by assumption) ?rest_k50
              case hi_k50 => ((simp only [List.getElem?_toArray, List.getElem?_cons_succ, List.getElem?_cons_zero]); rfl)
              case hf_k50 => kernel_rfl
              case hr_k50 => kernel_rfl
              case hQ_k50 => exact fun _ _ _ h => h
              case hw_k50 => rfl
              case hy_k50 => ((intro w hSw; (try dsimp only at hSw); go_simp); all_goals (with_reducible rfl))
              try simp only [Act.put, List.setIfInBounds_toArray, List.set_cons_zero, List.set_cons_succ]
              refine wpAnyH_take (i := 12) (oi := ?oi_k51) (v := ?v_k51) ?hi_k51 (by kernel_rfl) ?hf_k51 ?hr_k51 ?hQ_k51 (Or.inl ⟨?hw_k51, ?hy_k51⟩) (by assumption) ?rest_k51
              case hi_k51 => ((simp only [List.getElem?_toArray, List.getElem?_cons_succ, List.getElem?_cons_zero]); rfl)
              case hf_k51 => kernel_rfl
              case hr_k51 => kernel_rfl
              case hQ_k51 => exact fun _ _ _ h => h
              case hw_k51 => rfl
              case hy_k51 => ((intro w hSw; (try dsimp only at hSw); go_simp); all_goals (with_reducible rfl))
              try simp only [Act.put, List.setIfInBounds_toArray, List.set_cons_zero, List.set_cons_succ]
              refine wpAnyH_take (i := 13) (oi := ?oi_k52) (v := ?v_k52) ?hi_k52 (by kernel_rfl) ?hf_k52 ?hr_k52 ?hQ_k52 (Or.inl ⟨?hw_k52, ?hy_k52⟩) (by assumption) ?rest_k52
              case hi_k52 => ((simp only [List.getElem?_toArray, List.getElem?_cons_succ, List.getElem?_cons_zero]); rfl)
              case hf_k52 => kernel_rfl
              case hr_k52 => kernel_rfl
              case hQ_k52 => exact fun _ _ _ h => h
              case hw_k52 => rfl
              case hy_k52 => ((intro w hSw; (try dsimp only at hSw); go_simp); all_goals (with_reducible rfl))
              try simp only [Act.put, List.setIfInBounds_toArray, List.set_cons_zero, List.set_cons_succ]
              refine wpAnyH_take (i := 14) (oi := ?oi_k53) (v := ?v_k53) ?hi_k53 (by kernel_rfl) ?hf_k53 ?hr_k53 ?hQ_k53 (Or.inl ⟨?hw_k53, ?hy_k53⟩) (by assumption) ?rest_k53
              case hi_k53 => ((simp only [List.getElem?_toArray, List.getElem?_cons_succ, List.getElem?_cons_zero]); rfl)
              case hf_k53 => kernel_rfl
              case hr_k53 => kernel_rfl
              case hQ_k53 => exact fun _ _ _ h => h
              case hw_k53 => rfl
              case hy_k53 => ((intro w hSw; (try dsimp only at hSw); go_simp); all_goals (with_reducible rfl))
              try simp only [Act.put, List.setIfInBounds_toArray, List.set_cons_zero, List.set_cons_succ]
              refine wpAnyH_take (i := 15) (oi := ?oi_k54) (v := ?v_k54) ?hi_k54 (by kernel_rfl) ?hf_k54 ?hr_k54 ?hQ_k54 (Or.inl ⟨?hw_k54, ?hy_k54⟩) (by assumption) ?rest_k54
              case hi_k54 => ((simp only [List.getElem?_toArray, List.getElem?_cons_succ, List.getElem?_cons_zero]); rfl)
              case hf_k54 => kernel_rfl
              case hr_k54 => kernel_rfl
              case hQ_k54 => exact fun _ _ _ h => h
              case hw_k54 => rfl
              case hy_k54 => ((intro w hSw; (try dsimp only at hSw); go_simp); all_goals (with_reducible rfl))
              try simp only [Act.put, List.setIfInBounds_toArray, List.set_cons_zero, List.set_cons_succ]
              refine wpAnyH_take (i := 16) (oi := ?oi_k55) (v := ?v_k55) ?hi_k55 (by kernel_rfl) ?hf_k55 ?hr_k55 ?hQ_k55 (Or.inl ⟨?hw_k55, ?hy_k55⟩) (by assumption) ?rest_k55
              case hi_k55 => ((simp only [List.getElem?_toArray, List.getElem?_cons_succ, List.getElem?_cons_zero]); rfl)
              case hf_k55 => kernel_rfl
              case hr_k55 => kernel_rfl
              case hQ_k55 => exact fun _ _ _ h => h
              case hw_k55 => rfl
              case hy_k55 => ((intro w hSw; (try dsimp only at hSw); go_simp); all_goals (with_reducible rfl))
              try simp only [Act.put, List.setIfInBounds_toArray, List.set_cons_zero, List.set_cons_succ]
              refine wpAnyH_take (i := 17) (oi := ?oi_k56) (v := ?v_k56) ?hi_k56 (by kernel_rfl) ?hf_k56 ?hr_k56 ?hQ_k56 (Or.inl ⟨?hw_k56, ?hy_k56⟩) (by assumption) ?rest_k56
              case hi_k56 => ((simp only [List.getElem?_toArray, List.getElem?_cons_succ, List.getElem?_cons_zero]); rfl)
              case hf_k56 => kernel_rfl
              case hr_k56 => kernel_rfl
              case hQ_k56 => exact fun _ _ _ h => h
              case hw_k56 => rfl
              case hy_k56 => ((intro w hSw; (try dsimp only at hSw); go_simp); all_goals (with_reducible rfl))
              try simp only [Act.put, List.setIfInBounds_toArray, List.set_cons_zero, List.set_cons_succ]
              refine wpAnyH_take (i := 18) (oi := ?oi_k57) (v := ?v_k57) ?hi_k57 (by kernel_rfl) ?hf_k57 ?hr_k57 ?hQ_k57 (Or.inl ⟨?hw_k57, ?hy_k57⟩) (by assumption) ?rest_k57
              case hi_k57 => ((simp only [List.getElem?_toArray, List.getElem?_cons_succ, List.getElem?_cons_zero]); rfl)
              case hf_k57 => kernel_rfl
              case hr_k57 => kernel_rfl
              case hQ_k57 => exact fun _ _ _ h => h
              case hw_k57 => rfl
              case hy_k57 => ((intro w hSw; (try dsimp only at hSw); go_simp); all_goals (with_reducible rfl))
              try simp only [Act.put, List.setIfInBounds_toArray, List.set_cons_zero, List.set_cons_succ]
              refine wpAnyH_done (by kernel_rfl) ?_ _
              go_wp2
              go_roundw
              case rel => exact ⟨k + 1, by omega, by push_cast; rfl, belStep HB2.out hHeld⟩
              case measure => simp [intOf] <;> omega
          · obtain rfl : k = m.boxes.length := by omega
            have hd : decide ((m.boxes.length : Int) < (m.boxes.length : Int)) = false := decide_eq_false (by omega)
            have HWL2 := Lib.hid (HWL.out.later hbel)
            replace HR9 := Lib.hid (HR9.out.later hbel)
            clear hbel HR1
            generalize wr = W25 at *
            obtain ⟨n3, hn3⟩ : ∃ n, m3.images.length = n := ⟨_, rfl⟩
            have C3 := Lib.hid (fun u (h : WL w u M [] m3) => wl_Images w u M [] m3 L.length h HG3.out hgn n3 hn3)
            have HN3 := Lib.hid hn3
            have hn9 : n3 ≤ 50 := by have := HG3.out.lenI; omega
            clear hn3
            go_upto_region 26 with (go_at_call 24; (with_reducible refine (C3.out _ HWL2.out).mono ?_); rintro e w26 ⟨a3, c3, rfl, _, hr_, hS_, hb_⟩; have HR3 := Lib.hid hr_; have HBW := Lib.hid hb_; have HWS := Lib.hid hS_; clear hr_ hS_ hb_)
            replace HR9 := Lib.hid (HR9.out.later HBW.out)
            clear C3 HWL2
            generalize w26 = W26 at *
            have hb30 := HR3.out.2.1
            have hb31 : c3 ≤ 9223372036854775807 := by have h_ := HR3.out.2.2.1; unfold maxLen at h_; exact h_
            have HWB := Lib.hid HWS.out.below
            have hbel : Below W26.heap.size W26 W26 := Below.refl _ _
            go_wp2
            go_loopw [20] (fun iv wr => ∃ k : Nat, k ≤ m.images.length ∧ iv = .int .i64 k ∧ Below W26.heap.size W26 wr) (fun iv _ => m.images.length - (intOf iv).toNat)
            case atStart => exact ⟨0, Nat.zero_le _, rfl, hbel⟩
            case round =>
              clear hbel
              obtain ⟨k, hk, rfl, hbel⟩ := hrel
              by_cases hlt : k < m.images.length
              · have hd : decide ((k : Int) < (m.images.length : Int)) = true := decide_eq_true (by omega)
                have hki : (k : Int) < (m.images.length : Int) := by omega
                have hk0 : (0 : Int) ≤ (k : Int) := by omega
                obtain ⟨x, hx⟩ : ∃ x, m.images[k]? = some x := ⟨m.images[k], List.getElem?_eq_getElem hlt⟩
                obtain ⟨bc, oc, ec, _, hcc⟩ := (HR9.out).elem ImgV.cells_len (by omega) hx
                subst ec
                have c0 := keep (hcc 0 _ rfl)
                have c1 := keep (hcc 1 _ rfl)
                have c2 := keep (hcc 2 _ rfl)
                rw [Nat.add_zero] at c0
                have HQ := Lib.hid (fun hne => any_img (HM3.out ▸ apart_img well what round (List.mem_of_getElem? hx) hne))
                clear hx hcc
                obtain ⟨nm, hnm⟩ : ∃ q, (x.name.toList == (⟨#[119, 101, 98]⟩ : ByteArray).toList) = q := ⟨_, rfl⟩
                have HNM := Lib.hid hnm
                have hnm2 : (x.name.toList == ([119, 101, 98] : List UInt8)) = nm := by rw [← show (⟨#[119, 101, 98]⟩ : ByteArray).toList = [119, 101, 98] by decide +kernel]; exact hnm
                generalize wr = W30 at *
                go_wp2
                go_loopw [21, 22] (fun fv jv wr => ∃ q : Nat, q ≤ n3 ∧ jv = .int .i64 q ∧ fv = .bool (nm || (m3.images.take q).any (fun y => eqImg y x)) ∧ Below W26.heap.size W26 wr) (fun _ jv _ => n3 - (intOf jv).toNat)
                case atStart => exact ⟨0, Nat.zero_le _, rfl, by simp, hbel⟩
                case round =>
                  clear hbel
                  obtain ⟨q, hq, rfl, rfl, hbel⟩ := hrel
                  by_cases hlt2 : q < n3
                  · have hd2 : decide ((q : Int) < (n3 : Int)) = true := decide_eq_true (by omega)
                    have hqi : (q : Int) < (n3 : Int) := by omega
                    have hq0 : (0 : Int) ≤ (q : Int) := by omega
                    have hlt3 : q < m3.images.length := by rw [HN3.out]; exact hlt2
                    obtain ⟨y, hy⟩ : ∃ y, m3.images[q]? = some y := ⟨m3.images[q], List.getElem?_eq_getElem hlt3⟩
                    obtain ⟨be, oe, ee, _, hce⟩ := (HR3.out).elem ImgV.cells_len (by omega) hy
                    subst ee
                    have e0 := keep (hce 0 _ rfl)
                    have e1 := keep (hce 1 _ rfl)
                    have e2 := keep (hce 2 _ rfl)
                    rw [Nat.add_zero] at e0
                    have HY := Lib.hid (any_nextG (f := fun y => eqImg y x) hy)
                    clear hy hce
                    obtain ⟨bb, hbb⟩ : ∃ z, eqImg y x = z := ⟨_, rfl⟩
                    have heq := fun u : World => hbb ▸ eq_img y x u
                    replace HY := Lib.hid (show (m3.images.take (q + 1)).any (fun y => eqImg y x) = ((m3.images.take q).any (fun y => eqImg y x) || bb) from by rw [← hbb]; exact HY.out)
                    clear hbb
                    obtain ⟨f, hf⟩ : ∃ z, (nm || (m3.images.take q).any (fun y => eqImg y x)) = z := ⟨_, rfl⟩
                    have HF := Lib.hid hf
                    simp only [hf]
                    clear hf hnm hnm2
                    cases f with
                    | true =>
                      go_upto_region 33 with fail
                      refine wp_region_held_drew (S := fun u => Below W26.heap.size W26 u) (by kernel_rfl) (by exact belDrew hbel) (fun hHeld => ?_)
                      refine wpAnyH_take (i := 0) (oi := ?oi_k58) (v := ?v_k58) ?hi_k58 (by kernel_rfl) ?hf_k58 ?hr_k58 ?hQ_k58 (Or.inl ⟨?hw_k58, ?hy_k58⟩) (by assumption) ?rest_k58
                      case hi_k58 => ((simp only [List.getElem?_toArray, List.getElem?_cons_succ, List.getElem?_cons_zero]); rfl)
                      case hf_k58 => kernel_rfl
                      case hr_k58 => kernel_rfl
                      case hQ_k58 => exact fun _ _ _ h => h
                      case hw_k58 => rfl
                      case hy_k58 => ((intro w hSw; (try dsimp only at hSw); go_simp); all_goals (with_reducible rfl))
                      try simp only [Act.put, List.setIfInBounds_toArray, List.set_cons_zero, List.set_cons_succ]
                      refine wpAnyH_take (i := 1) (oi := ?oi_k59) (v := ?v_k59) ?hi_k59 (by kernel_rfl) ?hf_k59 ?hr_k59 ?hQ_k59 (Or.inl ⟨?hw_k59, ?hy_k59⟩) (by assumption) ?rest_k59
                      case hi_k59 => ((simp only [List.getElem?_toArray, List.getElem?_cons_succ, List.getElem?_cons_zero]); rfl)
                      case hf_k59 => kernel_rfl
                      case hr_k59 => kernel_rfl
                      case hQ_k59 => exact fun _ _ _ h => h
                      case hw_k59 => rfl
                      case hy_k59 => ((intro w hSw; (try dsimp only at hSw); go_simp); all_goals (with_reducible rfl))
                      try simp only [Act.put, List.setIfInBounds_toArray, List.set_cons_zero, List.set_cons_succ]
                      refine wpAnyH_take (i := 2) (oi := ?oi_k60) (v := undef) ?hi_k60 (by kernel_rfl) ?hf_k60 ?hr_k60 ?hQ_k60 (Or.inr ⟨?hw_k60, rfl⟩) (by assumption) ?rest_k60
                      case hi_k60 => ((simp only [List.getElem?_toArray, List.getElem?_cons_succ, List.getElem?_cons_zero]); rfl)
                      case hf_k60 => kernel_rfl
                      case hr_k60 => kernel_rfl
                      case hQ_k60 => exact fun _ _ _ h => h
                      case hw_k60 => rfl
                      try simp only [Act.put, List.setIfInBounds_toArray, List.set_cons_zero, List.set_cons_succ]
                      refine wpAnyH_take (i := 3) (oi := ?oi_k61) (v := undef) ?hi_k61 (by kernel_rfl) ?hf_k61 ?hr_k61 ?hQ_k61 (Or.inr ⟨?hw_k61, rfl⟩) (by assumption) ?rest_k61
                      case hi_k61 => ((simp only [List.getElem?_toArray, List.getElem?_cons_succ, List.getElem?_cons_zero]); rfl)
                      case hf_k61 => kernel_rfl
                      case hr_k61 => kernel_rfl
                      case hQ_k61 => exact fun _ _ _ h => h
                      case hw_k61 => rfl
                      try simp only [Act.put, List.setIfInBounds_toArray, List.set_cons_zero, List.set_cons_succ]
                      refine wpAnyH_take (i := 4) (oi := ?oi_k62) (v := undef) ?hi_k62 (by kernel_rfl) ?hf_k62 ?hr_k62 ?hQ_k62 (Or.inr ⟨?hw_k62, rfl⟩) (by assumption) ?rest_k62
                      case hi_k62 => ((simp only [List.getElem?_toArray, List.getElem?_cons_succ, List.getElem?_cons_zero]); rfl)
                      case hf_k62 => kernel_rfl
                      case hr_k62 => kernel_rfl
                      case hQ_k62 => exact fun _ _ _ h => h
                      case hw_k62 => rfl
                      try simp only [Act.put, List.setIfInBounds_toArray, List.set_cons_zero, List.set_cons_succ]
                      refine wpAnyH_take (i := 5) (oi := ?oi_k63) (v := undef) ?hi_k63 (by kernel_rfl) ?hf_k63 ?hr_k63 ?hQ_k63 (Or.inr ⟨?hw_k63, rfl⟩) (by assumption) ?rest_k63
                      case hi_k63 => ((simp only [List.getElem?_toArray, List.getElem?_cons_succ, List.getElem?_cons_zero]); rfl)
                      case hf_k63 => kernel_rfl
                      case hr_k63 => kernel_rfl
                      case hQ_k63 => exact fun _ _ _ h => h
                      case hw_k63 => rfl
                      try simp only [Act.put, List.setIfInBounds_toArray, List.set_cons_zero, List.set_cons_succ]
                      refine wpAnyH_take (i := 6) (oi := ?oi_k64) (v := undef) ?hi_k64 (by kernel_rfl) ?hf_k64 ?hr_k64 ?hQ_k64 (Or.inr ⟨?hw_k64, rfl⟩) (by assumption) ?rest_k64
                      case hi_k64 => ((simp only [List.getElem?_toArray, List.getElem?_cons_succ, List.getElem?_cons_zero]); rfl)
                      case hf_k64 => kernel_rfl
                      case hr_k64 => kernel_rfl
                      case hQ_k64 => exact fun _ _ _ h => h
                      case hw_k64 => rfl
                      try simp only [Act.put, List.setIfInBounds_toArray, List.set_cons_zero, List.set_cons_succ]
                      refine wpAnyH_take (i := 7) (oi := ?oi_k65) (v := undef) ?hi_k65 (by kernel_rfl) ?hf_k65 ?hr_k65 ?hQ_k65 (Or.inr ⟨?hw_k65, rfl⟩) (by assumption) ?rest_k65
                      case hi_k65 => ((simp only [List.getElem?_toArray, List.getElem?_cons_succ, List.getElem?_cons_zero]); rfl)
                      case hf_k65 => kernel_rfl
                      case hr_k65 => kernel_rfl
                      case hQ_k65 => exact fun _ _ _ h => h
                      case hw_k65 => rfl
                      try simp only [Act.put, List.setIfInBounds_toArray, List.set_cons_zero, List.set_cons_succ]
                      refine wpAnyH_take (i := 8) (oi := ?oi_k66) (v := undef) ?hi_k66 (by kernel_rfl) ?hf_k66 ?hr_k66 ?hQ_k66 (Or.inr ⟨?hw_k66, rfl⟩) (by assumption) ?rest_k66
                      case hi_k66 => ((simp only [List.getElem?_toArray, List.getElem?_cons_succ, List.getElem?_cons_zero]); rfl)
                      case hf_k66 => kernel_rfl
                      case hr_k66 => kernel_rfl
                      case hQ_k66 => exact fun _ _ _ h => h
                      case hw_k66 => rfl
                      try simp only [Act.put, List.setIfInBounds_toArray, List.set_cons_zero, List.set_cons_succ]
                      refine wpAnyH_take (i := 9) (oi := ?oi_k67) (v := undef) ?hi_k67 (by kernel_rfl) ?hf_k67 ?hr_k67 ?hQ_k67 (Or.inr ⟨?hw_k67, rfl⟩) (by assumption) ?rest_k67
                      case hi_k67 => ((simp only [List.getElem?_toArray, List.getElem?_cons_succ, List.getElem?_cons_zero]); rfl)
                      case hf_k67 => kernel_rfl
                      case hr_k67 => kernel_rfl
                      case hQ_k67 => exact fun _ _ _ h => h
                      case hw_k67 => rfl
                      try simp only [Act.put, List.setIfInBounds_toArray, List.set_cons_zero, List.set_cons_succ]
                      refine wpAnyH_take (i := 10) (oi := ?oi_k68) (v := undef) ?hi_k68 (by kernel_rfl) ?hf_k68 ?hr_k68 ?hQ_k68 (Or.inr ⟨?hw_k68, rfl⟩) (by assumption) ?rest_k68
                      case hi_k68 => ((simp only [List.getElem?_toArray, List.getElem?_cons_succ, List.getElem?_cons_zero]); rfl)
                      case hf_k68 => kernel_rfl
                      case hr_k68 => kernel_rfl
                      case hQ_k68 => exact fun _ _ _ h => h
                      case hw_k68 => rfl
                      try simp only [Act.put, List.setIfInBounds_toArray, List.set_cons_zero, List.set_cons_succ]
                      refine wpAnyH_take (i := 11) (oi := ?oi_k69) (v := ?v_k69) ?hi_k69 (by kernel_rfl) ?hf_k69 ?hr_k69 ?hQ_k69 (Or.inl ⟨?hw_k69, ?hy_k69⟩) (by assumption) ?rest_k69
                      case hi_k69 => ((simp only [List.getElem?_toArray, List.getElem?_cons_succ, List.getElem?_cons_zero]); rfl)
                      case hf_k69 => kernel_rfl
                      case hr_k69 => kernel_rfl
                      case hQ_k69 => exact fun _ _ _ h => h
                      case hw_k69 => rfl
                      case hy_k69 => ((intro w hSw; (try dsimp only at hSw); go_simp); all_goals (with_reducible rfl))
                      try simp only [Act.put, List.setIfInBounds_toArray, List.set_cons_zero, List.set_cons_succ]
                      refine wpAnyH_take (i := 12) (oi := ?oi_k70) (v := ?v_k70) ?hi_k70 (by kernel_rfl) ?hf_k70 ?hr_k70 ?hQ_k70 (Or.inl ⟨?hw_k70, ?hy_k70⟩) (by assumption) ?rest_k70
                      case hi_k70 => ((simp only [List.getElem?_toArray, List.getElem?_cons_succ, List.getElem?_cons_zero]); rfl)
                      case hf_k70 => kernel_rfl
                      case hr_k70 => kernel_rfl
                      case hQ_k70 => exact fun _ _ _ h => h
                      case hw_k70 => rfl
                      case hy_k70 => ((intro w hSw; (try dsimp only at hSw); go_simp); all_goals (with_reducible rfl))
                      try simp only [Act.put, List.setIfInBounds_toArray, List.set_cons_zero, List.set_cons_succ]
                      refine wpAnyH_done (by kernel_rfl) ?_ _
                      go_wp2
                      go_roundw
                      case rel => exact ⟨q + 1, by omega, by push_cast; rfl, by rw [HY.out, ← Bool.or_assoc, HF.out]; rfl, hHeld⟩
                      case measure => simp [intOf] <;> omega
                    | false =>
                      go_upto_region 33 with fail
                      refine wp_region_held_drew (S := fun u => Below W26.heap.size W26 u) (by kernel_rfl) (by exact belDrew hbel) (fun hHeld => ?_)
                      refine wpAnyH_take (i := 0) (oi := ?oi_k71) (v := ?v_k71) ?hi_k71 (by kernel_rfl) ?hf_k71 ?hr_k71 ?hQ_k71 (Or.inl ⟨?hw_k71, ?hy_k71⟩) (by assumption) ?rest_k71
                      case hi_k71 => ((simp only [List.getElem?_toArray, List.getElem?_cons_succ, List.getElem?_cons_zero]); rfl)
                      case hf_k71 => kernel_rfl
                      case hr_k71 => kernel_rfl
                      case hQ_k71 => exact fun _ _ _ h => h
                      case hw_k71 => rfl
                      case hy_k71 => ((intro w hSw; (try dsimp only at hSw); go_simp); all_goals (with_reducible rfl))
                      try simp only [Act.put, List.setIfInBounds_toArray, List.set_cons_zero, List.set_cons_succ]
                      refine wpAnyH_take (i := 1) (oi := ?oi_k72) (v := ?v_k72) ?hi_k72 (by kernel_rfl) ?hf_k72 ?hr_k72 ?hQ_k72 (Or.inl ⟨?hw_k72, ?hy_k72⟩) (by assumption) ?rest_k72
                      case hi_k72 => ((simp only [List.getElem?_toArray, List.getElem?_cons_succ, List.getElem?_cons_zero]); rfl)
                      case hf_k72 => kernel_rfl
                      case hr_k72 => kernel_rfl
                      case hQ_k72 => exact fun _ _ _ h => h
                      case hw_k72 => rfl
                      case hy_k72 => ((intro w hSw; (try dsimp only at hSw); go_simp); all_goals (with_reducible rfl))
                      try simp only [Act.put, List.setIfInBounds_toArray, List.set_cons_zero, List.set_cons_succ]
                      refine wpAnyH_take (i := 2) (oi := ?oi_k73) (v := ?v_k73) ?hi_k73 (by kernel_rfl) ?hf_k73 ?hr_k73 ?hQ_k73 (Or.inl ⟨?hw_k73, ?hy_k73⟩) (by assumption) ?rest_k73
                      case hi_k73 => ((simp only [List.getElem?_toArray, List.getElem?_cons_succ, List.getElem?_cons_zero]); rfl)
                      case hf_k73 => kernel_rfl
                      case hr_k73 => kernel_rfl
                      case hQ_k73 => exact fun _ _ _ h => h
                      case hw_k73 => rfl
                      case hy_k73 => ((intro w hSw; (try dsimp only at hSw); go_simp); all_goals (with_reducible rfl))
                      try simp only [Act.put, List.setIfInBounds_toArray, List.set_cons_zero, List.set_cons_succ]
                      refine wpAnyH_take (i := 3) (oi := ?oi_k74) (v := ?v_k74) ?hi_k74 (by kernel_rfl) ?hf_k74 ?hr_k74 ?hQ_k74 (Or.inl ⟨?hw_k74, ?hy_k74⟩) (by assumption) ?rest_k74
                      case hi_k74 => ((simp only [List.getElem?_toArray, List.getElem?_cons_succ, List.getElem?_cons_zero]); rfl)
                      case hf_k74 => kernel_rfl
                      case hr_k74 => kernel_rfl
                      case hQ_k74 => exact fun _ _ _ h => h
                      case hw_k74 => rfl
                      case hy_k74 => ((intro w hSw; (try dsimp only at hSw); go_simp); all_goals (with_reducible rfl))
                      try simp only [Act.put, List.setIfInBounds_toArray, List.set_cons_zero, List.set_cons_succ]
                      refine wpAnyH_take (i := 4) (oi := ?oi_k75) (v := ?v_k75) ?hi_k75 (by kernel_rfl) ?hf_k75 ?hr_k75 ?hQ_k75 (Or.inl ⟨?hw_k75, ?hy_k75⟩) (by assumption) ?rest_k75
                      case hi_k75 => ((simp only [List.getElem?_toArray, List.getElem?_cons_succ, List.getElem?_cons_zero]); rfl)
                      case hf_k75 => kernel_rfl
                      case hr_k75 => kernel_rfl
                      case hQ_k75 => exact fun _ _ _ h => h
                      case hw_k75 => rfl
                      case hy_k75 => ((intro w hSw; (try dsimp only at hSw); go_simp); all_goals (with_reducible rfl))
                      try simp only [Act.put, List.setIfInBounds_toArray, List.set_cons_zero, List.set_cons_succ]
                      refine wpAnyH_take (i := 5) (oi := ?oi_k76) (v := ?v_k76) ?hi_k76 (by kernel_rfl) ?hf_k76 ?hr_k76 ?hQ_k76 (Or.inl ⟨?hw_k76, ?hy_k76⟩) (by assumption) ?rest_k76
                      case hi_k76 => ((simp only [List.getElem?_toArray, List.getElem?_cons_succ, List.getElem?_cons_zero]); rfl)
                      case hf_k76 => kernel_rfl
                      case hr_k76 => kernel_rfl
                      case hQ_k76 => exact fun _ _ _ h => h
                      case hw_k76 => rfl
                      case hy_k76 => ((intro w hSw; (try dsimp only at hSw); go_simp); all_goals (with_reducible rfl))
                      try simp only [Act.put, List.setIfInBounds_toArray, List.set_cons_zero, List.set_cons_succ]
                      refine wpAnyH_take (i := 6) (oi := ?oi_k77) (v := ?v_k77) ?hi_k77 (by kernel_rfl) ?hf_k77 ?hr_k77 ?hQ_k77 (Or.inl ⟨?hw_k77, ?hy_k77⟩) (by assumption) ?rest_k77
                      case hi_k77 => ((simp only [List.getElem?_toArray, List.getElem?_cons_succ, List.getElem?_cons_zero]); rfl)
                      case hf_k77 => kernel_rfl
                      case hr_k77 => kernel_rfl
                      case hQ_k77 => exact fun _ _ _ h => h
                      case hw_k77 => rfl
                      case hy_k77 => ((intro w hSw; (try dsimp only at hSw); go_simp); all_goals (with_reducible rfl))
                      try simp only [Act.put, List.setIfInBounds_toArray, List.set_cons_zero, List.set_cons_succ]
                      refine wpAnyH_take (i := 7) (oi := ?oi_k78) (v := ?v_k78) ?hi_k78 (by kernel_rfl) ?hf_k78 ?hr_k78 ?hQ_k78 (Or.inl ⟨?hw_k78, ?hy_k78⟩) (by assumption) ?rest_k78
                      case hi_k78 => ((simp only [List.getElem?_toArray, List.getElem?_cons_succ, List.getElem?_cons_zero]); rfl)
                      case hf_k78 => kernel_rfl
                      case hr_k78 => kernel_rfl
                      case hQ_k78 => exact fun _ _ _ h => h
                      case hw_k78 => rfl
                      case hy_k78 => ((intro w hSw; (try dsimp only at hSw); go_simp); all_goals (with_reducible rfl))
                      try simp only [Act.put, List.setIfInBounds_toArray, List.set_cons_zero, List.set_cons_succ]
                      refine wpAnyH_take (i := 8) (oi := ?oi_k79) (v := ?v_k79) ?hi_k79 (by kernel_rfl) ?hf_k79 ?hr_k79 ?hQ_k79 (Or.inl ⟨?hw_k79, ?hy_k79⟩) (by assumption) ?rest_k79
                      case hi_k79 => ((simp only [List.getElem?_toArray, List.getElem?_cons_succ, List.getElem?_cons_zero]); rfl)
                      case hf_k79 => kernel_rfl
                      case hr_k79 => kernel_rfl
                      case hQ_k79 => exact fun _ _ _ h => h
                      case hw_k79 => rfl
                      case hy_k79 => ((intro w hSw; (try dsimp only at hSw); go_simp); all_goals (with_reducible rfl))
                      try simp only [Act.put, List.setIfInBounds_toArray, List.set_cons_zero, List.set_cons_succ]
                      refine wpAnyH_take (i := 9) (oi := ?oi_k80) (v := ?v_k80) ?hi_k80 (by kernel_rfl) ?hf_k80 ?hr_k80 ?hQ_k80 (Or.inl ⟨?hw_k80, ?hy_k80⟩) (by assumption) ?rest_k80
                      case hi_k80 => ((simp only [List.getElem?_toArray, List.getElem?_cons_succ, List.getElem?_cons_zero]); rfl)
                      case hf_k80 => kernel_rfl
                      case hr_k80 => kernel_rfl
                      case hQ_k80 => exact fun _ _ _ h => h
                      case hw_k80 => rfl
                      case hy_k80 => ((intro w hSw; (try dsimp only at hSw); go_simp); all_goals (with_reducible rfl))
                      try simp only [Act.put, List.setIfInBounds_toArray, List.set_cons_zero, List.set_cons_succ]
                      refine wpAnyH_take (i := 10) (oi := ?oi_k81) (v := ?v_k81) ?hi_k81 (by kernel_rfl) ?hf_k81 ?hr_k81 ?hQ_k81 (Or.inl ⟨?hw_k81, ?hy_k81⟩) (by assumption) ?rest_k81
                      case hi_k81 => ((simp only [List.getElem?_toArray, List.getElem?_cons_succ, List.getElem?_cons_zero]); rfl)
                      case hf_k81 => kernel_rfl
                      case hr_k81 => kernel_rfl
                      case hQ_k81 => exact fun _ _ _ h => h
                      case hw_k81 => rfl
                      case hy_k81 => ((intro w hSw; (try dsimp only at hSw); go_simp); all_goals (with_reducible rfl))
                      try simp only [Act.put, List.setIfInBounds_toArray, List.set_cons_zero, List.set_cons_succ]
                      refine wpAnyH_take (i := 11) (oi := ?oi_k82) (v := ?v_k82) ?hi_k82 (by kernel_rfl) ?hf_k82 ?hr_k82 ?hQ_k82 (Or.inl ⟨?hw_k82, ?hy_k82⟩) (by assumption) ?rest_k82
                      case hi_k82 => ((simp only [List.getElem?_toArray, List.getElem?_cons_succ, List.getElem?_cons_zero]); rfl)
                      case hf_k82 => kernel_rfl
                      case hr_k82 => kernel_rfl
                      case hQ_k82 => exact fun _ _ _ h => h
                      case hw_k82 => rfl
                      case hy_k82 => ((intro w hSw; (try dsimp only at hSw); go_simp); all_goals (with_reducible rfl))
                      try simp only [Act.put, List.setIfInBounds_toArray, List.set_cons_zero, List.set_cons_succ]
                      refine wpAnyH_take (i := 12) (oi := ?oi_k83) (v := ?v_k83) ?hi_k83 (by kernel_rfl) ?hf_k83 ?hr_k83 ?hQ_k83 (Or.inl ⟨?hw_k83, ?hy_k83⟩) (by assumption) ?rest_k83
                      case hi_k83 => ((simp only [List.getElem?_toArray, List.getElem?_cons_succ, List.getElem?_cons_zero]); rfl)
                      case hf_k83 => kernel_rfl
                      case hr_k83 => kernel_rfl
                      case hQ_k83 => exact fun _ _ _ h => h
                      case hw_k83 => rfl
                      case hy_k83 => ((intro w hSw; (try dsimp only at hSw); go_simp); all_goals (with_reducible rfl))
                      try simp only [Act.put, List.setIfInBounds_toArray, List.set_cons_zero, List.set_cons_succ]
                      refine wpAnyH_done (by kernel_rfl) ?_ _
                      go_wp2
                      go_roundw
                      case rel => exact ⟨q + 1, by omega, by push_cast; rfl, by rw [HY.out, ← Bool.or_assoc, HF.out]; simp, hHeld⟩
                      case measure => simp [intOf] <;> omega
                  · obtain rfl : q = n3 := by omega
                    have hd2 : decide ((q : Int) < (q : Int)) = false := decide_eq_false (by omega)
                    have hft : (nm || (m3.images.take q).any (fun y => eqImg y x)) = true := by rw [List.take_of_length_le (by rw [HN3.out]; exact Nat.le_refl _)]; cases nm with | true => rfl | false => rw [HQ.out HNM.out]; rfl
                    simp only [hft]
                    go_wp2
                    go_roundw
                    case rel => exact ⟨k + 1, by omega, by push_cast; rfl, hbel⟩
                    case measure => simp [intOf] <;> omega
              · obtain rfl : k = m.images.length := by omega
                have hd : decide ((m.images.length : Int) < (m.images.length : Int)) = false := decide_eq_false (by omega)
                go_wp2
                go_ret
                exact ⟨rfl, belStep HWB.out hbel⟩

set_option maxRecDepth 100000 in
theorem lifted (os : Os) (started : os.Started) (H : Type) (enc : TypeId × Value → H) :
    ReturnsInHanded {} Try.checked os 4 .any (Rows.worldApartSpec.pre6 enc Try.prog Try.f4 Rows.worldApartRow.domain false) (Rows.worldApartSpec.post enc Try.prog Try.f4 false true false false) := by
  refine returnsInHanded_of_change (C := Try.checked) own started (by kernel_rfl) Try.func4
    (ChangeSpec.witness6 (enc := enc) (C := Try.checked) false ⟨#[], #[.slice none 0 0, .int .i64 0, .int .i64 0, .bool false], []⟩ 8 (by kernel_rfl) (by kernel_rfl) (by kernel_rfl) (by kernel_rfl)) ?_
  intro W base args ds gs before hval0 hW hcnd _
  have hval : ∀ (j : Nat) t v, Try.f4.params[j]? = some t → args[j]? = some v → Value.okWide Try.prog W .any base t v := hval0
  have hW' := hW
  obtain ⟨p, q, hA0, hV, rfl, hfz, hnd⟩ := hW
  have hA : DataW.TrodAll enc Try.prog W 0 (fun _ => true) true Try.f4.params.toList args.toList ds p := hA0
  rw [Try.params4] at hA hval
  obtain ⟨v0, vs0, d0, ds0, p0, q0, hargs, rfl, rfl, h0, r0⟩ := trodAll_cons hA
  obtain ⟨v1, vs1, d1, ds1, p1, q1, rfl, rfl, rfl, h1, r1⟩ := trodAll_cons r0
  obtain ⟨v2, vs2, d2, ds2, p2, q2, rfl, rfl, rfl, h2, r2⟩ := trodAll_cons r1
  obtain ⟨v3, vs3, d3, ds3, p3, q3, rfl, rfl, rfl, h3, r3⟩ := trodAll_cons r2
  obtain ⟨rfl, rfl, rfl⟩ := trodAll_nil r3
  obtain rfl : args = #[v0, v1, v2, v3] := by cases args; simp_all
  obtain ⟨rfl, rfl⟩ := trodVars_none hV
  have k0 := h0
  have lt0 : ∀ x ∈ p0, x.block < W.heap.size := by obtain ⟨m, hm⟩ := k0; exact DataW.trod_lt m _ _ _ hm
  have o0 : Value.okWide Try.prog W .any base 22 v0 := hval 0 22 v0 rfl rfl
  obtain ⟨xa0, xn0, xc0, xl0, rfl, fl0, fo0, fr0⟩ := open_actsW o0 h0
  have k1 := h1
  have lt1 : ∀ x ∈ p1, x.block < W.heap.size := by obtain ⟨m, hm⟩ := k1; exact DataW.trod_lt m _ _ _ hm
  have o1 : Value.okWide Try.prog W .any base 3 v1 := hval 1 3 v1 rfl rfl
  obtain ⟨a1, rfl, rfl, rfl, w1⟩ := open_int Try.underlying3 o1 h1
  have k2 := h2
  have lt2 : ∀ x ∈ p2, x.block < W.heap.size := by obtain ⟨m, hm⟩ := k2; exact DataW.trod_lt m _ _ _ hm
  have o2 : Value.okWide Try.prog W .any base 3 v2 := hval 2 3 v2 rfl rfl
  obtain ⟨a2, rfl, rfl, rfl, w2⟩ := open_int Try.underlying3 o2 h2
  have k3 := h3
  have lt3 : ∀ x ∈ p3, x.block < W.heap.size := by obtain ⟨m, hm⟩ := k3; exact DataW.trod_lt m _ _ _ hm
  have o3 : Value.okWide Try.prog W .any base 4 v3 := hval 3 4 v3 rfl rfl
  obtain ⟨a3, rfl, rfl, rfl⟩ := open_bool Try.underlying4 o3 h3
  clear hA0 hval0
  refine (walk xa0 xn0 xc0 xl0 a1 a2 a3 W fl0 fo0 fr0 (inI_of_wf w1) (inI_of_wf w2)).mono fun e W' ⟨he, bel⟩ => ?_
  subst he
  exact ⟨_, rfl, _, _, _, [], _, [], hW', trodAll_mk1 (shut_bool Try.underlying4 _), (trodAll_cons_mk (Below.trod laidOut (by kernel_rfl) (of_decide_eq_true (by kernel_rfl)) k0 bel lt0) (trodAll_cons_mk (Below.trod laidOut (by kernel_rfl) (of_decide_eq_true (by kernel_rfl)) k1 bel lt1) (trodAll_cons_mk (Below.trod laidOut (by kernel_rfl) (of_decide_eq_true (by kernel_rfl)) k2 bel lt2) (trodAll_cons_mk (Below.trod laidOut (by kernel_rfl) (of_decide_eq_true (by kernel_rfl)) k3 bel lt3) trodAll_mk0)))), rfl, bel.frame _, fun h => by cases h⟩

theorem over : Rows.worldApartRow.holds Try.pinned (OpenSpec.ofChange Rows.worldApartSpec) :=
  OpenClaim.holds_of_wide 4 Try.f4 rfl rfl rfl rfl rfl rfl rfl ⟨rfl, rfl, rfl, rfl, rfl⟩ rfl rfl rfl rfl rfl (by kernel_rfl) Try.func4 (by kernel_rfl)
    (of_decide_eq_true (by kernel_rfl)) (by unfold Func.isWrapper; first | (rw [if_pos (by decide +kernel)]; kernel_rfl) | (rw [if_neg (by decide +kernel)]; exact ⟨rfl, rfl⟩))
    (fun os started H enc _ => lifted os started H enc)

/-- The statement. -/
theorem proved : Rows.WorldApartSaid := over
#print axioms proved

end Go.Proofs.Ytcnjcldfbidkmaa.worldApart
