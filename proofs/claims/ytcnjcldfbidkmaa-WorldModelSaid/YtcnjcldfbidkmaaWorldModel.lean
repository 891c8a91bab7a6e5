
/- WorldModel holds for all its arguments. No conditions. -/
import Derived.Test.YtcnjcldfbidkmaaWmZ
import Derived.Test.YtcnjcldfbidkmaaAwake16
import Derived.Test.YtcnjcldfbidkmaaWl3
namespace Go.Proofs.Ytcnjcldfbidkmaa.worldModel
open Go.ChangeShapes Go.WideShapes Go.ChangeAt Go.RowKit
open Go.ChangeMaps (open_string shut_string)
set_option linter.unusedVariables false
set_option linter.unusedSimpArgs false
open Go.Sort
theorem ris_boxes {F : List Nat} {u : World} {m : WorldV} {r : Int} {oa ba ia : Option Addr} {n1 n2 n3 oc bc ic : Nat} (h : RIs F u (.agg #[.int .i64 r, .slice oa n1 oc, .slice ba n2 bc, .slice ia n3 ic]) m) : Row u ba n2 bc 4 (m.boxes.flatMap ContV.cells) := by
  obtain ⟨oa1, oc1, ba1, bc1, ia1, ic1, e, h1, h2, h3, _⟩ := h
  simp only [Value.agg.injEq, Array.mk.injEq, List.cons.injEq, Value.slice.injEq, and_true] at e
  obtain ⟨_, _, ⟨rfl, rfl, rfl⟩, _⟩ := e
  exact h2
theorem placeRC_yes {L : List ContV} (h : RisesC L) {s : ByteArray} (ht : thereC L s = true) : ∃ p, p < L.length ∧ placeRC L s = (p : Int) ∧ L[p]? = some (fndC L s) := by
  obtain ⟨x, hx, _⟩ := thereC_at h ht
  refine ⟨placeC L s, (List.getElem?_eq_some_iff.1 hx).1, ?_, ?_⟩
  · rw [placeRC_eq h, ht, if_pos rfl]
  · rw [fndC_at ht hx]; exact hx
theorem fewW_wn {L : List ActW} (h : fewW L = true) {x : ActW} (hx : x ∈ L) : x.wn ≤ 3000 := by
  have hl := fewW_len h
  unfold fewW at h
  rw [Bool.and_eq_true, List.take_of_length_le (by omega)] at h
  have h2 := List.all_eq_true.1 h.1 x hx
  unfold actWB at h2
  simp only [Bool.and_eq_true, decide_eq_true_eq] at h2
  exact h2.1.1.1.2
set_option maxRecDepth 100000 in
set_option maxHeartbeats 32000000 in
theorem walk (a : Option Addr) (n c : Nat) (L : List ActW) (r : Int) (w : World) (hl : L.length = n) (hg : ∀ x ∈ L, x.good w) (hR : Row w a n c 8 (L.flatMap ActW.cells)) (hr0 : InI r) :
    Calls Try.prog 3 #[.slice a n c, .int .i64 r] w fun e w' => e = .returned (.bool true) ∧ Below w.heap.size w w' := by
  have hw : Below w.heap.size w w := Below.refl _ _
  have hbel := hw
  have hbd_a : n ≤ c ∧ c ≤ 9223372036854775807 := by obtain ⟨_, h1, h2, _⟩ := hR; unfold maxLen at h2; exact ⟨h1, h2⟩
  obtain ⟨hbd1_a, hbd2_a⟩ := hbd_a
  subst hl
  obtain ⟨fw, hfw⟩ : ∃ q, fewW L = q := ⟨_, rfl⟩
  have CFW := Lib.hid (fun u (hu : Below w.heap.size w u) => hfw ▸ law16_few a L.length c L u rfl (hR.later hu) (fun y hy => good_laterW (hg y hy) hu))
  have HFW := Lib.hid hfw
  have HR := Lib.hid hR
  have HG := Lib.hid hg
  clear hR hg hfw
  go_enter Try.func3, Try.ntmps3
  go_upto_region 3 with (first | (go_at_call 16; (with_reducible refine (awake16 _).mono ?_); rintro e w1 ⟨rfl, hb1⟩; replace hbel := belStep hbel hb1; clear hb1) | (go_at_call 17; (with_reducible refine (CFW.out _ hbel).mono ?_); rintro e wf1 ⟨rfl, hb_wf1⟩; replace hbel := belStep hbel hb_wf1; clear hb_wf1; rcases fw with _ | _))
  · go_ret
    exact ⟨rfl, hbel⟩
  have hn50 : L.length ≤ 50 := fewW_len HFW.out
  clear CFW hw
  go_upto_region 6 with (go_at_call 18; (with_reducible refine (wl_NewM r w _ hbel).mono ?_); rintro e w1 ⟨M, rfl, hS_, hb_⟩; have HS := Lib.hid hS_; clear hS_ hb_)
  clear hbel
  go_upto_region 7 with fail
  have HLW := Lib.hid (LoopW.start HS.out)
  generalize (w1.alloc (.cells #[.int .i64 r, .slice none 0 0, .slice none 0 0, .slice none 0 0] 31)) = W7 at *
  generalize w1.heap.size = mb at *
  clear HS
  go_wp2
  go_loopw [7] (fun iv wr => ∃ k : Nat, k ≤ L.length ∧ iv = .int .i64 k ∧ Hid (LoopW w wr M mb (afterW r (L.take k)))) (fun iv _ => L.length - (intOf iv).toNat)
  case atStart => exact ⟨0, Nat.zero_le _, rfl, HLW⟩
  case round =>
    clear HLW
    obtain ⟨k, hk, rfl, HLW⟩ := hrel
    by_cases hlt : k < L.length
    · have hd : decide ((k : Int) < (L.length : Int)) = true := decide_eq_true (by omega)
      have hki : (k : Int) < (L.length : Int) := by omega
      have hk0 : (0 : Int) ≤ (k : Int) := by omega
      have hbel := HLW.out.below
      obtain ⟨x, hx⟩ : ∃ x, L[k]? = some x := ⟨L[k], List.getElem?_eq_getElem hlt⟩
      obtain ⟨bc, oc, ec, _, hcc⟩ := (HR.out).elem ActW.cells_len (by omega) hx
      subst ec
      have c0 := keep (hcc 0 _ rfl)
      have c1 := keep (hcc 1 _ rfl)
      have c2 := keep (hcc 2 _ rfl)
      have c3 := keep (hcc 3 _ rfl)
      have c4 := keep (hcc 4 _ rfl)
      have c5 := keep (hcc 5 _ rfl)
      have c6 := keep (hcc 6 _ rfl)
      have c7 := keep (hcc 7 _ rfl)
      rw [Nat.add_zero] at c0
      have HGX := Lib.hid (HG.out x (List.mem_of_getElem? hx))
      have hwn := fewW_wn HFW.out (List.mem_of_getElem? hx)
      have HNX := Lib.hid (afterW_next (r := r) hx)
      have HGM := Lib.hid (afterW_good (W := w) r k L HG.out (by omega))
      clear hx hcc
      obtain ⟨m, hm⟩ : ∃ m, afterW r (L.take k) = m := ⟨_, rfl⟩
      rw [hm] at HLW HNX HGM
      clear hm
      obtain ⟨N, hN⟩ : ∃ N, stepW m x = N := ⟨_, rfl⟩
      have HGN := Lib.hid (show N.Good (k + 1) from hN ▸ good_step HGM.out HGX.out)
      rw [hN] at HNX
      obtain ⟨oa, oc, ba, bc, ia, ic, F, h0, h1, h2, h3, hM, h5, h6⟩ := HLW.out
      have HMB := Lib.hid h0
      have HWA := Lib.hid h1
      have HRI := Lib.hid h2
      have HNF := Lib.hid h5
      have HLE := Lib.hid h6
      clear HLW h0 h1 h2 h3 h5 h6
      have CD := Lib.hid (fun u F (hW : WAt u M M F m) (hR : RIs F u (.agg #[.int .i64 m.retries, .slice oa m.outs.length oc, .slice ba m.boxes.length bc, .slice ia m.images.length ic]) m) (hB : Below w.heap.size w u) => law16_does w M k m (.agg #[.int .i64 m.retries, .slice oa m.outs.length oc, .slice ba m.boxes.length bc, .slice ia m.images.length ic]) x u F hW hR hB hM HGM.out (by omega) (good_laterW HGX.out hB) (notin_before hW hM HGX.out.2.2) hwn)
      rw [hN] at CD
      clear hN
      go_upto_region 10 with fail
      refine wp_region_held_drew (S := fun u => Blk u mb [.int .i64 m.retries, .slice oa m.outs.length oc, .slice ba m.boxes.length bc, .slice ia m.images.length ic] 31 ∧ Below w.heap.size w u) (by kernel_rfl) (by exact ⟨HMB.out.later (belDrew (Below.refl _ _)), belDrew hbel⟩) (fun hHeld => ?_)
      refine wpAnyH_take (i := 0) (oi := ?oi_k1) (v := ?v_k1) ?hi_k1 (by kernel_rfl) ?hf_k1 ?hr_k1 ?hQ_k1 (Or.inl ⟨?hw_k1, ?hy_k1⟩) (by assumption) ?rest_k1
      case hi_k1 => ((simp only [List.getElem?_toArray, List.getElem?_cons_succ, List.getElem?_cons_zero]); rfl)
      case hf_k1 => kernel_rfl
      case hr_k1 => kernel_rfl
      case hQ_k1 => exact fun _ _ _ h => h
      case hw_k1 => rfl
      case hy_k1 => ((intro w hSw; (try dsimp only at hSw); go_simp); all_goals (with_reducible rfl))
      try simp only [Act.put, List.setIfInBounds_toArray, List.set_cons_zero, List.set_cons_succ]
      refine wpAnyH_take (i := 1) (oi := ?oi_k2) (v := ?v_k2) ?hi_k2 (by kernel_rfl) ?hf_k2 ?hr_k2 ?hQ_k2 (Or.inl ⟨?hw_k2, ?hy_k2⟩) (by assumption) ?rest_k2
      case hi_k2 => ((simp only [List.getElem?_toArray, List.getElem?_cons_succ, List.getElem?_cons_zero]); rfl)
      case hf_k2 => kernel_rfl
      case hr_k2 => kernel_rfl
      case hQ_k2 => exact fun _ _ _ h => h
      case hw_k2 => rfl
      case hy_k2 => ((intro w hSw; (try dsimp only at hSw); (have x0 := hSw.1.cell (j := 0) rfl; have x1 := hSw.1.cell (j := 1) rfl; have x2 := hSw.1.cell (j := 2) rfl; have x3 := hSw.1.cell (j := 3) rfl); go_simp); all_goals (with_reducible rfl))
      try simp only [Act.put, List.setIfInBounds_toArray, List.set_cons_zero, List.set_cons_succ]
      refine wpAnyH_take (i := 2) (oi := ?oi_k3) (v := ?v_k3) ?hi_k3 (by kernel_rfl) ?hf_k3 ?hr_k3 ?hQ_k3 (Or.inl ⟨?hw_k3, ?hy_k3⟩) (by assumption) ?rest_k3
      case hi_k3 => ((simp only [List.getElem?_toArray, List.getElem?_cons_succ, List.getElem?_cons_zero]); rfl)
      case hf_k3 => kernel_rfl
      case hr_k3 => kernel_rfl
      case hQ_k3 => exact fun _ _ _ h => h
      case hw_k3 => rfl
      case hy_k3 => ((intro w hSw; (try dsimp only at hSw); go_simp); all_goals (with_reducible rfl))
      try simp only [Act.put, List.setIfInBounds_toArray, List.set_cons_zero, List.set_cons_succ]
      refine wpAnyH_take (i := 3) (oi := ?oi_k4) (v := ?v_k4) ?hi_k4 (by kernel_rfl) ?hf_k4 ?hr_k4 ?hQ_k4 (Or.inl ⟨?hw_k4, ?hy_k4⟩) (by assumption) ?rest_k4
      case hi_k4 => ((simp only [List.getElem?_toArray, List.getElem?_cons_succ, List.getElem?_cons_zero]); rfl)
      case hf_k4 => kernel_rfl
      case hr_k4 => kernel_rfl
      case hQ_k4 => exact fun _ _ _ h => h
      case hw_k4 => rfl
      case hy_k4 => ((intro w hSw; (try dsimp only at hSw); go_simp); all_goals (with_reducible rfl))
      try simp only [Act.put, List.setIfInBounds_toArray, List.set_cons_zero, List.set_cons_succ]
      refine wpAnyH_take (i := 4) (oi := ?oi_k5) (v := ?v_k5) ?hi_k5 (by kernel_rfl) ?hf_k5 ?hr_k5 ?hQ_k5 (Or.inl ⟨?hw_k5, ?hy_k5⟩) (by assumption) ?rest_k5
      case hi_k5 => ((simp only [List.getElem?_toArray, List.getElem?_cons_succ, List.getElem?_cons_zero]); rfl)
      case hf_k5 => kernel_rfl
      case hr_k5 => kernel_rfl
      case hQ_k5 => exact fun _ _ _ h => h
      case hw_k5 => rfl
      case hy_k5 => ((intro w hSw; (try dsimp only at hSw); go_simp); all_goals (with_reducible rfl))
      try simp only [Act.put, List.setIfInBounds_toArray, List.set_cons_zero, List.set_cons_succ]
      refine wpAnyH_take (i := 5) (oi := ?oi_k6) (v := ?v_k6) ?hi_k6 (by kernel_rfl) ?hf_k6 ?hr_k6 ?hQ_k6 (Or.inl ⟨?hw_k6, ?hy_k6⟩) (by assumption) ?rest_k6
      case hi_k6 => ((simp only [List.getElem?_toArray, List.getElem?_cons_succ, List.getElem?_cons_zero]); rfl)
      case hf_k6 => kernel_rfl
      case hr_k6 => kernel_rfl
      case hQ_k6 => exact fun _ _ _ h => h
      case hw_k6 => rfl
      case hy_k6 => ((intro w hSw; (try dsimp only at hSw); (have hS2 := hSw.2); go_simp); all_goals (with_reducible rfl))
      try simp only [Act.put, List.setIfInBounds_toArray, List.set_cons_zero, List.set_cons_succ]
      refine wpAnyH_ready (rs := [6, 10]) (by kernel_rfl) (by simp) ?_
      refine AllReadyH.cons (o := ?oA_rr7) ?hiA_rr7 (fun K hK => ?restA_rr7) (AllReadyH.cons (o := ?oB_rr7) ?hiB_rr7 (fun K hK => ?restB_rr7) AllReadyH.nil)
      case hiA_rr7 => ((simp only [List.getElem?_toArray, List.getElem?_cons_succ, List.getElem?_cons_zero]); rfl)
      case hiB_rr7 => ((simp only [List.getElem?_toArray, List.getElem?_cons_succ, List.getElem?_cons_zero]); rfl)
      case restA_rr7 =>
        go_simp
        (go_at_call 19; (with_reducible refine (CD.out _ F (HWA.out.later (belDrew (Below.refl _ _))) (HRI.out.later (belDrew (Below.refl _ _))) (belDrew hbel)).mono ?_); rintro e wq ⟨v9, rfl, hj⟩; obtain ⟨G, g1, g2, g3, _, g5, g6⟩ := hj; have HG1 := Lib.hid g1; have HG2 := Lib.hid g2; have HG3 := Lib.hid g3; have HG5 := Lib.hid g5; have HG6 := Lib.hid g6; obtain ⟨oa1, oc1, ba1, bc1, ia1, ic1, rfl, hO1, hL1, hI1, hN1⟩ := g2; have hbo1 := hO1.2; have hbb1 := hL1.2; have hbi1 := hI1.2; have HRI1 := Lib.hid hI1; clear hO1 hL1 hI1 hN1; have HMQ := Lib.hid ((HMB.out.later (belDrew (Below.refl _ _))).apart g5 HNF.out); clear g1 g3 g5 g6)
        try go_simp
        refine hK.out _ _ (by exact ⟨HMQ.out, HG3.out⟩) (fun hHeld => ?_)
        clear hK K
        try simp only [Act.put, List.setIfInBounds_toArray, List.set_cons_zero, List.set_cons_succ]
        refine wpAnyH_take (i := 7) (oi := ?oi_k8) (v := ?v_k8) ?hi_k8 (by kernel_rfl) ?hf_k8 ?hr_k8 ?hQ_k8 (Or.inl ⟨?hw_k8, ?hy_k8⟩) (by assumption) ?rest_k8
        case hi_k8 => ((simp only [List.getElem?_toArray, List.getElem?_cons_succ, List.getElem?_cons_zero]); rfl)
        case hf_k8 => kernel_rfl
        case hr_k8 => kernel_rfl
        case hQ_k8 => exact fun _ _ _ h => h
        case hw_k8 => rfl
        case hy_k8 => ((intro w hSw; (try dsimp only at hSw); go_simp); all_goals (with_reducible rfl))
        try simp only [Act.put, List.setIfInBounds_toArray, List.set_cons_zero, List.set_cons_succ]
        refine wpAnyH_take (i := 8) (oi := ?oi_k9) (v := ?v_k9) ?hi_k9 (by kernel_rfl) ?hf_k9 ?hr_k9 ?hQ_k9 (Or.inl ⟨?hw_k9, ?hy_k9⟩) (by assumption) ?rest_k9
        case hi_k9 => ((simp only [List.getElem?_toArray, List.getElem?_cons_succ, List.getElem?_cons_zero]); rfl)
        case hf_k9 => kernel_rfl
        case hr_k9 => kernel_rfl
        case hQ_k9 => exact fun _ _ _ h => h
        case hw_k9 => rfl
        case hy_k9 => ((intro w hSw; (try dsimp only at hSw); go_simp); all_goals (with_reducible rfl))
        try simp only [Act.put, List.setIfInBounds_toArray, List.set_cons_zero, List.set_cons_succ]
        refine wpAnyH_take (i := 9) (oi := ?oi_k10) (v := ?v_k10) ?hi_k10 (by kernel_rfl) ?hf_k10 ?hr_k10 ?hQ_k10 (Or.inl ⟨?hw_k10, ?hy_k10⟩) (by assumption) ?rest_k10
        case hi_k10 => ((simp only [List.getElem?_toArray, List.getElem?_cons_succ, List.getElem?_cons_zero]); rfl)
        case hf_k10 => kernel_rfl
        case hr_k10 => kernel_rfl
        case hQ_k10 => exact fun _ _ _ h => h
        case hw_k10 => rfl
        case hy_k10 => ((intro w hSw; (try dsimp only at hSw); go_simp); all_goals (with_reducible rfl))
        try simp only [Act.put, List.setIfInBounds_toArray, List.set_cons_zero, List.set_cons_succ]
        refine wpAnyH_ready (rs := [10]) (by kernel_rfl) (by simp) ?_
        refine AllReadyH.cons (o := ?o1_k11) ?hi_k11 (fun K hK => ?rest_k11) AllReadyH.nil
        case hi_k11 => ((simp only [List.getElem?_toArray, List.getElem?_cons_succ, List.getElem?_cons_zero]); rfl)
        go_simp
        refine hK.out _ _ (by exact ⟨HMQ.out.later (belAlloc (Below.refl _ _) _), belAlloc HG3.out _⟩) (fun hHeld => ?_)
        clear hK K
        try simp only [Act.put, List.setIfInBounds_toArray, List.set_cons_zero, List.set_cons_succ]
        refine wpAnyH_ready (rs := [11]) (by kernel_rfl) (by simp) ?_
        refine AllReadyH.cons (o := ?o1_k12) ?hi_k12 (fun K hK => ?rest_k12) AllReadyH.nil
        case hi_k12 => ((simp only [List.getElem?_toArray, List.getElem?_cons_succ, List.getElem?_cons_zero]); rfl)
        go_simp
        refine hK.out _ _ (by exact ⟨HMQ.out.later (belAlloc (Below.refl _ _) _), belAlloc HG3.out _⟩) (fun hHeld => ?_)
        clear hK K
        try simp only [Act.put, List.setIfInBounds_toArray, List.set_cons_zero, List.set_cons_succ]
        refine wpAnyH_take (i := 12) (oi := ?oi_k13) (v := ?v_k13) ?hi_k13 (by kernel_rfl) ?hf_k13 ?hr_k13 ?hQ_k13 (Or.inl ⟨?hw_k13, ?hy_k13⟩) (by assumption) ?rest_k13
        case hi_k13 => ((simp only [List.getElem?_toArray, List.getElem?_cons_succ, List.getElem?_cons_zero]); rfl)
        case hf_k13 => kernel_rfl
        case hr_k13 => kernel_rfl
        case hQ_k13 => exact fun _ _ _ h => h
        case hw_k13 => rfl
        case hy_k13 => ((intro w hSw; (try dsimp only at hSw); go_simp); all_goals (with_reducible rfl))
        try simp only [Act.put, List.setIfInBounds_toArray, List.set_cons_zero, List.set_cons_succ]
        refine wpAnyH_done (by kernel_rfl) ?_ _
        have k9 := belAlloc (Below.refl wq.heap.size wq) (.cells #[.int .i64 N.retries, .slice oa1 N.outs.length oc1, .slice ba1 N.boxes.length bc1, .slice ia1 N.images.length ic1] 31)
        have HX9 := Lib.hid (Blk.new wq [.int .i64 N.retries, .slice oa1 N.outs.length oc1, .slice ba1 N.boxes.length bc1, .slice ia1 N.images.length ic1] 31)
        replace HG1 := Lib.hid (HG1.out.later k9)
        replace HG2 := Lib.hid (HG2.out.later k9)
        replace HMQ := Lib.hid (HMQ.out.later k9)
        replace HG3 := Lib.hid (belStep HG3.out k9)
        have HNQ := Lib.hid (show mb ∉ G from fun q => (HG6.out _ q).elim HNF.out (fun r_ => absurd HMB.out.lt (Nat.not_lt.2 r_)))
        clear k9 hHeld hbel HG5 HG6 CD
        generalize wq.alloc (.cells #[.int .i64 N.retries, .slice oa1 N.outs.length oc1, .slice ba1 N.boxes.length bc1, .slice ia1 N.images.length ic1] 31) = W9 at *
        generalize wq.heap.size = xb at *
        have x0 := HX9.out.cell (j := 0) rfl
        have x1 := HX9.out.cell (j := 1) rfl
        have x2 := HX9.out.cell (j := 2) rfl
        have x3 := HX9.out.cell (j := 3) rfl
        have z0 := HMQ.out.cell (j := 0) rfl
        have z1 := HMQ.out.cell (j := 1) rfl
        have z2 := HMQ.out.cell (j := 2) rfl
        have z3 := HMQ.out.cell (j := 3) rfl
        have zf := HMQ.out.frozen
        go_upto_region 12 with fail
        have HLW := Lib.hid (loopW_put HG1.out HG2.out HG3.out hM HNQ.out HLE.out _ _ _ _ HMQ.out (kindW _ _ _ _ _ _ _ _ _ _))
        clear x0 x1 x2 x3 z0 z1 z2 z3 zf HX9 HMQ HG1 HG2 HG3 HNQ
        generalize ((((W9.setCell ⟨mb, 0, none⟩ (.int .i64 N.retries)).setCell ⟨mb, 1, none⟩ (.slice oa1 N.outs.length oc1)).setCell ⟨mb, 2, none⟩ (.slice ba1 N.boxes.length bc1)).setCell ⟨mb, 3, none⟩ (.slice ia1 N.images.length ic1)) = W11 at *
        obtain ⟨oa2, oc2, ba2, bc2, ia2, ic2, F2, h0, h1, h2, h3, _, _⟩ := HLW.out
        have HM2 := Lib.hid h0
        have HW2 := Lib.hid h1
        have HR2 := Lib.hid h2
        have hbel := h3
        have HRB := Lib.hid (ris_boxes h2)
        clear h0 h1 h2 h3
        have hbb2 := HRB.out.2.1
        have hbb3 : bc2 ≤ 9223372036854775807 := by have h_ := HRB.out.2.2.1; unfold maxLen at h_; exact h_
        obtain ⟨t, ht⟩ : ∃ t, thereC N.boxes x.id = t := ⟨_, rfl⟩
        obtain ⟨y, hy⟩ : ∃ y, fndC N.boxes x.id = y := ⟨_, rfl⟩
        have CB := Lib.hid (fun u (hu : Below W11.heap.size W11 u) => show Calls Try.prog 20 #[.pointer (some ⟨M, 0, none⟩), .string x.id] u fun e w' => e = .returned (.tuple #[.agg #[.int .i64 y.state, .int .i64 y.tries], .bool t]) ∧ Below u.heap.size u w' from by have h := wd_Box M M F2 N x.id u (HW2.out.later hu) HGN.out.rises (Nat.le_trans HGN.out.len (by omega)); rw [ht, hy] at h; exact h)
        have CP := Lib.hid (fun u p (hp : placeRC N.boxes x.id = p) (hu : Below W11.heap.size W11 u) => show Calls Try.prog 21 #[.slice ba2 N.boxes.length bc2, .string x.id] u fun e w' => e = .returned (.int .i64 p) ∧ Below u.heap.size u w' from hp ▸ r16_Place ba2 N.boxes.length bc2 N.boxes x.id u rfl (HRB.out.later hu))
        have CS := Lib.hid (fun u (hu : Below W11.heap.size W11 u) => show Calls Try.prog 22 #[.pointer (some ⟨M, 0, none⟩), .agg #[.int .i64 N.retries, .slice oa2 N.outs.length oc2, .slice ba2 N.boxes.length bc2, .slice ia2 N.images.length ic2]] u fun e w' => e = .returned (.bool true) ∧ Below u.heap.size u w' from samesW N ▸ law16_same M F2 F2 N N _ (k + 1) u (HW2.out.later hu) HGN.out (by omega) (HR2.out.later hu))
        have HTT := Lib.hid (And.intro ht hy)
        clear ht hy
        go_upto_region 13 with (go_at_call 20; (with_reducible refine (CB.out _ (Below.refl _ _)).mono ?_); rintro e wb ⟨rfl, hb_⟩; have HB1 := Lib.hid hb_; clear hb_)
        have HB2 := Lib.hid (show Below W11.heap.size W11 (wb.alloc (.cells #[.int .i64 y.state, .int .i64 y.tries] 38)) from belStep HB1.out (belAlloc (Below.refl _ _) _))
        have HBX := Lib.hid (Blk.new wb [.int .i64 y.state, .int .i64 y.tries] 38)
        generalize (wb.alloc (.cells #[.int .i64 y.state, .int .i64 y.tries] 38)) = W12 at *
        generalize wb.heap.size = bx at *
        clear HB1 CB
        have HM3 := Lib.hid (HM2.out.later HB2.out)
        replace hbel := belStep hbel HB2.out
        have m2 := keep (HM3.out.cell (j := 2) rfl)
        replace c2 := keepOnP c2 hbel
        clear hbel
        have hbel : Below W12.heap.size W12 W12 := Below.refl _ _
        cases t with
        | true =>
          obtain ⟨p, hp1, hp2, hp3⟩ := placeRC_yes HGN.out.rises HTT.out.1
          rw [HTT.out.2] at hp3
          have HPX := Lib.hid hp3
          clear hp3
          have hpi : (p : Int) < (N.boxes.length : Int) := by omega
          have hp0 : (0 : Int) ≤ (p : Int) := by omega
          have hpd : decide ((0 : Int) ≤ (p : Int)) = true := decide_eq_true hp0
          refine wp_region_held_drew (S := fun u => Below W12.heap.size W12 u) (by kernel_rfl) (by exact (show Below W12.heap.size W12 _ by repeat (first | assumption | exact Below.refl _ _ | refine belDrew ?_ | refine belAlloc ?_ _ | refine belStep ?_ (by assumption)))) (fun hHeld => ?_)
          refine wpAnyH_take (i := 0) (oi := ?oi_k14) (v := ?v_k14) ?hi_k14 (by kernel_rfl) ?hf_k14 ?hr_k14 ?hQ_k14 (Or.inl ⟨?hw_k14, ?hy_k14⟩) (by assumption) ?rest_k14
          case hi_k14 => ((simp only [List.getElem?_toArray, List.getElem?_cons_succ, List.getElem?_cons_zero]); rfl)
          case hf_k14 => kernel_rfl
          case hr_k14 => kernel_rfl
          case hQ_k14 => exact fun _ _ _ h => h
          case hw_k14 => rfl
          case hy_k14 => ((intro w hSw; (try dsimp only at hSw); go_simp); all_goals (with_reducible rfl))
          try simp only [Act.put, List.setIfInBounds_toArray, List.set_cons_zero, List.set_cons_succ]
          refine wpAnyH_take (i := 1) (oi := ?oi_k15) (v := ?v_k15) ?hi_k15 (by kernel_rfl) ?hf_k15 ?hr_k15 ?hQ_k15 (Or.inl ⟨?hw_k15, ?hy_k15⟩) (by assumption) ?rest_k15
          case hi_k15 => ((simp only [List.getElem?_toArray, List.getElem?_cons_succ, List.getElem?_cons_zero]); rfl)
          case hf_k15 => kernel_rfl
          case hr_k15 => kernel_rfl
          case hQ_k15 => exact fun _ _ _ h => h
          case hw_k15 => rfl
          case hy_k15 => ((intro w hSw; (try dsimp only at hSw); go_simp); all_goals (with_reducible rfl))
          try simp only [Act.put, List.setIfInBounds_toArray, List.set_cons_zero, List.set_cons_succ]
          refine wpAnyH_take (i := 2) (oi := ?oi_k16) (v := ?v_k16) ?hi_k16 (by kernel_rfl) ?hf_k16 ?hr_k16 ?hQ_k16 (Or.inl ⟨?hw_k16, ?hy_k16⟩) (by assumption) ?rest_k16
          case hi_k16 => ((simp only [List.getElem?_toArray, List.getElem?_cons_succ, List.getElem?_cons_zero]); rfl)
          case hf_k16 => kernel_rfl
          case hr_k16 => kernel_rfl
          case hQ_k16 => exact fun _ _ _ h => h
          case hw_k16 => rfl
          case hy_k16 => ((intro w hSw; (try dsimp only at hSw); go_simp); all_goals (with_reducible rfl))
          try simp only [Act.put, List.setIfInBounds_toArray, List.set_cons_zero, List.set_cons_succ]
          refine wpAnyH_take (i := 3) (oi := ?oi_k17) (v := ?v_k17) ?hi_k17 (by kernel_rfl) ?hf_k17 ?hr_k17 ?hQ_k17 (Or.inl ⟨?hw_k17, ?hy_k17⟩) (by assumption) ?rest_k17
          case hi_k17 => ((simp only [List.getElem?_toArray, List.getElem?_cons_succ, List.getElem?_cons_zero]); rfl)
          case hf_k17 => kernel_rfl
          case hr_k17 => kernel_rfl
          case hQ_k17 => exact fun _ _ _ h => h
          case hw_k17 => rfl
          case hy_k17 => ((intro w hSw; (try dsimp only at hSw); go_simp); all_goals (with_reducible rfl))
          try simp only [Act.put, List.setIfInBounds_toArray, List.set_cons_zero, List.set_cons_succ]
          refine wpAnyH_take (i := 4) (oi := ?oi_k18) (v := ?v_k18) ?hi_k18 (by kernel_rfl) ?hf_k18 ?hr_k18 ?hQ_k18 (Or.inl ⟨?hw_k18, ?hy_k18⟩) (by assumption) ?rest_k18
          case hi_k18 => ((simp only [List.getElem?_toArray, List.getElem?_cons_succ, List.getElem?_cons_zero]); rfl)
          case hf_k18 => kernel_rfl
          case hr_k18 => kernel_rfl
          case hQ_k18 => exact fun _ _ _ h => h
          case hw_k18 => rfl
          case hy_k18 => ((intro w hSw; (try dsimp only at hSw); go_simp); all_goals (with_reducible rfl))
          try simp only [Act.put, List.setIfInBounds_toArray, List.set_cons_zero, List.set_cons_succ]
          refine wpAnyH_take (i := 5) (oi := ?oi_k19) (v := ?v_k19) ?hi_k19 (by kernel_rfl) ?hf_k19 ?hr_k19 ?hQ_k19 (Or.inl ⟨?hw_k19, ?hy_k19⟩) (by assumption) ?rest_k19
          case hi_k19 => ((simp only [List.getElem?_toArray, List.getElem?_cons_succ, List.getElem?_cons_zero]); rfl)
          case hf_k19 => kernel_rfl
          case hr_k19 => kernel_rfl
          case hQ_k19 => exact fun _ _ _ h => h
          case hw_k19 => rfl
          case hy_k19 => ((intro w hSw; (try dsimp only at hSw); go_simp); all_goals (with_reducible rfl))
          try simp only [Act.put, List.setIfInBounds_toArray, List.set_cons_zero, List.set_cons_succ]
          refine wpAnyH_take (i := 6) (oi := ?oi_k20) (v := ?v_k20) ?hi_k20 (by kernel_rfl) ?hf_k20 ?hr_k20 ?hQ_k20 (Or.inl ⟨?hw_k20, ?hy_k20⟩) (by assumption) ?rest_k20
          case hi_k20 => ((simp only [List.getElem?_toArray, List.getElem?_cons_succ, List.getElem?_cons_zero]); rfl)
          case hf_k20 => kernel_rfl
          case hr_k20 => kernel_rfl
          case hQ_k20 => exact fun _ _ _ h => h
          case hw_k20 => rfl
          case hy_k20 => ((intro w hSw; (try dsimp only at hSw); go_simp); all_goals (with_reducible rfl))
          try simp only [Act.put, List.setIfInBounds_toArray, List.set_cons_zero, List.set_cons_succ]
          refine wpAnyH_ready (rs := [7]) (by kernel_rfl) (by simp) ?_
          refine AllReadyH.cons (o := ?o1_k21) ?hi_k21 (fun K hK => ?rest_k21) AllReadyH.nil
          case hi_k21 => ((simp only [List.getElem?_toArray, List.getElem?_cons_succ, List.getElem?_cons_zero]); rfl)
          go_simp
          (go_at_call 21; (with_reducible refine (CP.out _ (p : Int) hp2 (belStep HB2.out hHeld)).mono ?_); rintro e wq7 ⟨rfl, hbq⟩)
          have hu7 : Below W12.heap.size W12 wq7 := belStep hHeld hbq
          clear hbq
          try go_simp
          refine hK.out _ _ (by exact hu7) (fun hHeld => ?_)
          clear hK K
          try simp only [Act.put, List.setIfInBounds_toArray, List.set_cons_zero, List.set_cons_succ]
          refine wpAnyH_take (i := 8) (oi := ?oi_k22) (v := ?v_k22) ?hi_k22 (by kernel_rfl) ?hf_k22 ?hr_k22 ?hQ_k22 (Or.inl ⟨?hw_k22, ?hy_k22⟩) (by assumption) ?rest_k22
          case hi_k22 => ((simp only [List.getElem?_toArray, List.getElem?_cons_succ, List.getElem?_cons_zero]); rfl)
          case hf_k22 => kernel_rfl
          case hr_k22 => kernel_rfl
          case hQ_k22 => exact fun _ _ _ h => h
          case hw_k22 => rfl
          case hy_k22 => ((intro w hSw; (try dsimp only at hSw); go_simp); all_goals (with_reducible rfl))
          try simp only [Act.put, List.setIfInBounds_toArray, List.set_cons_zero, List.set_cons_succ]
          refine wpAnyH_done (by kernel_rfl) ?_ _
          have HBP := Lib.hid hu7
          have HB3 := Lib.hid (belStep HB2.out hu7)
          generalize wq7 = W13 at *
          clear m2 hbel hHeld hu7
          have HM4 := Lib.hid (HM3.out.later HBP.out)
          have HBX4 := Lib.hid (HBX.out.later HBP.out)
          have hbel : Below W13.heap.size W13 W13 := Below.refl _ _
          have m0 := keep (HM4.out.cell (j := 0) rfl)
          have m1 := keep (HM4.out.cell (j := 1) rfl)
          have m2 := keep (HM4.out.cell (j := 2) rfl)
          have m3 := keep (HM4.out.cell (j := 3) rfl)
          have b0 := keep (HBX4.out.cell (j := 0) rfl)
          have b1 := keep (HBX4.out.cell (j := 1) rfl)
          obtain ⟨be, oe, ee, _, hce⟩ := (HRB.out.later HB3.out).elem ContV.cells_len (by omega) HPX.out
          subst ee
          have e0 := keep (hce 0 _ rfl)
          have e1 := keep (hce 1 _ rfl)
          have e2 := keep (hce 2 _ rfl)
          have e3 := keep (hce 3 _ rfl)
          rw [Nat.add_zero] at e0
          clear hce
          have heq := fun u : World => show (Op.equalIn 10000 38 (.agg #[.int .i64 y.state, .int .i64 y.tries]) (.agg #[.int .i64 y.state, .int .i64 y.tries])).run Try.prog u = .ok true u from (eq_box y.state y.tries y.state y.tries u).trans (by simp)
          go_upto_region 14 with fail
          refine wp_region_held_drew (S := fun u => Below W13.heap.size W13 u) (by kernel_rfl) (by exact (show Below W13.heap.size W13 _ by repeat (first | assumption | exact Below.refl _ _ | refine belDrew ?_ | refine belAlloc ?_ _ | refine belStep ?_ (by assumption)))) (fun hHeld => ?_)
          refine wpAnyH_take (i := 0) (oi := ?oi_k23) (v := ?v_k23) ?hi_k23 (by kernel_rfl) ?hf_k23 ?hr_k23 ?hQ_k23 (Or.inl ⟨?hw_k23, ?hy_k23⟩) (by assumption) ?rest_k23
          case hi_k23 => ((simp only [List.getElem?_toArray, List.getElem?_cons_succ, List.getElem?_cons_zero]); rfl)
          case hf_k23 => kernel_rfl
          case hr_k23 => kernel_rfl
          case hQ_k23 => exact fun _ _ _ h => h
          case hw_k23 => rfl
          case hy_k23 => ((intro w hSw; (try dsimp only at hSw); go_simp); all_goals (with_reducible rfl))
          try simp only [Act.put, List.setIfInBounds_toArray, List.set_cons_zero, List.set_cons_succ]
          refine wpAnyH_take (i := 1) (oi := ?oi_k24) (v := ?v_k24) ?hi_k24 (by kernel_rfl) ?hf_k24 ?hr_k24 ?hQ_k24 (Or.inl ⟨?hw_k24, ?hy_k24⟩) (by assumption) ?rest_k24
          case hi_k24 => ((simp only [List.getElem?_toArray, List.getElem?_cons_succ, List.getElem?_cons_zero]); rfl)
          case hf_k24 => kernel_rfl
          case hr_k24 => kernel_rfl
          case hQ_k24 => exact fun _ _ _ h => h
          case hw_k24 => rfl
          case hy_k24 => ((intro w hSw; (try dsimp only at hSw); go_simp); all_goals (with_reducible rfl))
          try simp only [Act.put, List.setIfInBounds_toArray, List.set_cons_zero, List.set_cons_succ]
          refine wpAnyH_take (i := 2) (oi := ?oi_k25) (v := ?v_k25) ?hi_k25 (by kernel_rfl) ?hf_k25 ?hr_k25 ?hQ_k25 (Or.inl ⟨?hw_k25, ?hy_k25⟩) (by assumption) ?rest_k25
          case hi_k25 => ((simp only [List.getElem?_toArray, List.getElem?_cons_succ, List.getElem?_cons_zero]); rfl)
          case hf_k25 => kernel_rfl
          case hr_k25 => kernel_rfl
          case hQ_k25 => exact fun _ _ _ h => h
          case hw_k25 => rfl
          case hy_k25 => ((intro w hSw; (try dsimp only at hSw); go_simp); all_goals (with_reducible rfl))
          try simp only [Act.put, List.setIfInBounds_toArray, List.set_cons_zero, List.set_cons_succ]
          refine wpAnyH_take (i := 3) (oi := ?oi_k26) (v := ?v_k26) ?hi_k26 (by kernel_rfl) ?hf_k26 ?hr_k26 ?hQ_k26 (Or.inl ⟨?hw_k26, ?hy_k26⟩) (by assumption) ?rest_k26
          case hi_k26 => ((simp only [List.getElem?_toArray, List.getElem?_cons_succ, List.getElem?_cons_zero]); rfl)
          case hf_k26 => kernel_rfl
          case hr_k26 => kernel_rfl
          case hQ_k26 => exact fun _ _ _ h => h
          case hw_k26 => rfl
          case hy_k26 => ((intro w hSw; (try dsimp only at hSw); go_simp); all_goals (with_reducible rfl))
          try simp only [Act.put, List.setIfInBounds_toArray, List.set_cons_zero, List.set_cons_succ]
          refine wpAnyH_take (i := 4) (oi := ?oi_k27) (v := ?v_k27) ?hi_k27 (by kernel_rfl) ?hf_k27 ?hr_k27 ?hQ_k27 (Or.inl ⟨?hw_k27, ?hy_k27⟩) (by assumption) ?rest_k27
          case hi_k27 => ((simp only [List.getElem?_toArray, List.getElem?_cons_succ, List.getElem?_cons_zero]); rfl)
          case hf_k27 => kernel_rfl
          case hr_k27 => kernel_rfl
          case hQ_k27 => exact fun _ _ _ h => h
          case hw_k27 => rfl
          case hy_k27 => ((intro w hSw; (try dsimp only at hSw); go_simp); all_goals (with_reducible rfl))
          try simp only [Act.put, List.setIfInBounds_toArray, List.set_cons_zero, List.set_cons_succ]
          refine wpAnyH_ready (rs := [5]) (by kernel_rfl) (by simp) ?_
          refine AllReadyH.cons (o := ?o1_k28) ?hi_k28 (fun K hK => ?rest_k28) AllReadyH.nil
          case hi_k28 => ((simp only [List.getElem?_toArray, List.getElem?_cons_succ, List.getElem?_cons_zero]); rfl)
          go_simp
          (go_at_call 22; (with_reducible refine (CS.out _ (belStep HB3.out hHeld)).mono ?_); rintro e wq5 ⟨rfl, hbq⟩)
          have hu5 : Below W13.heap.size W13 wq5 := belStep hHeld hbq
          clear hbq
          try go_simp
          refine hK.out _ _ (by exact hu5) (fun hHeld => ?_)
          clear hK K
          try simp only [Act.put, List.setIfInBounds_toArray, List.set_cons_zero, List.set_cons_succ]
          refine wpAnyH_take (i := 6) (oi := ?oi_k29) (v := ?v_k29) ?hi_k29 (by kernel_rfl) ?hf_k29 ?hr_k29 ?hQ_k29 (Or.inl ⟨?hw_k29, ?hy_k29⟩) (by assumption) ?rest_k29
          case hi_k29 => ((simp only [List.getElem?_toArray, List.getElem?_cons_succ, List.getElem?_cons_zero]); rfl)
          case hf_k29 => kernel_rfl
          case hr_k29 => kernel_rfl
          case hQ_k29 => exact fun _ _ _ h => h
          case hw_k29 => rfl
          case hy_k29 => ((intro w hSw; (try dsimp only at hSw); go_simp); all_goals (with_reducible rfl))
          try simp only [Act.put, List.setIfInBounds_toArray, List.set_cons_zero, List.set_cons_succ]
          refine wpAnyH_take (i := 7) (oi := ?oi_k30) (v := ?v_k30) ?hi_k30 (by kernel_rfl) ?hf_k30 ?hr_k30 ?hQ_k30 (Or.inl ⟨?hw_k30, ?hy_k30⟩) (by assumption) ?rest_k30
          case hi_k30 => ((simp only [List.getElem?_toArray, List.getElem?_cons_succ, List.getElem?_cons_zero]); rfl)
          case hf_k30 => kernel_rfl
          case hr_k30 => kernel_rfl
          case hQ_k30 => exact fun _ _ _ h => h
          case hw_k30 => rfl
          case hy_k30 => ((intro w hSw; (try dsimp only at hSw); go_simp); all_goals (with_reducible rfl))
          try simp only [Act.put, List.setIfInBounds_toArray, List.set_cons_zero, List.set_cons_succ]
          refine wpAnyH_take (i := 8) (oi := ?oi_k31) (v := ?v_k31) ?hi_k31 (by kernel_rfl) ?hf_k31 ?hr_k31 ?hQ_k31 (Or.inl ⟨?hw_k31, ?hy_k31⟩) (by assumption) ?rest_k31
          case hi_k31 => ((simp only [List.getElem?_toArray, List.getElem?_cons_succ, List.getElem?_cons_zero]); rfl)
          case hf_k31 => kernel_rfl
          case hr_k31 => kernel_rfl
          case hQ_k31 => exact fun _ _ _ h => h
          case hw_k31 => rfl
          case hy_k31 => ((intro w hSw; (try dsimp only at hSw); go_simp); all_goals (with_reducible rfl))
          try simp only [Act.put, List.setIfInBounds_toArray, List.set_cons_zero, List.set_cons_succ]
          refine wpAnyH_take (i := 9) (oi := ?oi_k32) (v := ?v_k32) ?hi_k32 (by kernel_rfl) ?hf_k32 ?hr_k32 ?hQ_k32 (Or.inl ⟨?hw_k32, ?hy_k32⟩) (by assumption) ?rest_k32
          case hi_k32 => ((simp only [List.getElem?_toArray, List.getElem?_cons_succ, List.getElem?_cons_zero]); rfl)
          case hf_k32 => kernel_rfl
          case hr_k32 => kernel_rfl
          case hQ_k32 => exact fun _ _ _ h => h
          case hw_k32 => rfl
          case hy_k32 => ((intro w hSw; (try dsimp only at hSw); go_simp); all_goals (with_reducible rfl))
          try simp only [Act.put, List.setIfInBounds_toArray, List.set_cons_zero, List.set_cons_succ]
          refine wpAnyH_take (i := 10) (oi := ?oi_k33) (v := ?v_k33) ?hi_k33 (by kernel_rfl) ?hf_k33 ?hr_k33 ?hQ_k33 (Or.inl ⟨?hw_k33, ?hy_k33⟩) (by assumption) ?rest_k33
          case hi_k33 => ((simp only [List.getElem?_toArray, List.getElem?_cons_succ, List.getElem?_cons_zero]); rfl)
          case hf_k33 => kernel_rfl
          case hr_k33 => kernel_rfl
          case hQ_k33 => exact fun _ _ _ h => h
          case hw_k33 => rfl
          case hy_k33 => ((intro w hSw; (try dsimp only at hSw); go_simp); all_goals (with_reducible rfl))
          try simp only [Act.put, List.setIfInBounds_toArray, List.set_cons_zero, List.set_cons_succ]
          refine wpAnyH_take (i := 11) (oi := ?oi_k34) (v := ?v_k34) ?hi_k34 (by kernel_rfl) ?hf_k34 ?hr_k34 ?hQ_k34 (Or.inl ⟨?hw_k34, ?hy_k34⟩) (by assumption) ?rest_k34
          case hi_k34 => ((simp only [List.getElem?_toArray, List.getElem?_cons_succ, List.getElem?_cons_zero]); rfl)
          case hf_k34 => kernel_rfl
          case hr_k34 => kernel_rfl
          case hQ_k34 => exact fun _ _ _ h => h
          case hw_k34 => rfl
          case hy_k34 => ((intro w hSw; (try dsimp only at hSw); go_simp); all_goals (with_reducible rfl))
          try simp only [Act.put, List.setIfInBounds_toArray, List.set_cons_zero, List.set_cons_succ]
          refine wpAnyH_take (i := 12) (oi := ?oi_k35) (v := ?v_k35) ?hi_k35 (by kernel_rfl) ?hf_k35 ?hr_k35 ?hQ_k35 (Or.inl ⟨?hw_k35, ?hy_k35⟩) (by assumption) ?rest_k35
          case hi_k35 => ((simp only [List.getElem?_toArray, List.getElem?_cons_succ, List.getElem?_cons_zero]); rfl)
          case hf_k35 => kernel_rfl
          case hr_k35 => kernel_rfl
          case hQ_k35 => exact fun _ _ _ h => h
          case hw_k35 => rfl
          case hy_k35 => ((intro w hSw; (try dsimp only at hSw); go_simp); all_goals (with_reducible rfl))
          try simp only [Act.put, List.setIfInBounds_toArray, List.set_cons_zero, List.set_cons_succ]
          refine wpAnyH_take (i := 13) (oi := ?oi_k36) (v := ?v_k36) ?hi_k36 (by kernel_rfl) ?hf_k36 ?hr_k36 ?hQ_k36 (Or.inl ⟨?hw_k36, ?hy_k36⟩) (by assumption) ?rest_k36
          case hi_k36 => ((simp only [List.getElem?_toArray, List.getElem?_cons_succ, List.getElem?_cons_zero]); rfl)
          case hf_k36 => kernel_rfl
          case hr_k36 => kernel_rfl
          case hQ_k36 => exact fun _ _ _ h => h
          case hw_k36 => rfl
          case hy_k36 => ((intro w hSw; (try dsimp only at hSw); go_simp); all_goals (with_reducible rfl))
          try simp only [Act.put, List.setIfInBounds_toArray, List.set_cons_zero, List.set_cons_succ]
          refine wpAnyH_take (i := 14) (oi := ?oi_k37) (v := ?v_k37) ?hi_k37 (by kernel_rfl) ?hf_k37 ?hr_k37 ?hQ_k37 (Or.inl ⟨?hw_k37, ?hy_k37⟩) (by assumption) ?rest_k37
          case hi_k37 => ((simp only [List.getElem?_toArray, List.getElem?_cons_succ, List.getElem?_cons_zero]); rfl)
          case hf_k37 => kernel_rfl
          case hr_k37 => kernel_rfl
          case hQ_k37 => exact fun _ _ _ h => h
          case hw_k37 => rfl
          case hy_k37 => ((intro w hSw; (try dsimp only at hSw); go_simp); all_goals (with_reducible rfl))
          try simp only [Act.put, List.setIfInBounds_toArray, List.set_cons_zero, List.set_cons_succ]
          refine wpAnyH_take (i := 15) (oi := ?oi_k38) (v := ?v_k38) ?hi_k38 (by kernel_rfl) ?hf_k38 ?hr_k38 ?hQ_k38 (Or.inl ⟨?hw_k38, ?hy_k38⟩) (by assumption) ?rest_k38
          case hi_k38 => ((simp only [List.getElem?_toArray, List.getElem?_cons_succ, List.getElem?_cons_zero]); rfl)
          case hf_k38 => kernel_rfl
          case hr_k38 => kernel_rfl
          case hQ_k38 => exact fun _ _ _ h => h
          case hw_k38 => rfl
          case hy_k38 => ((intro w hSw; (try dsimp only at hSw); go_simp); all_goals (with_reducible rfl))
          try simp only [Act.put, List.setIfInBounds_toArray, List.set_cons_zero, List.set_cons_succ]
          refine wpAnyH_take (i := 16) (oi := ?oi_k39) (v := ?v_k39) ?hi_k39 (by kernel_rfl) ?hf_k39 ?hr_k39 ?hQ_k39 (Or.inl ⟨?hw_k39, ?hy_k39⟩) (by assumption) ?rest_k39
          case hi_k39 => ((simp only [List.getElem?_toArray, List.getElem?_cons_succ, List.getElem?_cons_zero]); rfl)
          case hf_k39 => kernel_rfl
          case hr_k39 => kernel_rfl
          case hQ_k39 => exact fun _ _ _ h => h
          case hw_k39 => rfl
          case hy_k39 => ((intro w hSw; (try dsimp only at hSw); go_simp); all_goals (with_reducible rfl))
          try simp only [Act.put, List.setIfInBounds_toArray, List.set_cons_zero, List.set_cons_succ]
          refine wpAnyH_take (i := 17) (oi := ?oi_k40) (v := ?v_k40) ?hi_k40 (by kernel_rfl) ?hf_k40 ?hr_k40 ?hQ_k40 (Or.inl ⟨?hw_k40, ?hy_k40⟩) (by assumption) ?rest_k40
          case hi_k40 => ((simp only [List.getElem?_toArray, List.getElem?_cons_succ, List.getElem?_cons_zero]); rfl)
          case hf_k40 => kernel_rfl
          case hr_k40 => kernel_rfl
          case hQ_k40 => exact fun _ _ _ h => h
          case hw_k40 => rfl
          case hy_k40 => ((intro w hSw; (try dsimp only at hSw); go_simp); all_goals (with_reducible rfl))
          try simp only [Act.put, List.setIfInBounds_toArray, List.set_cons_zero, List.set_cons_succ]
          refine wpAnyH_take (i := 18) (oi := ?oi_k41) (v := ?v_k41) ?hi_k41 (by kernel_rfl) ?hf_k41 ?hr_k41 ?hQ_k41 (Or.inl ⟨?hw_k41, ?hy_k41⟩) (by assumption) ?rest_k41
          case hi_k41 => ((simp only [List.getElem?_toArray, List.getElem?_cons_succ, List.getElem?_cons_zero]); rfl)
          case hf_k41 => kernel_rfl
          case hr_k41 => kernel_rfl
          case hQ_k41 => exact fun _ _ _ h => h
          case hw_k41 => rfl
          case hy_k41 => ((intro w hSw; (try dsimp only at hSw); go_simp); all_goals (with_reducible rfl))
          try simp only [Act.put, List.setIfInBounds_toArray, List.set_cons_zero, List.set_cons_succ]
          refine wpAnyH_take (i := 19) (oi := ?oi_k42) (v := ?v_k42) ?hi_k42 (by kernel_rfl) ?hf_k42 ?hr_k42 ?hQ_k42 (Or.inl ⟨?hw_k42, ?hy_k42⟩) (by assumption) ?rest_k42
          case hi_k42 => ((simp only [List.getElem?_toArray, List.getElem?_cons_succ, List.getElem?_cons_zero]); rfl)
          case hf_k42 => kernel_rfl
          case hr_k42 => kernel_rfl
          case hQ_k42 => exact fun _ _ _ h => h
          case hw_k42 => rfl
          case hy_k42 => ((intro w hSw; (try dsimp only at hSw); go_simp); all_goals (with_reducible rfl))
          try simp only [Act.put, List.setIfInBounds_toArray, List.set_cons_zero, List.set_cons_succ]
          refine wpAnyH_take (i := 20) (oi := ?oi_k43) (v := ?v_k43) ?hi_k43 (by kernel_rfl) ?hf_k43 ?hr_k43 ?hQ_k43 (Or.inl ⟨?hw_k43, ?hy_k43⟩) (by assumption) ?rest_k43
          case hi_k43 => ((simp only [List.getElem?_toArray, List.getElem?_cons_succ, List.getElem?_cons_zero]); rfl)
          case hf_k43 => kernel_rfl
          case hr_k43 => kernel_rfl
          case hQ_k43 => exact fun _ _ _ h => h
          case hw_k43 => rfl
          case hy_k43 => ((intro w hSw; (try dsimp only at hSw); go_simp); all_goals (with_reducible rfl))
          try simp only [Act.put, List.setIfInBounds_toArray, List.set_cons_zero, List.set_cons_succ]
          refine wpAnyH_take (i := 21) (oi := ?oi_k44) (v := ?v_k44) ?hi_k44 (by kernel_rfl) ?hf_k44 ?hr_k44 ?hQ_k44 (Or.inl ⟨?hw_k44, ?hy_k44⟩) (by assumption) ?rest_k44
          case hi_k44 => ((simp only [List.getElem?_toArray, List.getElem?_cons_succ, List.getElem?_cons_zero]); rfl)
          case hf_k44 => kernel_rfl
          case hr_k44 => kernel_rfl
          case hQ_k44 => exact fun _ _ _ h => h
          case hw_k44 => rfl
          case hy_k44 => ((intro w hSw; (try dsimp only at hSw); go_simp); all_goals (with_reducible rfl))
          try simp only [Act.put, List.setIfInBounds_toArray, List.set_cons_zero, List.set_cons_succ]
          refine wpAnyH_take (i := 22) (oi := ?oi_k45) (v := ?v_k45) ?hi_k45 (by kernel_rfl) ?hf_k45 ?hr_k45 ?hQ_k45 (Or.inl ⟨?hw_k45, ?hy_k45⟩) (by assumption) ?rest_k45
          case hi_k45 => ((simp only [List.getElem?_toArray, List.getElem?_cons_succ, List.getElem?_cons_zero]); rfl)
          case hf_k45 => kernel_rfl
          case hr_k45 => kernel_rfl
          case hQ_k45 => exact fun _ _ _ h => h
          case hw_k45 => rfl
          case hy_k45 => ((intro w hSw; (try dsimp only at hSw); go_simp); all_goals (with_reducible rfl))
          try simp only [Act.put, List.setIfInBounds_toArray, List.set_cons_zero, List.set_cons_succ]
          refine wpAnyH_take (i := 23) (oi := ?oi_k46) (v := ?v_k46) ?hi_k46 (by kernel_rfl) ?hf_k46 ?hr_k46 ?hQ_k46 (Or.inl ⟨?hw_k46, ?hy_k46⟩) (by assumption) ?rest_k46
          case hi_k46 => ((simp only [List.getElem?_toArray, List.getElem?_cons_succ, List.getElem?_cons_zero]); rfl)
          case hf_k46 => kernel_rfl
          case hr_k46 => kernel_rfl
          case hQ_k46 => exact fun _ _ _ h => h
          case hw_k46 => rfl
          case hy_k46 => ((intro w hSw; (try dsimp only at hSw); go_simp); all_goals (with_reducible rfl))
          try simp only [Act.put, List.setIfInBounds_toArray, List.set_cons_zero, List.set_cons_succ]
          refine wpAnyH_take (i := 24) (oi := ?oi_k47) (v := ?v_k47) ?hi_k47 (by kernel_rfl) ?hf_k47 ?hr_k47 ?hQ_k47 (Or.inl ⟨?hw_k47, ?hy_k47⟩) (by assumption) ?rest_k47
          case hi_k47 => ((simp only [List.getElem?_toArray, List.getElem?_cons_succ, List.getElem?_cons_zero]); rfl)
          case hf_k47 => kernel_rfl
          case hr_k47 => kernel_rfl
          case hQ_k47 => exact fun _ _ _ h => h
          case hw_k47 => rfl
          case hy_k47 => ((intro w hSw; (try dsimp only at hSw); go_simp); all_goals (with_reducible rfl))
          try simp only [Act.put, List.setIfInBounds_toArray, List.set_cons_zero, List.set_cons_succ]
          refine wpAnyH_take (i := 25) (oi := ?oi_k48) (v := ?v_k48) ?hi_k48 (by kernel_rfl) ?hf_k48 ?hr_k48 ?hQ_k48 (Or.inl ⟨?hw_k48, ?hy_k48⟩) (by assumption) ?rest_k48
          case hi_k48 => ((simp only [List.getElem?_toArray, List.getElem?_cons_succ, List.getElem?_cons_zero]); rfl)
          case hf_k48 => kernel_rfl
          case hr_k48 => kernel_rfl
          case hQ_k48 => exact fun _ _ _ h => h
          case hw_k48 => rfl
          case hy_k48 => ((intro w hSw; (try dsimp only at hSw); go_simp); all_goals (with_reducible rfl))
          try simp only [Act.put, List.setIfInBounds_toArray, List.set_cons_zero, List.set_cons_succ]
          refine wpAnyH_take (i := 26) (oi := ?oi_k49) (v := ?v_k49) ?hi_k49 (by kernel_rfl) ?hf_k49 ?hr_k49 ?hQ_k49 (Or.inl ⟨?hw_k49, ?hy_k49⟩) (by assumption) ?rest_k49
          case hi_k49 => ((simp only [List.getElem?_toArray, List.getElem?_cons_succ, List.getElem?_cons_zero]); rfl)
          case hf_k49 => kernel_rfl
          case hr_k49 => kernel_rfl
          case hQ_k49 => exact fun _ _ _ h => h
          case hw_k49 => rfl
          case hy_k49 => ((intro w hSw; (try dsimp only at hSw); go_simp); all_goals (with_reducible rfl))
          try simp only [Act.put, List.setIfInBounds_toArray, List.set_cons_zero, List.set_cons_succ]
          refine wpAnyH_take (i := 27) (oi := ?oi_k50) (v := ?v_k50) ?hi_k50 (by kernel_rfl) ?hf_k50 ?hr_k50 ?hQ_k50 (Or.inl ⟨?hw_k50, ?hy_k50⟩) (by assumption) ?rest_k50
          case hi_k50 => ((simp only [List.getElem?_toArray, List.getElem?_cons_succ, List.getElem?_cons_zero]); rfl)
          case hf_k50 => kernel_rfl
          case hr_k50 => kernel_rfl
          case hQ_k50 => exact fun _ _ _ h => h
          case hw_k50 => rfl
          case hy_k50 => ((intro w hSw; (try dsimp only at hSw); go_simp); all_goals (with_reducible rfl))
          try simp only [Act.put, List.setIfInBounds_toArray, List.set_cons_zero, List.set_cons_succ]
          refine wpAnyH_take (i := 28) (oi := ?oi_k51) (v := ?v_k51) ?hi_k51 (by kernel_rfl) ?hf_k51 ?hr_k51 ?hQ_k51 (Or.inl ⟨?hw_k51, ?hy_k51⟩) (by assumption) ?rest_k51
          case hi_k51 => ((simp only [List.getElem?_toArray, List.getElem?_cons_succ, List.getElem?_cons_zero]); rfl)
          case hf_k51 => kernel_rfl
          case hr_k51 => kernel_rfl
          case hQ_k51 => exact fun _ _ _ h => h
          case hw_k51 => rfl
          case hy_k51 => ((intro w hSw; (try dsimp only at hSw); go_simp); all_goals (with_reducible rfl))
          try simp only [Act.put, List.setIfInBounds_toArray, List.set_cons_zero, List.set_cons_succ]
          refine wpAnyH_take (i := 29) (oi := ?oi_k52) (v := ?v_k52) ?hi_k52 (by kernel_rfl) ?hf_k52 ?hr_k52 ?hQ_k52 (Or.inl ⟨?hw_k52, ?hy_k52⟩) (by assumption) ?rest_k52
          case hi_k52 => ((simp only [List.getElem?_toArray, List.getElem?_cons_succ, List.getElem?_cons_zero]); rfl)
          case hf_k52 => kernel_rfl
          case hr_k52 => kernel_rfl
          case hQ_k52 => exact fun _ _ _ h => h
          case hw_k52 => rfl
          case hy_k52 => ((intro w hSw; (try dsimp only at hSw); go_simp); all_goals (with_reducible rfl))
          try simp only [Act.put, List.setIfInBounds_toArray, List.set_cons_zero, List.set_cons_succ]
          refine wpAnyH_take (i := 30) (oi := ?oi_k53) (v := ?v_k53) ?hi_k53 (by kernel_rfl) ?hf_k53 ?hr_k53 ?hQ_k53 (Or.inl ⟨?hw_k53, ?hy_k53⟩) (by assumption) ?rest_k53
          case hi_k53 => ((simp only [List.getElem?_toArray, List.getElem?_cons_succ, List.getElem?_cons_zero]); rfl)
          case hf_k53 => kernel_rfl
          case hr_k53 => kernel_rfl
          case hQ_k53 => exact fun _ _ _ h => h
          case hw_k53 => rfl
          case hy_k53 => ((intro w hSw; (try dsimp only at hSw); go_simp); all_goals (with_reducible rfl))
          try simp only [Act.put, List.setIfInBounds_toArray, List.set_cons_zero, List.set_cons_succ]
          refine wpAnyH_take (i := 31) (oi := ?oi_k54) (v := undef) ?hi_k54 (by kernel_rfl) ?hf_k54 ?hr_k54 ?hQ_k54 (Or.inr ⟨?hw_k54, rfl⟩) (by assumption) ?rest_k54
          case hi_k54 => ((simp only [List.getElem?_toArray, List.getElem?_cons_succ, List.getElem?_cons_zero]); rfl)
          case hf_k54 => kernel_rfl
          case hr_k54 => kernel_rfl
          case hQ_k54 => exact fun _ _ _ h => h
          case hw_k54 => rfl
          try simp only [Act.put, List.setIfInBounds_toArray, List.set_cons_zero, List.set_cons_succ]
          refine wpAnyH_take (i := 32) (oi := ?oi_k55) (v := undef) ?hi_k55 (by kernel_rfl) ?hf_k55 ?hr_k55 ?hQ_k55 (Or.inr ⟨?hw_k55, rfl⟩) (by assumption) ?rest_k55
          case hi_k55 => ((simp only [List.getElem?_toArray, List.getElem?_cons_succ, List.getElem?_cons_zero]); rfl)
          case hf_k55 => kernel_rfl
          case hr_k55 => kernel_rfl
          case hQ_k55 => exact fun _ _ _ h => h
          case hw_k55 => rfl
          try simp only [Act.put, List.setIfInBounds_toArray, List.set_cons_zero, List.set_cons_succ]
          refine wpAnyH_take (i := 33) (oi := ?oi_k56) (v := undef) ?hi_k56 (by kernel_rfl) ?hf_k56 ?hr_k56 ?hQ_k56 (Or.inr ⟨?hw_k56, rfl⟩) (by assumption) ?rest_k56
          case hi_k56 => ((simp only [List.getElem?_toArray, List.getElem?_cons_succ, List.getElem?_cons_zero]); rfl)
          case hf_k56 => kernel_rfl
          case hr_k56 => kernel_rfl
          case hQ_k56 => exact fun _ _ _ h => h
          case hw_k56 => rfl
          try simp only [Act.put, List.setIfInBounds_toArray, List.set_cons_zero, List.set_cons_succ]
          refine wpAnyH_take (i := 34) (oi := ?oi_k57) (v := ?v_k57) ?hi_k57 (by kernel_rfl) ?hf_k57 ?hr_k57 ?hQ_k57 (Or.inl ⟨?hw_k57, ?hy_k57⟩) (by assumption) ?rest_k57
          case hi_k57 => ((simp only [List.getElem?_toArray, List.getElem?_cons_succ, List.getElem?_cons_zero]); rfl)
          case hf_k57 => kernel_rfl
          case hr_k57 => kernel_rfl
          case hQ_k57 => exact fun _ _ _ h => h
          case hw_k57 => rfl
          case hy_k57 => ((intro w hSw; (try dsimp only at hSw); go_simp); all_goals (with_reducible rfl))
          try simp only [Act.put, List.setIfInBounds_toArray, List.set_cons_zero, List.set_cons_succ]
          refine wpAnyH_take (i := 35) (oi := ?oi_k58) (v := ?v_k58) ?hi_k58 (by kernel_rfl) ?hf_k58 ?hr_k58 ?hQ_k58 (Or.inl ⟨?hw_k58, ?hy_k58⟩) (by assumption) ?rest_k58
          case hi_k58 => ((simp only [List.getElem?_toArray, List.getElem?_cons_succ, List.getElem?_cons_zero]); rfl)
          case hf_k58 => kernel_rfl
          case hr_k58 => kernel_rfl
          case hQ_k58 => exact fun _ _ _ h => h
          case hw_k58 => rfl
          case hy_k58 => ((intro w hSw; (try dsimp only at hSw); go_simp); all_goals (with_reducible rfl))
          try simp only [Act.put, List.setIfInBounds_toArray, List.set_cons_zero, List.set_cons_succ]
          refine wpAnyH_done (by kernel_rfl) ?_ _
          go_wp2
          go_roundw
          case rel => exact ⟨k + 1, by omega, by push_cast; rfl, Lib.hid (by rw [HNX.out]; exact HLW.out.later (belStep HB3.out hHeld))⟩
          case measure => simp [intOf] <;> omega
        | false =>
          have hp2 := placeRC_no HTT.out.1
          have hpd : decide ((0 : Int) ≤ (-1 : Int)) = false := rfl
          have hyz : y = zeroC := by rw [← HTT.out.2]; exact fndC_no HTT.out.1
          subst hyz
          refine wp_region_held_drew (S := fun u => Below W12.heap.size W12 u) (by kernel_rfl) (by exact (show Below W12.heap.size W12 _ by repeat (first | assumption | exact Below.refl _ _ | refine belDrew ?_ | refine belAlloc ?_ _ | refine belStep ?_ (by assumption)))) (fun hHeld => ?_)
          refine wpAnyH_take (i := 0) (oi := ?oi_k59) (v := ?v_k59) ?hi_k59 (by kernel_rfl) ?hf_k59 ?hr_k59 ?hQ_k59 (Or.inl ⟨?hw_k59, ?hy_k59⟩) (by assumption) ?rest_k59
          case hi_k59 => ((simp only [List.getElem?_toArray, List.getElem?_cons_succ, List.getElem?_cons_zero]); rfl)
          case hf_k59 => kernel_rfl
          case hr_k59 => kernel_rfl
          case hQ_k59 => exact fun _ _ _ h => h
          case hw_k59 => rfl
          case hy_k59 => ((intro w hSw; (try dsimp only at hSw); go_simp); all_goals (with_reducible rfl))
          try simp only [Act.put, List.setIfInBounds_toArray, List.set_cons_zero, List.set_cons_succ]
          refine wpAnyH_take (i := 1) (oi := ?oi_k60) (v := ?v_k60) ?hi_k60 (by kernel_rfl) ?hf_k60 ?hr_k60 ?hQ_k60 (Or.inl ⟨?hw_k60, ?hy_k60⟩) (by assumption) ?rest_k60
          case hi_k60 => ((simp only [List.getElem?_toArray, List.getElem?_cons_succ, List.getElem?_cons_zero]); rfl)
          case hf_k60 => kernel_rfl
          case hr_k60 => kernel_rfl
          case hQ_k60 => exact fun _ _ _ h => h
          case hw_k60 => rfl
          case hy_k60 => ((intro w hSw; (try dsimp only at hSw); go_simp); all_goals (with_reducible rfl))
          try simp only [Act.put, List.setIfInBounds_toArray, List.set_cons_zero, List.set_cons_succ]
          refine wpAnyH_take (i := 2) (oi := ?oi_k61) (v := ?v_k61) ?hi_k61 (by kernel_rfl) ?hf_k61 ?hr_k61 ?hQ_k61 (Or.inl ⟨?hw_k61, ?hy_k61⟩) (by assumption) ?rest_k61
          case hi_k61 => ((simp only [List.getElem?_toArray, List.getElem?_cons_succ, List.getElem?_cons_zero]); rfl)
          case hf_k61 => kernel_rfl
          case hr_k61 => kernel_rfl
          case hQ_k61 => exact fun _ _ _ h => h
          case hw_k61 => rfl
          case hy_k61 => ((intro w hSw; (try dsimp only at hSw); go_simp); all_goals (with_reducible rfl))
          try simp only [Act.put, List.setIfInBounds_toArray, List.set_cons_zero, List.set_cons_succ]
          refine wpAnyH_take (i := 3) (oi := ?oi_k62) (v := ?v_k62) ?hi_k62 (by kernel_rfl) ?hf_k62 ?hr_k62 ?hQ_k62 (Or.inl ⟨?hw_k62, ?hy_k62⟩) (by assumption) ?rest_k62
          case hi_k62 => ((simp only [List.getElem?_toArray, List.getElem?_cons_succ, List.getElem?_cons_zero]); rfl)
          case hf_k62 => kernel_rfl
          case hr_k62 => kernel_rfl
          case hQ_k62 => exact fun _ _ _ h => h
          case hw_k62 => rfl
          case hy_k62 => ((intro w hSw; (try dsimp only at hSw); go_simp); all_goals (with_reducible rfl))
          try simp only [Act.put, List.setIfInBounds_toArray, List.set_cons_zero, List.set_cons_succ]
          refine wpAnyH_take (i := 4) (oi := ?oi_k63) (v := ?v_k63) ?hi_k63 (by kernel_rfl) ?hf_k63 ?hr_k63 ?hQ_k63 (Or.inl ⟨?hw_k63, ?hy_k63⟩) (by assumption) ?rest_k63
          case hi_k63 => ((simp only [List.getElem?_toArray, List.getElem?_cons_succ, List.getElem?_cons_zero]); rfl)
          case hf_k63 => kernel_rfl
          case hr_k63 => kernel_rfl
          case hQ_k63 => exact fun _ _ _ h => h
          case hw_k63 => rfl
          case hy_k63 => ((intro w hSw; (try dsimp only at hSw); go_simp); all_goals (with_reducible rfl))
          try simp only [Act.put, List.setIfInBounds_toArray, List.set_cons_zero, List.set_cons_succ]
          refine wpAnyH_take (i := 5) (oi := ?oi_k64) (v := ?v_k64) ?hi_k64 (by kernel_rfl) ?hf_k64 ?hr_k64 ?hQ_k64 (Or.inl ⟨?hw_k64, ?hy_k64⟩) (by assumption) ?rest_k64
          case hi_k64 => ((simp only [List.getElem?_toArray, List.getElem?_cons_succ, List.getElem?_cons_zero]); rfl)
          case hf_k64 => kernel_rfl
          case hr_k64 => kernel_rfl
          case hQ_k64 => exact fun _ _ _ h => h
          case hw_k64 => rfl
          case hy_k64 => ((intro w hSw; (try dsimp only at hSw); go_simp); all_goals (with_reducible rfl))
          try simp only [Act.put, List.setIfInBounds_toArray, List.set_cons_zero, List.set_cons_succ]
          refine wpAnyH_take (i := 6) (oi := ?oi_k65) (v := ?v_k65) ?hi_k65 (by kernel_rfl) ?hf_k65 ?hr_k65 ?hQ_k65 (Or.inl ⟨?hw_k65, ?hy_k65⟩) (by assumption) ?rest_k65
          case hi_k65 => ((simp only [List.getElem?_toArray, List.getElem?_cons_succ, List.getElem?_cons_zero]); rfl)
          case hf_k65 => kernel_rfl
          case hr_k65 => kernel_rfl
          case hQ_k65 => exact fun _ _ _ h => h
          case hw_k65 => rfl
          case hy_k65 => ((intro w hSw; (try dsimp only at hSw); go_simp); all_goals (with_reducible rfl))
          try simp only [Act.put, List.setIfInBounds_toArray, List.set_cons_zero, List.set_cons_succ]
          refine wpAnyH_ready (rs := [7]) (by kernel_rfl) (by simp) ?_
          refine AllReadyH.cons (o := ?o1_k66) ?hi_k66 (fun K hK => ?rest_k66) AllReadyH.nil
          case hi_k66 => ((simp only [List.getElem?_toArray, List.getElem?_cons_succ, List.getElem?_cons_zero]); rfl)
          go_simp
          (go_at_call 21; (with_reducible refine (CP.out _ (-1) hp2 (belStep HB2.out hHeld)).mono ?_); rintro e wq7 ⟨rfl, hbq⟩)
          have hu7 : Below W12.heap.size W12 wq7 := belStep hHeld hbq
          clear hbq
          try go_simp
          refine hK.out _ _ (by exact hu7) (fun hHeld => ?_)
          clear hK K
          try simp only [Act.put, List.setIfInBounds_toArray, List.set_cons_zero, List.set_cons_succ]
          refine wpAnyH_take (i := 8) (oi := ?oi_k67) (v := ?v_k67) ?hi_k67 (by kernel_rfl) ?hf_k67 ?hr_k67 ?hQ_k67 (Or.inl ⟨?hw_k67, ?hy_k67⟩) (by assumption) ?rest_k67
          case hi_k67 => ((simp only [List.getElem?_toArray, List.getElem?_cons_succ, List.getElem?_cons_zero]); rfl)
          case hf_k67 => kernel_rfl
          case hr_k67 => kernel_rfl
          case hQ_k67 => exact fun _ _ _ h => h
          case hw_k67 => rfl
          case hy_k67 => ((intro w hSw; (try dsimp only at hSw); go_simp); all_goals (with_reducible rfl))
          try simp only [Act.put, List.setIfInBounds_toArray, List.set_cons_zero, List.set_cons_succ]
          refine wpAnyH_done (by kernel_rfl) ?_ _
          have HBP := Lib.hid hu7
          have HB3 := Lib.hid (belStep HB2.out hu7)
          generalize wq7 = W13 at *
          clear m2 hbel hHeld hu7
          have HM4 := Lib.hid (HM3.out.later HBP.out)
          have HBX4 := Lib.hid (show Blk W13 bx [.int .i64 0, .int .i64 0] 38 from HBX.out.later HBP.out)
          have hbel : Below W13.heap.size W13 W13 := Below.refl _ _
          have m0 := keep (HM4.out.cell (j := 0) rfl)
          have m1 := keep (HM4.out.cell (j := 1) rfl)
          have m2 := keep (HM4.out.cell (j := 2) rfl)
          have m3 := keep (HM4.out.cell (j := 3) rfl)
          have b0 := keep (HBX4.out.cell (j := 0) rfl)
          have b1 := keep (HBX4.out.cell (j := 1) rfl)
          have heq := fun u : World => show (Op.equalIn 10000 38 (.agg #[.int .i64 0, .int .i64 0]) (.agg #[.int .i64 0, .int .i64 0])).run Try.prog u = .ok true u from (eq_box 0 0 0 0 u).trans (by simp)
          go_upto_region 14 with fail
          refine wp_region_held_drew (S := fun u => Below W13.heap.size W13 u) (by kernel_rfl) (by exact (show Below W13.heap.size W13 _ by repeat (first | assumption | exact Below.refl _ _ | refine belDrew ?_ | refine belAlloc ?_ _ | refine belStep ?_ (by assumption)))) (fun hHeld => ?_)
          refine wpAnyH_take (i := 0) (oi := ?oi_k68) (v := ?v_k68) ?hi_k68 (by kernel_rfl) ?hf_k68 ?hr_k68 ?hQ_k68 (Or.inl ⟨?hw_k68, ?hy_k68⟩) (by assumption) ?rest_k68
          case hi_k68 => ((simp only [List.getElem?_toArray, List.getElem?_cons_succ, List.getElem?_cons_zero]); rfl)
          case hf_k68 => kernel_rfl
          case hr_k68 => kernel_rfl
          case hQ_k68 => exact fun _ _ _ h => h
          case hw_k68 => rfl
          case hy_k68 => ((intro w hSw; (try dsimp only at hSw); go_simp); all_goals (with_reducible rfl))
          try simp only [Act.put, List.setIfInBounds_toArray, List.set_cons_zero, List.set_cons_succ]
          refine wpAnyH_take (i := 1) (oi := ?oi_k69) (v := ?v_k69) ?hi_k69 (by kernel_rfl) ?hf_k69 ?hr_k69 ?hQ_k69 (Or.inl ⟨?hw_k69, ?hy_k69⟩) (by assumption) ?rest_k69
          case hi_k69 => ((simp only [List.getElem?_toArray, List.getElem?_cons_succ, List.getElem?_cons_zero]); rfl)
          case hf_k69 => kernel_rfl
          case hr_k69 => kernel_rfl
          case hQ_k69 => exact fun _ _ _ h => h
          case hw_k69 => rfl
          case hy_k69 => ((intro w hSw; (try dsimp only at hSw); go_simp); all_goals (with_reducible rfl))
          try simp only [Act.put, List.setIfInBounds_toArray, List.set_cons_zero, List.set_cons_succ]
          refine wpAnyH_take (i := 2) (oi := ?oi_k70) (v := ?v_k70) ?hi_k70 (by kernel_rfl) ?hf_k70 ?hr_k70 ?hQ_k70 (Or.inl ⟨?hw_k70, ?hy_k70⟩) (by assumption) ?rest_k70
          case hi_k70 => ((simp only [List.getElem?_toArray, List.getElem?_cons_succ, List.getElem?_cons_zero]); rfl)
          case hf_k70 => kernel_rfl
          case hr_k70 => kernel_rfl
          case hQ_k70 => exact fun _ _ _ h => h
          case hw_k70 => rfl
          case hy_k70 => ((intro w hSw; (try dsimp only at hSw); go_simp); all_goals (with_reducible rfl))
          try simp only [Act.put, List.setIfInBounds_toArray, List.set_cons_zero, List.set_cons_succ]
          refine wpAnyH_take (i := 3) (oi := ?oi_k71) (v := ?v_k71) ?hi_k71 (by kernel_rfl) ?hf_k71 ?hr_k71 ?hQ_k71 (Or.inl ⟨?hw_k71, ?hy_k71⟩) (by assumption) ?rest_k71
          case hi_k71 => ((simp only [List.getElem?_toArray, List.getElem?_cons_succ, List.getElem?_cons_zero]); rfl)
          case hf_k71 => kernel_rfl
          case hr_k71 => kernel_rfl
          case hQ_k71 => exact fun _ _ _ h => h
          case hw_k71 => rfl
          case hy_k71 => ((intro w hSw; (try dsimp only at hSw); go_simp); all_goals (with_reducible rfl))
          try simp only [Act.put, List.setIfInBounds_toArray, List.set_cons_zero, List.set_cons_succ]
          refine wpAnyH_take (i := 4) (oi := ?oi_k72) (v := ?v_k72) ?hi_k72 (by kernel_rfl) ?hf_k72 ?hr_k72 ?hQ_k72 (Or.inl ⟨?hw_k72, ?hy_k72⟩) (by assumption) ?rest_k72
          case hi_k72 => ((simp only [List.getElem?_toArray, List.getElem?_cons_succ, List.getElem?_cons_zero]); rfl)
          case hf_k72 => kernel_rfl
          case hr_k72 => kernel_rfl
          case hQ_k72 => exact fun _ _ _ h => h
          case hw_k72 => rfl
          case hy_k72 => ((intro w hSw; (try dsimp only at hSw); go_simp); all_goals (with_reducible rfl))
          try simp only [Act.put, List.setIfInBounds_toArray, List.set_cons_zero, List.set_cons_succ]
          refine wpAnyH_ready (rs := [5]) (by kernel_rfl) (by simp) ?_
          refine AllReadyH.cons (o := ?o1_k73) ?hi_k73 (fun K hK => ?rest_k73) AllReadyH.nil
          case hi_k73 => ((simp only [List.getElem?_toArray, List.getElem?_cons_succ, List.getElem?_cons_zero]); rfl)
          go_simp
          (go_at_call 22; (with_reducible refine (CS.out _ (belStep HB3.out hHeld)).mono ?_); rintro e wq5 ⟨rfl, hbq⟩)
          have hu5 : Below W13.heap.size W13 wq5 := belStep hHeld hbq
          clear hbq
          try go_simp
          refine hK.out _ _ (by exact hu5) (fun hHeld => ?_)
          clear hK K
          try simp only [Act.put, List.setIfInBounds_toArray, List.set_cons_zero, List.set_cons_succ]
          refine wpAnyH_take (i := 6) (oi := ?oi_k74) (v := ?v_k74) ?hi_k74 (by kernel_rfl) ?hf_k74 ?hr_k74 ?hQ_k74 (Or.inl ⟨?hw_k74, ?hy_k74⟩) (by assumption) ?rest_k74
          case hi_k74 => ((simp only [List.getElem?_toArray, List.getElem?_cons_succ, List.getElem?_cons_zero]); rfl)
          case hf_k74 => kernel_rfl
          case hr_k74 => kernel_rfl
          case hQ_k74 => exact fun _ _ _ h => h
          case hw_k74 => rfl
          case hy_k74 => ((intro w hSw; (try dsimp only at hSw); go_simp); all_goals (with_reducible rfl))
          try simp only [Act.put, List.setIfInBounds_toArray, List.set_cons_zero, List.set_cons_succ]
          refine wpAnyH_take (i := 7) (oi := ?oi_k75) (v := ?v_k75) ?hi_k75 (by kernel_rfl) ?hf_k75 ?hr_k75 ?hQ_k75 (Or.inl ⟨?hw_k75, ?hy_k75⟩) (by assumption) ?rest_k75
          case hi_k75 => ((simp only [List.getElem?_toArray, List.getElem?_cons_succ, List.getElem?_cons_zero]); rfl)
          case hf_k75 => kernel_rfl
          case hr_k75 => kernel_rfl
          case hQ_k75 => exact fun _ _ _ h => h
          case hw_k75 => rfl
          case hy_k75 => ((intro w hSw; (try dsimp only at hSw); go_simp); all_goals (with_reducible rfl))
          try simp only [Act.put, List.setIfInBounds_toArray, List.set_cons_zero, List.set_cons_succ]
          refine wpAnyH_take (i := 8) (oi := ?oi_k76) (v := ?v_k76) ?hi_k76 (by kernel_rfl) ?hf_k76 ?hr_k76 ?hQ_k76 (Or.inl ⟨?hw_k76, ?hy_k76⟩) (by assumption) ?rest_k76
          case hi_k76 => ((simp only [List.getElem?_toArray, List.getElem?_cons_succ, List.getElem?_cons_zero]); rfl)
          case hf_k76 => kernel_rfl
          case hr_k76 => kernel_rfl
          case hQ_k76 => exact fun _ _ _ h => h
          case hw_k76 => rfl
          case hy_k76 => ((intro w hSw; (try dsimp only at hSw); go_simp); all_goals (with_reducible rfl))
          try simp only [Act.put, List.setIfInBounds_toArray, List.set_cons_zero, List.set_cons_succ]
          refine wpAnyH_take (i := 9) (oi := ?oi_k77) (v := ?v_k77) ?hi_k77 (by kernel_rfl) ?hf_k77 ?hr_k77 ?hQ_k77 (Or.inl ⟨?hw_k77, ?hy_k77⟩) (by assumption) ?rest_k77
          case hi_k77 => ((simp only [List.getElem?_toArray, List.getElem?_cons_succ, List.getElem?_cons_zero]); rfl)
          case hf_k77 => kernel_rfl
          case hr_k77 => kernel_rfl
          case hQ_k77 => exact fun _ _ _ h => h
          case hw_k77 => rfl
          case hy_k77 => ((intro w hSw; (try dsimp only at hSw); go_simp); all_goals (with_reducible rfl))
          try simp only [Act.put, List.setIfInBounds_toArray, List.set_cons_zero, List.set_cons_succ]
          refine wpAnyH_take (i := 10) (oi := ?oi_k78) (v := ?v_k78) ?hi_k78 (by kernel_rfl) ?hf_k78 ?hr_k78 ?hQ_k78 (Or.inl ⟨?hw_k78, ?hy_k78⟩) (by assumption) ?rest_k78
          case hi_k78 => ((simp only [List.getElem?_toArray, List.getElem?_cons_succ, List.getElem?_cons_zero]); rfl)
          case hf_k78 => kernel_rfl
          case hr_k78 => kernel_rfl
          case hQ_k78 => exact fun _ _ _ h => h
          case hw_k78 => rfl
          case hy_k78 => ((intro w hSw; (try dsimp only at hSw); go_simp); all_goals (with_reducible rfl))
          try simp only [Act.put, List.setIfInBounds_toArray, List.set_cons_zero, List.set_cons_succ]
          refine wpAnyH_take (i := 11) (oi := ?oi_k79) (v := ?v_k79) ?hi_k79 (by kernel_rfl) ?hf_k79 ?hr_k79 ?hQ_k79 (Or.inl ⟨?hw_k79, ?hy_k79⟩) (by assumption) ?rest_k79
          case hi_k79 => ((simp only [List.getElem?_toArray, List.getElem?_cons_succ, List.getElem?_cons_zero]); rfl)
          case hf_k79 => kernel_rfl
          case hr_k79 => kernel_rfl
          case hQ_k79 => exact fun _ _ _ h => h
          case hw_k79 => rfl
          case hy_k79 => ((intro w hSw; (try dsimp only at hSw); go_simp); all_goals (with_reducible rfl))
          try simp only [Act.put, List.setIfInBounds_toArray, List.set_cons_zero, List.set_cons_succ]
          refine wpAnyH_take (i := 12) (oi := ?oi_k80) (v := ?v_k80) ?hi_k80 (by kernel_rfl) ?hf_k80 ?hr_k80 ?hQ_k80 (Or.inl ⟨?hw_k80, ?hy_k80⟩) (by assumption) ?rest_k80
          case hi_k80 => ((simp only [List.getElem?_toArray, List.getElem?_cons_succ, List.getElem?_cons_zero]); rfl)
          case hf_k80 => kernel_rfl
          case hr_k80 => kernel_rfl
          case hQ_k80 => exact fun _ _ _ h => h
          case hw_k80 => rfl
          case hy_k80 => ((intro w hSw; (try dsimp only at hSw); go_simp); all_goals (with_reducible rfl))
          try simp only [Act.put, List.setIfInBounds_toArray, List.set_cons_zero, List.set_cons_succ]
          refine wpAnyH_take (i := 13) (oi := ?oi_k81) (v := ?v_k81) ?hi_k81 (by kernel_rfl) ?hf_k81 ?hr_k81 ?hQ_k81 (Or.inl ⟨?hw_k81, ?hy_k81⟩) (by assumption) ?rest_k81
          case hi_k81 => ((simp only [List.getElem?_toArray, List.getElem?_cons_succ, List.getElem?_cons_zero]); rfl)
          case hf_k81 => kernel_rfl
          case hr_k81 => kernel_rfl
          case hQ_k81 => exact fun _ _ _ h => h
          case hw_k81 => rfl
          case hy_k81 => ((intro w hSw; (try dsimp only at hSw); go_simp); all_goals (with_reducible rfl))
          try simp only [Act.put, List.setIfInBounds_toArray, List.set_cons_zero, List.set_cons_succ]
          refine wpAnyH_take (i := 14) (oi := ?oi_k82) (v := ?v_k82) ?hi_k82 (by kernel_rfl) ?hf_k82 ?hr_k82 ?hQ_k82 (Or.inl ⟨?hw_k82, ?hy_k82⟩) (by assumption) ?rest_k82
          case hi_k82 => ((simp only [List.getElem?_toArray, List.getElem?_cons_succ, List.getElem?_cons_zero]); rfl)
          case hf_k82 => kernel_rfl
          case hr_k82 => kernel_rfl
          case hQ_k82 => exact fun _ _ _ h => h
          case hw_k82 => rfl
          case hy_k82 => ((intro w hSw; (try dsimp only at hSw); go_simp); all_goals (with_reducible rfl))
          try simp only [Act.put, List.setIfInBounds_toArray, List.set_cons_zero, List.set_cons_succ]
          refine wpAnyH_take (i := 15) (oi := ?oi_k83) (v := ?v_k83) ?hi_k83 (by kernel_rfl) ?hf_k83 ?hr_k83 ?hQ_k83 (Or.inl ⟨?hw_k83, ?hy_k83⟩) (by assumption) ?rest_k83
          case hi_k83 => ((simp only [List.getElem?_toArray, List.getElem?_cons_succ, List.getElem?_cons_zero]); rfl)
          case hf_k83 => kernel_rfl
          case hr_k83 => kernel_rfl
          case hQ_k83 => exact fun _ _ _ h => h
          case hw_k83 => rfl
          case hy_k83 => ((intro w hSw; (try dsimp only at hSw); go_simp); all_goals (with_reducible rfl))
          try simp only [Act.put, List.setIfInBounds_toArray, List.set_cons_zero, List.set_cons_succ]
          refine wpAnyH_take (i := 16) (oi := ?oi_k84) (v := ?v_k84) ?hi_k84 (by kernel_rfl) ?hf_k84 ?hr_k84 ?hQ_k84 (Or.inl ⟨?hw_k84, ?hy_k84⟩) (by assumption) ?rest_k84
          case hi_k84 => ((simp only [List.getElem?_toArray, List.getElem?_cons_succ, List.getElem?_cons_zero]); rfl)
          case hf_k84 => kernel_rfl
          case hr_k84 => kernel_rfl
          case hQ_k84 => exact fun _ _ _ h => h
          case hw_k84 => rfl
          case hy_k84 => ((intro w hSw; (try dsimp only at hSw); go_simp); all_goals (with_reducible rfl))
          try simp only [Act.put, List.setIfInBounds_toArray, List.set_cons_zero, List.set_cons_succ]
          refine wpAnyH_take (i := 17) (oi := ?oi_k85) (v := undef) ?hi_k85 (by kernel_rfl) ?hf_k85 ?hr_k85 ?hQ_k85 (Or.inr ⟨?hw_k85, rfl⟩) (by assumption) ?rest_k85
          case hi_k85 => ((simp only [List.getElem?_toArray, List.getElem?_cons_succ, List.getElem?_cons_zero]); rfl)
          case hf_k85 => kernel_rfl
          case hr_k85 => kernel_rfl
          case hQ_k85 => exact fun _ _ _ h => h
          case hw_k85 => rfl
          try simp only [Act.put, List.setIfInBounds_toArray, List.set_cons_zero, List.set_cons_succ]
          refine wpAnyH_take (i := 18) (oi := ?oi_k86) (v := undef) ?hi_k86 (by kernel_rfl) ?hf_k86 ?hr_k86 ?hQ_k86 (Or.inr ⟨?hw_k86, rfl⟩) (by assumption) ?rest_k86
          case hi_k86 => ((simp only [List.getElem?_toArray, List.getElem?_cons_succ, List.getElem?_cons_zero]); rfl)
          case hf_k86 => kernel_rfl
          case hr_k86 => kernel_rfl
          case hQ_k86 => exact fun _ _ _ h => h
          case hw_k86 => rfl
          try simp only [Act.put, List.setIfInBounds_toArray, List.set_cons_zero, List.set_cons_succ]
          refine wpAnyH_take (i := 19) (oi := ?oi_k87) (v := undef) ?hi_k87 (by kernel_rfl) ?hf_k87 ?hr_k87 ?hQ_k87 (Or.inr ⟨?hw_k87, rfl⟩) (by assumption) ?rest_k87
          case hi_k87 => ((simp only [List.getElem?_toArray, List.getElem?_cons_succ, List.getElem?_cons_zero]); rfl)
          case hf_k87 => kernel_rfl
          case hr_k87 => kernel_rfl
          case hQ_k87 => exact fun _ _ _ h => h
          case hw_k87 => rfl
          try simp only [Act.put, List.setIfInBounds_toArray, List.set_cons_zero, List.set_cons_succ]
          refine wpAnyH_take (i := 20) (oi := ?oi_k88) (v := undef) ?hi_k88 (by kernel_rfl) ?hf_k88 ?hr_k88 ?hQ_k88 (Or.inr ⟨?hw_k88, rfl⟩) (by assumption) ?rest_k88
          case hi_k88 => ((simp only [List.getElem?_toArray, List.getElem?_cons_succ, List.getElem?_cons_zero]); rfl)
          case hf_k88 => kernel_rfl
          case hr_k88 => kernel_rfl
          case hQ_k88 => exact fun _ _ _ h => h
          case hw_k88 => rfl
          try simp only [Act.put, List.setIfInBounds_toArray, List.set_cons_zero, List.set_cons_succ]
          refine wpAnyH_take (i := 21) (oi := ?oi_k89) (v := undef) ?hi_k89 (by kernel_rfl) ?hf_k89 ?hr_k89 ?hQ_k89 (Or.inr ⟨?hw_k89, rfl⟩) (by assumption) ?rest_k89
          case hi_k89 => ((simp only [List.getElem?_toArray, List.getElem?_cons_succ, List.getElem?_cons_zero]); rfl)
          case hf_k89 => kernel_rfl
          case hr_k89 => kernel_rfl
          case hQ_k89 => exact fun _ _ _ h => h
          case hw_k89 => rfl
          try simp only [Act.put, List.setIfInBounds_toArray, List.set_cons_zero, List.set_cons_succ]
          refine wpAnyH_take (i := 22) (oi := ?oi_k90) (v := undef) ?hi_k90 (by kernel_rfl) ?hf_k90 ?hr_k90 ?hQ_k90 (Or.inr ⟨?hw_k90, rfl⟩) (by assumption) ?rest_k90
          case hi_k90 => ((simp only [List.getElem?_toArray, List.getElem?_cons_succ, List.getElem?_cons_zero]); rfl)
          case hf_k90 => kernel_rfl
          case hr_k90 => kernel_rfl
          case hQ_k90 => exact fun _ _ _ h => h
          case hw_k90 => rfl
          try simp only [Act.put, List.setIfInBounds_toArray, List.set_cons_zero, List.set_cons_succ]
          refine wpAnyH_take (i := 23) (oi := ?oi_k91) (v := undef) ?hi_k91 (by kernel_rfl) ?hf_k91 ?hr_k91 ?hQ_k91 (Or.inr ⟨?hw_k91, rfl⟩) (by assumption) ?rest_k91
          case hi_k91 => ((simp only [List.getElem?_toArray, List.getElem?_cons_succ, List.getElem?_cons_zero]); rfl)
          case hf_k91 => kernel_rfl
          case hr_k91 => kernel_rfl
          case hQ_k91 => exact fun _ _ _ h => h
          case hw_k91 => rfl
          try simp only [Act.put, List.setIfInBounds_toArray, List.set_cons_zero, List.set_cons_succ]
          refine wpAnyH_take (i := 24) (oi := ?oi_k92) (v := undef) ?hi_k92 (by kernel_rfl) ?hf_k92 ?hr_k92 ?hQ_k92 (Or.inr ⟨?hw_k92, rfl⟩) (by assumption) ?rest_k92
          case hi_k92 => ((simp only [List.getElem?_toArray, List.getElem?_cons_succ, List.getElem?_cons_zero]); rfl)
          case hf_k92 => kernel_rfl
          case hr_k92 => kernel_rfl
          case hQ_k92 => exact fun _ _ _ h => h
          case hw_k92 => rfl
          try simp only [Act.put, List.setIfInBounds_toArray, List.set_cons_zero, List.set_cons_succ]
          refine wpAnyH_take (i := 25) (oi := ?oi_k93) (v := ?v_k93) ?hi_k93 (by kernel_rfl) ?hf_k93 ?hr_k93 ?hQ_k93 (Or.inl ⟨?hw_k93, ?hy_k93⟩) (by assumption) ?rest_k93
          case hi_k93 => ((simp only [List.getElem?_toArray, List.getElem?_cons_succ, List.getElem?_cons_zero]); rfl)
          case hf_k93 => kernel_rfl
          case hr_k93 => kernel_rfl
          case hQ_k93 => exact fun _ _ _ h => h
          case hw_k93 => rfl
          case hy_k93 => ((intro w hSw; (try dsimp only at hSw); go_simp); all_goals (with_reducible rfl))
          try simp only [Act.put, List.setIfInBounds_toArray, List.set_cons_zero, List.set_cons_succ]
          refine wpAnyH_take (i := 26) (oi := ?oi_k94) (v := ?v_k94) ?hi_k94 (by kernel_rfl) ?hf_k94 ?hr_k94 ?hQ_k94 (Or.inl ⟨?hw_k94, ?hy_k94⟩) (by assumption) ?rest_k94
          case hi_k94 => ((simp only [List.getElem?_toArray, List.getElem?_cons_succ, List.getElem?_cons_zero]); rfl)
          case hf_k94 => kernel_rfl
          case hr_k94 => kernel_rfl
          case hQ_k94 => exact fun _ _ _ h => h
          case hw_k94 => rfl
          case hy_k94 => ((intro w hSw; (try dsimp only at hSw); go_simp); all_goals (with_reducible rfl))
          try simp only [Act.put, List.setIfInBounds_toArray, List.set_cons_zero, List.set_cons_succ]
          refine wpAnyH_take (i := 27) (oi := ?oi_k95) (v := ?v_k95) ?hi_k95 (by kernel_rfl) ?hf_k95 ?hr_k95 ?hQ_k95 (Or.inl ⟨?hw_k95, ?hy_k95⟩) (by assumption) ?rest_k95
          case hi_k95 => ((simp only [List.getElem?_toArray, List.getElem?_cons_succ, List.getElem?_cons_zero]); rfl)
          case hf_k95 => kernel_rfl
          case hr_k95 => kernel_rfl
          case hQ_k95 => exact fun _ _ _ h => h
          case hw_k95 => rfl
          case hy_k95 => ((intro w hSw; (try dsimp only at hSw); go_simp); all_goals (with_reducible rfl))
          try simp only [Act.put, List.setIfInBounds_toArray, List.set_cons_zero, List.set_cons_succ]
          refine wpAnyH_take (i := 28) (oi := ?oi_k96) (v := ?v_k96) ?hi_k96 (by kernel_rfl) ?hf_k96 ?hr_k96 ?hQ_k96 (Or.inl ⟨?hw_k96, ?hy_k96⟩) (by assumption) ?rest_k96
          case hi_k96 => ((simp only [List.getElem?_toArray, List.getElem?_cons_succ, List.getElem?_cons_zero]); rfl)
          case hf_k96 => kernel_rfl
          case hr_k96 => kernel_rfl
          case hQ_k96 => exact fun _ _ _ h => h
          case hw_k96 => rfl
          case hy_k96 => ((intro w hSw; (try dsimp only at hSw); go_simp); all_goals (with_reducible rfl))
          try simp only [Act.put, List.setIfInBounds_toArray, List.set_cons_zero, List.set_cons_succ]
          refine wpAnyH_take (i := 29) (oi := ?oi_k97) (v := ?v_k97) ?hi_k97 (by kernel_rfl) ?hf_k97 ?hr_k97 ?hQ_k97 (Or.inl ⟨?hw_k97, ?hy_k97⟩) (by assumption) ?rest_k97
          case hi_k97 => ((simp only [List.getElem?_toArray, List.getElem?_cons_succ, List.getElem?_cons_zero]); rfl)
          case hf_k97 => kernel_rfl
          case hr_k97 => kernel_rfl
          case hQ_k97 => exact fun _ _ _ h => h
          case hw_k97 => rfl
          case hy_k97 => ((intro w hSw; (try dsimp only at hSw); go_simp); all_goals (with_reducible rfl))
          try simp only [Act.put, List.setIfInBounds_toArray, List.set_cons_zero, List.set_cons_succ]
          refine wpAnyH_take (i := 30) (oi := ?oi_k98) (v := ?v_k98) ?hi_k98 (by kernel_rfl) ?hf_k98 ?hr_k98 ?hQ_k98 (Or.inl ⟨?hw_k98, ?hy_k98⟩) (by assumption) ?rest_k98
          case hi_k98 => ((simp only [List.getElem?_toArray, List.getElem?_cons_succ, List.getElem?_cons_zero]); rfl)
          case hf_k98 => kernel_rfl
          case hr_k98 => kernel_rfl
          case hQ_k98 => exact fun _ _ _ h => h
          case hw_k98 => rfl
          case hy_k98 => ((intro w hSw; (try dsimp only at hSw); go_simp); all_goals (with_reducible rfl))
          try simp only [Act.put, List.setIfInBounds_toArray, List.set_cons_zero, List.set_cons_succ]
          refine wpAnyH_take (i := 31) (oi := ?oi_k99) (v := ?v_k99) ?hi_k99 (by kernel_rfl) ?hf_k99 ?hr_k99 ?hQ_k99 (Or.inl ⟨?hw_k99, ?hy_k99⟩) (by assumption) ?rest_k99
          case hi_k99 => ((simp only [List.getElem?_toArray, List.getElem?_cons_succ, List.getElem?_cons_zero]); rfl)
          case hf_k99 => kernel_rfl
          case hr_k99 => kernel_rfl
          case hQ_k99 => exact fun _ _ _ h => h
          case hw_k99 => rfl
          case hy_k99 => ((intro w hSw; (try dsimp only at hSw); go_simp); all_goals (with_reducible rfl))
          try simp only [Act.put, List.setIfInBounds_toArray, List.set_cons_zero, List.set_cons_succ]
          refine wpAnyH_take (i := 32) (oi := ?oi_k100) (v := ?v_k100) ?hi_k100 (by kernel_rfl) ?hf_k100 ?hr_k100 ?hQ_k100 (Or.inl ⟨?hw_k100, ?hy_k100⟩) (by assumption) ?rest_k100
          case hi_k100 => ((simp only [List.getElem?_toArray, List.getElem?_cons_succ, List.getElem?_cons_zero]); rfl)
          case hf_k100 => kernel_rfl
          case hr_k100 => kernel_rfl
          case hQ_k100 => exact fun _ _ _ h => h
          case hw_k100 => rfl
          case hy_k100 => ((intro w hSw; (try dsimp only at hSw); go_simp); all_goals (with_reducible rfl))
          try simp only [Act.put, List.setIfInBounds_toArray, List.set_cons_zero, List.set_cons_succ]
          refine wpAnyH_take (i := 33) (oi := ?oi_k101) (v := ?v_k101) ?hi_k101 (by kernel_rfl) ?hf_k101 ?hr_k101 ?hQ_k101 (Or.inl ⟨?hw_k101, ?hy_k101⟩) (by assumption) ?rest_k101
          case hi_k101 => ((simp only [List.getElem?_toArray, List.getElem?_cons_succ, List.getElem?_cons_zero]); rfl)
          case hf_k101 => kernel_rfl
          case hr_k101 => kernel_rfl
          case hQ_k101 => exact fun _ _ _ h => h
          case hw_k101 => rfl
          case hy_k101 => ((intro w hSw; (try dsimp only at hSw); go_simp); all_goals (with_reducible rfl))
          try simp only [Act.put, List.setIfInBounds_toArray, List.set_cons_zero, List.set_cons_succ]
          refine wpAnyH_take (i := 34) (oi := ?oi_k102) (v := ?v_k102) ?hi_k102 (by kernel_rfl) ?hf_k102 ?hr_k102 ?hQ_k102 (Or.inl ⟨?hw_k102, ?hy_k102⟩) (by assumption) ?rest_k102
          case hi_k102 => ((simp only [List.getElem?_toArray, List.getElem?_cons_succ, List.getElem?_cons_zero]); rfl)
          case hf_k102 => kernel_rfl
          case hr_k102 => kernel_rfl
          case hQ_k102 => exact fun _ _ _ h => h
          case hw_k102 => rfl
          case hy_k102 => ((intro w hSw; (try dsimp only at hSw); go_simp); all_goals (with_reducible rfl))
          try simp only [Act.put, List.setIfInBounds_toArray, List.set_cons_zero, List.set_cons_succ]
          refine wpAnyH_take (i := 35) (oi := ?oi_k103) (v := ?v_k103) ?hi_k103 (by kernel_rfl) ?hf_k103 ?hr_k103 ?hQ_k103 (Or.inl ⟨?hw_k103, ?hy_k103⟩) (by assumption) ?rest_k103
          case hi_k103 => ((simp only [List.getElem?_toArray, List.getElem?_cons_succ, List.getElem?_cons_zero]); rfl)
          case hf_k103 => kernel_rfl
          case hr_k103 => kernel_rfl
          case hQ_k103 => exact fun _ _ _ h => h
          case hw_k103 => rfl
          case hy_k103 => ((intro w hSw; (try dsimp only at hSw); go_simp); all_goals (with_reducible rfl))
          try simp only [Act.put, List.setIfInBounds_toArray, List.set_cons_zero, List.set_cons_succ]
          refine wpAnyH_done (by kernel_rfl) ?_ _
          go_wp2
          go_roundw
          case rel => exact ⟨k + 1, by omega, by push_cast; rfl, Lib.hid (by rw [HNX.out]; exact HLW.out.later (belStep HB3.out hHeld))⟩
          case measure => simp [intOf] <;> omega
      case restB_rr7 =>
        go_simp
        generalize hW8 : World.alloc _ (.cells #[.int .i64 0, .slice none 0 0, .slice none 0 0, .slice none 0 0] 31) = W8
        have k8 : Below wr.heap.size wr W8 := by first | exact hW8 ▸ belAlloc (Below.refl _ _) _ | exact hW8 ▸ belAlloc (belDrew (Below.refl _ _)) _
        have HZ8 := Lib.hid (show Blk W8 wr.heap.size [.int .i64 0, .slice none 0 0, .slice none 0 0, .slice none 0 0] 31 from hW8 ▸ Blk.new _ [.int .i64 0, .slice none 0 0, .slice none 0 0, .slice none 0 0] _)
        have HK8 := Lib.hid k8
        have HB8 := Lib.hid (belStep hbel k8)
        clear hW8 k8
        refine hK.out _ _ (by exact ⟨HMB.out.later (belDrew HK8.out), belDrew HB8.out⟩) (fun hHeld => ?_)
        clear hK K
        try simp only [Act.put, List.setIfInBounds_toArray, List.set_cons_zero, List.set_cons_succ]
        refine wpAnyH_ready (rs := [6]) (by kernel_rfl) (by simp) ?_
        refine AllReadyH.cons (o := ?o1_k104) ?hi_k104 (fun K hK => ?rest_k104) AllReadyH.nil
        case hi_k104 => ((simp only [List.getElem?_toArray, List.getElem?_cons_succ, List.getElem?_cons_zero]); rfl)
        go_simp
        (go_at_call 19; (with_reducible refine (CD.out _ F (HWA.out.later (belDrew HK8.out)) (HRI.out.later (belDrew HK8.out)) (belDrew HB8.out)).mono ?_); rintro e wq ⟨v9, rfl, hj⟩; obtain ⟨G, g1, g2, g3, _, g5, g6⟩ := hj; have HG1 := Lib.hid g1; have HG2 := Lib.hid g2; have HG3 := Lib.hid g3; have HG5 := Lib.hid g5; have HG6 := Lib.hid g6; obtain ⟨oa1, oc1, ba1, bc1, ia1, ic1, rfl, hO1, hL1, hI1, hN1⟩ := g2; have hbo1 := hO1.2; have hbb1 := hL1.2; have hbi1 := hI1.2; have HRI1 := Lib.hid hI1; clear hO1 hL1 hI1 hN1; have HMQ := Lib.hid ((HMB.out.later (belDrew HK8.out)).apart g5 HNF.out); have HZQ := Lib.hid ((HZ8.out.later (belDrew (Below.refl _ _))).apart g5 (fun q => absurd (HWA.out.foot_lt _ q).2 (by omega))); clear g1 g3 g5 g6)
        try go_simp
        refine hK.out _ _ (by exact ⟨HMQ.out, HG3.out⟩) (fun hHeld => ?_)
        clear hK K
        try simp only [Act.put, List.setIfInBounds_toArray, List.set_cons_zero, List.set_cons_succ]
        refine wpAnyH_take (i := 7) (oi := ?oi_k105) (v := ?v_k105) ?hi_k105 (by kernel_rfl) ?hf_k105 ?hr_k105 ?hQ_k105 (Or.inl ⟨?hw_k105, ?hy_k105⟩) (by assumption) ?rest_k105
        case hi_k105 => ((simp only [List.getElem?_toArray, List.getElem?_cons_succ, List.getElem?_cons_zero]); rfl)
        case hf_k105 => kernel_rfl
        case hr_k105 => kernel_rfl
        case hQ_k105 => exact fun _ _ _ h => h
        case hw_k105 => rfl
        case hy_k105 => ((intro w hSw; (try dsimp only at hSw); go_simp); all_goals (with_reducible rfl))
        try simp only [Act.put, List.setIfInBounds_toArray, List.set_cons_zero, List.set_cons_succ]
        refine wpAnyH_take (i := 8) (oi := ?oi_k106) (v := ?v_k106) ?hi_k106 (by kernel_rfl) ?hf_k106 ?hr_k106 ?hQ_k106 (Or.inl ⟨?hw_k106, ?hy_k106⟩) (by assumption) ?rest_k106
        case hi_k106 => ((simp only [List.getElem?_toArray, List.getElem?_cons_succ, List.getElem?_cons_zero]); rfl)
        case hf_k106 => kernel_rfl
        case hr_k106 => kernel_rfl
        case hQ_k106 => exact fun _ _ _ h => h
        case hw_k106 => rfl
        case hy_k106 => ((intro w hSw; (try dsimp only at hSw); go_simp); all_goals (with_reducible rfl))
        try simp only [Act.put, List.setIfInBounds_toArray, List.set_cons_zero, List.set_cons_succ]
        refine wpAnyH_take (i := 9) (oi := ?oi_k107) (v := ?v_k107) ?hi_k107 (by kernel_rfl) ?hf_k107 ?hr_k107 ?hQ_k107 (Or.inl ⟨?hw_k107, ?hy_k107⟩) (by assumption) ?rest_k107
        case hi_k107 => ((simp only [List.getElem?_toArray, List.getElem?_cons_succ, List.getElem?_cons_zero]); rfl)
        case hf_k107 => kernel_rfl
        case hr_k107 => kernel_rfl
        case hQ_k107 => exact fun _ _ _ h => h
        case hw_k107 => rfl
        case hy_k107 => ((intro w hSw; (try dsimp only at hSw); go_simp); all_goals (with_reducible rfl))
        try simp only [Act.put, List.setIfInBounds_toArray, List.set_cons_zero, List.set_cons_succ]
        have hxg : wr.heap.size ∉ G := fun q => (HG6.out _ q).elim (fun r_ => absurd (HWA.out.foot_lt _ r_).2 (by omega)) (fun r_ => by have := (HZ8.out.later (belDrew (Below.refl _ _))).lt; omega)
        have hne8 : mb ≠ wr.heap.size := by have := HMB.out.lt; omega
        have HPT := Lib.hid (worlds_put HG1.out HG2.out HG3.out hxg hbel.size _ _ _ _ HZQ.out (kindW _ _ _ _ _ _ _ _ _ _) HMQ.out hne8 rfl)
        have y0 := HZQ.out.cell (j := 0) rfl
        have y1 := HZQ.out.cell (j := 1) rfl
        have y2 := HZQ.out.cell (j := 2) rfl
        have y3 := HZQ.out.cell (j := 3) rfl
        have yf := HZQ.out.frozen
        refine wpAnyH_ready (rs := [11]) (by kernel_rfl) (by simp) ?_
        refine AllReadyH.cons (o := ?o1_k108) ?hi_k108 (fun K hK => ?rest_k108) AllReadyH.nil
        case hi_k108 => ((simp only [List.getElem?_toArray, List.getElem?_cons_succ, List.getElem?_cons_zero]); rfl)
        go_simp
        refine hK.out _ _ (by exact ⟨HPT.out.2.2.2.2, HPT.out.2.2.1⟩) (fun hHeld => ?_)
        clear hK K
        try simp only [Act.put, List.setIfInBounds_toArray, List.set_cons_zero, List.set_cons_succ]
        clear y0 y1 y2 y3 yf
        refine wpAnyH_take (i := 12) (oi := ?oi_k109) (v := ?v_k109) ?hi_k109 (by kernel_rfl) ?hf_k109 ?hr_k109 ?hQ_k109 (Or.inl ⟨?hw_k109, ?hy_k109⟩) (by assumption) ?rest_k109
        case hi_k109 => ((simp only [List.getElem?_toArray, List.getElem?_cons_succ, List.getElem?_cons_zero]); rfl)
        case hf_k109 => kernel_rfl
        case hr_k109 => kernel_rfl
        case hQ_k109 => exact fun _ _ _ h => h
        case hw_k109 => rfl
        case hy_k109 => ((intro w hSw; (try dsimp only at hSw); go_simp); all_goals (with_reducible rfl))
        try simp only [Act.put, List.setIfInBounds_toArray, List.set_cons_zero, List.set_cons_succ]
        refine wpAnyH_done (by kernel_rfl) ?_ _
        have HNQ := Lib.hid (show mb ∉ G from fun q => (HG6.out _ q).elim HNF.out (fun r_ => absurd (Nat.lt_of_lt_of_le HMB.out.lt (belDrew HK8.out).size) (Nat.not_lt.2 r_)))
        have hPT := HPT.out
        clear HPT HG1 HG2 HG3 HMQ HZQ HZ8 hHeld
        generalize ((((wq.setCell ⟨wr.heap.size, 0, none⟩ (.int .i64 N.retries)).setCell ⟨wr.heap.size, 1, none⟩ (.slice oa1 N.outs.length oc1)).setCell ⟨wr.heap.size, 2, none⟩ (.slice ba1 N.boxes.length bc1)).setCell ⟨wr.heap.size, 3, none⟩ (.slice ia1 N.images.length ic1)) = W9 at *
        obtain ⟨p1, p2, p3, p4, p5⟩ := hPT
        have HG1 := Lib.hid p1
        have HG2 := Lib.hid p2
        have HG3 := Lib.hid p3
        have HX9 := Lib.hid p4
        have HMQ := Lib.hid p5
        clear p1 p2 p3 p4 p5 hxg hne8 hbel HG5 HG6 CD HK8 HB8
        generalize wr.heap.size = xb at *
        have x0 := HX9.out.cell (j := 0) rfl
        have x1 := HX9.out.cell (j := 1) rfl
        have x2 := HX9.out.cell (j := 2) rfl
        have x3 := HX9.out.cell (j := 3) rfl
        have z0 := HMQ.out.cell (j := 0) rfl
        have z1 := HMQ.out.cell (j := 1) rfl
        have z2 := HMQ.out.cell (j := 2) rfl
        have z3 := HMQ.out.cell (j := 3) rfl
        have zf := HMQ.out.frozen
        go_upto_region 12 with fail
        have HLW := Lib.hid (loopW_put HG1.out HG2.out HG3.out hM HNQ.out HLE.out _ _ _ _ HMQ.out (kindW _ _ _ _ _ _ _ _ _ _))
        clear x0 x1 x2 x3 z0 z1 z2 z3 zf HX9 HMQ HG1 HG2 HG3 HNQ
        generalize ((((W9.setCell ⟨mb, 0, none⟩ (.int .i64 N.retries)).setCell ⟨mb, 1, none⟩ (.slice oa1 N.outs.length oc1)).setCell ⟨mb, 2, none⟩ (.slice ba1 N.boxes.length bc1)).setCell ⟨mb, 3, none⟩ (.slice ia1 N.images.length ic1)) = W11 at *
        obtain ⟨oa2, oc2, ba2, bc2, ia2, ic2, F2, h0, h1, h2, h3, _, _⟩ := HLW.out
        have HM2 := Lib.hid h0
        have HW2 := Lib.hid h1
        have HR2 := Lib.hid h2
        have hbel := h3
        have HRB := Lib.hid (ris_boxes h2)
        clear h0 h1 h2 h3
        have hbb2 := HRB.out.2.1
        have hbb3 : bc2 ≤ 9223372036854775807 := by have h_ := HRB.out.2.2.1; unfold maxLen at h_; exact h_
        obtain ⟨t, ht⟩ : ∃ t, thereC N.boxes x.id = t := ⟨_, rfl⟩
        obtain ⟨y, hy⟩ : ∃ y, fndC N.boxes x.id = y := ⟨_, rfl⟩
        have CB := Lib.hid (fun u (hu : Below W11.heap.size W11 u) => show Calls Try.prog 20 #[.pointer (some ⟨M, 0, none⟩), .string x.id] u fun e w' => e = .returned (.tuple #[.agg #[.int .i64 y.state, .int .i64 y.tries], .bool t]) ∧ Below u.heap.size u w' from by have h := wd_Box M M F2 N x.id u (HW2.out.later hu) HGN.out.rises (Nat.le_trans HGN.out.len (by omega)); rw [ht, hy] at h; exact h)
        have CP := Lib.hid (fun u p (hp : placeRC N.boxes x.id = p) (hu : Below W11.heap.size W11 u) => show Calls Try.prog 21 #[.slice ba2 N.boxes.length bc2, .string x.id] u fun e w' => e = .returned (.int .i64 p) ∧ Below u.heap.size u w' from hp ▸ r16_Place ba2 N.boxes.length bc2 N.boxes x.id u rfl (HRB.out.later hu))
        have CS := Lib.hid (fun u (hu : Below W11.heap.size W11 u) => show Calls Try.prog 22 #[.pointer (some ⟨M, 0, none⟩), .agg #[.int .i64 N.retries, .slice oa2 N.outs.length oc2, .slice ba2 N.boxes.length bc2, .slice ia2 N.images.length ic2]] u fun e w' => e = .returned (.bool true) ∧ Below u.heap.size u w' from samesW N ▸ law16_same M F2 F2 N N _ (k + 1) u (HW2.out.later hu) HGN.out (by omega) (HR2.out.later hu))
        have HTT := Lib.hid (And.intro ht hy)
        clear ht hy
        go_upto_region 13 with (go_at_call 20; (with_reducible refine (CB.out _ (Below.refl _ _)).mono ?_); rintro e wb ⟨rfl, hb_⟩; have HB1 := Lib.hid hb_; clear hb_)
        have HB2 := Lib.hid (show Below W11.heap.size W11 (wb.alloc (.cells #[.int .i64 y.state, .int .i64 y.tries] 38)) from belStep HB1.out (belAlloc (Below.refl _ _) _))
        have HBX := Lib.hid (Blk.new wb [.int .i64 y.state, .int .i64 y.tries] 38)
        generalize (wb.alloc (.cells #[.int .i64 y.state, .int .i64 y.tries] 38)) = W12 at *
        generalize wb.heap.size = bx at *
        clear HB1 CB
        have HM3 := Lib.hid (HM2.out.later HB2.out)
        replace hbel := belStep hbel HB2.out
        have m2 := keep (HM3.out.cell (j := 2) rfl)
        replace c2 := keepOnP c2 hbel
        clear hbel
        have hbel : Below W12.heap.size W12 W12 := Below.refl _ _
        cases t with
        | true =>
          obtain ⟨p, hp1, hp2, hp3⟩ := placeRC_yes HGN.out.rises HTT.out.1
          rw [HTT.out.2] at hp3
          have HPX := Lib.hid hp3
          clear hp3
          have hpi : (p : Int) < (N.boxes.length : Int) := by omega
          have hp0 : (0 : Int) ≤ (p : Int) := by omega
          have hpd : decide ((0 : Int) ≤ (p : Int)) = true := decide_eq_true hp0
          refine wp_region_held_drew (S := fun u => Below W12.heap.size W12 u) (by kernel_rfl) (by exact (show Below W12.heap.size W12 _ by repeat (first | assumption | exact Below.refl _ _ | refine belDrew ?_ | refine belAlloc ?_ _ | refine belStep ?_ (by assumption)))) (fun hHeld => ?_)
          refine wpAnyH_take (i := 0) (oi := ?oi_k110) (v := ?v_k110) ?hi_k110 (by kernel_rfl) ?hf_k110 ?hr_k110 ?hQ_k110 (Or.inl ⟨?hw_k110, ?hy_k110⟩) (by assumption) ?rest_k110
          case hi_k110 => ((simp only [List.getElem?_toArray, List.getElem?_cons_succ, List.getElem?_cons_zero]); rfl)
          case hf_k110 => kernel_rfl
          case hr_k110 => kernel_rfl
          case hQ_k110 => exact fun _ _ _ h => h
          case hw_k110 => rfl
          case hy_k110 => ((intro w hSw; (try dsimp only at hSw); go_simp); all_goals (with_reducible rfl))
          try simp only [Act.put, List.setIfInBounds_toArray, List.set_cons_zero, List.set_cons_succ]
          refine wpAnyH_take (i := 1) (oi := ?oi_k111) (v := ?v_k111) ?hi_k111 (by kernel_rfl) ?hf_k111 ?hr_k111 ?hQ_k111 (Or.inl ⟨?hw_k111, ?hy_k111⟩) (by assumption) ?rest_k111
          case hi_k111 => ((simp only [List.getElem?_toArray, List.getElem?_cons_succ, List.getElem?_cons_zero]); rfl)
          case hf_k111 => kernel_rfl
          case hr_k111 => kernel_rfl
          case hQ_k111 => exact fun _ _ _ h => h
          case hw_k111 => rfl
          case hy_k111 => ((intro w hSw; (try dsimp only at hSw); go_simp); all_goals (with_reducible rfl))
          try simp only [Act.put, List.setIfInBounds_toArray, List.set_cons_zero, List.set_cons_succ]
          refine wpAnyH_take (i := 2) (oi := ?oi_k112) (v := ?v_k112) ?hi_k112 (by kernel_rfl) ?hf_k112 ?hr_k112 ?hQ_k112 (Or.inl ⟨?hw_k112, ?hy_k112⟩) (by assumption) ?rest_k112
          case hi_k112 => ((simp only [List.getElem?_toArray, List.getElem?_cons_succ, List.getElem?_cons_zero]); rfl)
          case hf_k112 => kernel_rfl
          case hr_k112 => kernel_rfl
          case hQ_k112 => exact fun _ _ _ h => h
          case hw_k112 => rfl
          case hy_k112 => ((intro w hSw; (try dsimp only at hSw); go_simp); all_goals (with_reducible rfl))
          try simp only [Act.put, List.setIfInBounds_toArray, List.set_cons_zero, List.set_cons_succ]
          refine wpAnyH_take (i := 3) (oi := ?oi_k113) (v := ?v_k113) ?hi_k113 (by kernel_rfl) ?hf_k113 ?hr_k113 ?hQ_k113 (Or.inl ⟨?hw_k113, ?hy_k113⟩) (by assumption) ?rest_k113
          case hi_k113 => ((simp only [List.getElem?_toArray, List.getElem?_cons_succ, List.getElem?_cons_zero]); rfl)
          case hf_k113 => kernel_rfl
          case hr_k113 => kernel_rfl
          case hQ_k113 => exact fun _ _ _ h => h
          case hw_k113 => rfl
          case hy_k113 => ((intro w hSw; (try dsimp only at hSw); go_simp); all_goals (with_reducible rfl))
          try simp only [Act.put, List.setIfInBounds_toArray, List.set_cons_zero, List.set_cons_succ]
          refine wpAnyH_take (i := 4) (oi := ?oi_k114) (v := ?v_k114) ?hi_k114 (by kernel_rfl) ?hf_k114 ?hr_k114 ?hQ_k114 (Or.inl ⟨?hw_k114, ?hy_k114⟩) (by assumption) ?rest_k114
          case hi_k114 => ((simp only [List.getElem?_toArray, List.getElem?_cons_succ, List.getElem?_cons_zero]); rfl)
          case hf_k114 => kernel_rfl
          case hr_k114 => kernel_rfl
          case hQ_k114 => exact fun _ _ _ h => h
          case hw_k114 => rfl
          case hy_k114 => ((intro w hSw; (try dsimp only at hSw); go_simp); all_goals (with_reducible rfl))
          try simp only [Act.put, List.setIfInBounds_toArray, List.set_cons_zero, List.set_cons_succ]
          refine wpAnyH_take (i := 5) (oi := ?oi_k115) (v := ?v_k115) ?hi_k115 (by kernel_rfl) ?hf_k115 ?hr_k115 ?hQ_k115 (Or.inl ⟨?hw_k115, ?hy_k115⟩) (by assumption) ?rest_k115
          case hi_k115 => ((simp only [List.getElem?_toArray, List.getElem?_cons_succ, List.getElem?_cons_zero]); rfl)
          case hf_k115 => kernel_rfl
          case hr_k115 => kernel_rfl
          case hQ_k115 => exact fun _ _ _ h => h
          case hw_k115 => rfl
          case hy_k115 => ((intro w hSw; (try dsimp only at hSw); go_simp); all_goals (with_reducible rfl))
          try simp only [Act.put, List.setIfInBounds_toArray, List.set_cons_zero, List.set_cons_succ]
          refine wpAnyH_take (i := 6) (oi := ?oi_k116) (v := ?v_k116) ?hi_k116 (by kernel_rfl) ?hf_k116 ?hr_k116 ?hQ_k116 (Or.inl ⟨?hw_k116, ?hy_k116⟩) (by assumption) ?rest_k116
          case hi_k116 => ((simp only [List.getElem?_toArray, List.getElem?_cons_succ, List.getElem?_cons_zero]); rfl)
          case hf_k116 => kernel_rfl
          case hr_k116 => kernel_rfl
          case hQ_k116 => exact fun _ _ _ h => h
          case hw_k116 => rfl
          case hy_k116 => ((intro w hSw; (try dsimp only at hSw); go_simp); all_goals (with_reducible rfl))
          try simp only [Act.put, List.setIfInBounds_toArray, List.set_cons_zero, List.set_cons_succ]
          refine wpAnyH_ready (rs := [7]) (by kernel_rfl) (by simp) ?_
          refine AllReadyH.cons (o := ?o1_k117) ?hi_k117 (fun K hK => ?rest_k117) AllReadyH.nil
          case hi_k117 => ((simp only [List.getElem?_toArray, List.getElem?_cons_succ, List.getElem?_cons_zero]); rfl)
          go_simp
          (go_at_call 21; (with_reducible refine (CP.out _ (p : Int) hp2 (belStep HB2.out hHeld)).mono ?_); rintro e wq7 ⟨rfl, hbq⟩)
          have hu7 : Below W12.heap.size W12 wq7 := belStep hHeld hbq
          clear hbq
          try go_simp
          refine hK.out _ _ (by exact hu7) (fun hHeld => ?_)
          clear hK K
          try simp only [Act.put, List.setIfInBounds_toArray, List.set_cons_zero, List.set_cons_succ]
          refine wpAnyH_take (i := 8) (oi := ?oi_k118) (v := ?v_k118) ?hi_k118 (by kernel_rfl) ?hf_k118 ?hr_k118 ?hQ_k118 (Or.inl ⟨?hw_k118, ?hy_k118⟩) (by assumption) ?rest_k118
          case hi_k118 => ((simp only [List.getElem?_toArray, List.getElem?_cons_succ, List.getElem?_cons_zero]); rfl)
          case hf_k118 => kernel_rfl
          case hr_k118 => kernel_rfl
          case hQ_k118 => exact fun _ _ _ h => h
          case hw_k118 => rfl
          case hy_k118 => ((intro w hSw; (try dsimp only at hSw); go_simp); all_goals (with_reducible rfl))
          try simp only [Act.put, List.setIfInBounds_toArray, List.set_cons_zero, List.set_cons_succ]
          refine wpAnyH_done (by kernel_rfl) ?_ _
          have HBP := Lib.hid hu7
          have HB3 := Lib.hid (belStep HB2.out hu7)
          generalize wq7 = W13 at *
          clear m2 hbel hHeld hu7
          have HM4 := Lib.hid (HM3.out.later HBP.out)
          have HBX4 := Lib.hid (HBX.out.later HBP.out)
          have hbel : Below W13.heap.size W13 W13 := Below.refl _ _
          have m0 := keep (HM4.out.cell (j := 0) rfl)
          have m1 := keep (HM4.out.cell (j := 1) rfl)
          have m2 := keep (HM4.out.cell (j := 2) rfl)
          have m3 := keep (HM4.out.cell (j := 3) rfl)
          have b0 := keep (HBX4.out.cell (j := 0) rfl)
          have b1 := keep (HBX4.out.cell (j := 1) rfl)
          obtain ⟨be, oe, ee, _, hce⟩ := (HRB.out.later HB3.out).elem ContV.cells_len (by omega) HPX.out
          subst ee
          have e0 := keep (hce 0 _ rfl)
          have e1 := keep (hce 1 _ rfl)
          have e2 := keep (hce 2 _ rfl)
          have e3 := keep (hce 3 _ rfl)
          rw [Nat.add_zero] at e0
          clear hce
          have heq := fun u : World => show (Op.equalIn 10000 38 (.agg #[.int .i64 y.state, .int .i64 y.tries]) (.agg #[.int .i64 y.state, .int .i64 y.tries])).run Try.prog u = .ok true u from (eq_box y.state y.tries y.state y.tries u).trans (by simp)
          go_upto_region 14 with fail
          refine wp_region_held_drew (S := fun u => Below W13.heap.size W13 u) (by kernel_rfl) (by exact (show Below W13.heap.size W13 _ by repeat (first | assumption | exact Below.refl _ _ | refine belDrew ?_ | refine belAlloc ?_ _ | refine belStep ?_ (by assumption)))) (fun hHeld => ?_)
          refine wpAnyH_take (i := 0) (oi := ?oi_k119) (v := ?v_k119) ?hi_k119 (by kernel_rfl) ?hf_k119 ?hr_k119 ?hQ_k119 (Or.inl ⟨?hw_k119, ?hy_k119⟩) (by assumption) ?rest_k119
          case hi_k119 => ((simp only [List.getElem?_toArray, List.getElem?_cons_succ, List.getElem?_cons_zero]); rfl)
          case hf_k119 => kernel_rfl
          case hr_k119 => kernel_rfl
          case hQ_k119 => exact fun _ _ _ h => h
          case hw_k119 => rfl
          case hy_k119 => ((intro w hSw; (try dsimp only at hSw); go_simp); all_goals (with_reducible rfl))
          try simp only [Act.put, List.setIfInBounds_toArray, List.set_cons_zero, List.set_cons_succ]
          refine wpAnyH_take (i := 1) (oi := ?oi_k120) (v := ?v_k120) ?hi_k120 (by kernel_rfl) ?hf_k120 ?hr_k120 ?hQ_k120 (Or.inl ⟨?hw_k120, ?hy_k120⟩) (by assumption) ?rest_k120
          case hi_k120 => ((simp only [List.getElem?_toArray, List.getElem?_cons_succ, List.getElem?_cons_zero]); rfl)
          case hf_k120 => kernel_rfl
          case hr_k120 => kernel_rfl
          case hQ_k120 => exact fun _ _ _ h => h
          case hw_k120 => rfl
          case hy_k120 => ((intro w hSw; (try dsimp only at hSw); go_simp); all_goals (with_reducible rfl))
          try simp only [Act.put, List.setIfInBounds_toArray, List.set_cons_zero, List.set_cons_succ]
          refine wpAnyH_take (i := 2) (oi := ?oi_k121) (v := ?v_k121) ?hi_k121 (by kernel_rfl) ?hf_k121 ?hr_k121 ?hQ_k121 (Or.inl ⟨?hw_k121, ?hy_k121⟩) (by assumption) ?rest_k121
          case hi_k121 => ((simp only [List.getElem?_toArray, List.getElem?_cons_succ, List.getElem?_cons_zero]); rfl)
          case hf_k121 => kernel_rfl
          case hr_k121 => kernel_rfl
          case hQ_k121 => exact fun _ _ _ h => h
          case hw_k121 => rfl
          case hy_k121 => ((intro w hSw; (try dsimp only at hSw); go_simp); all_goals (with_reducible rfl))
          try simp only [Act.put, List.setIfInBounds_toArray, List.set_cons_zero, List.set_cons_succ]
          refine wpAnyH_take (i := 3) (oi := ?oi_k122) (v := ?v_k122) ?hi_k122 (by kernel_rfl) ?hf_k122 ?hr_k122 ?hQ_k122 (Or.inl ⟨?hw_k122, ?hy_k122⟩) (by assumption) ?rest_k122
          case hi_k122 => ((simp only [List.getElem?_toArray, List.getElem?_cons_succ, List.getElem?_cons_zero]); rfl)
          case hf_k122 => kernel_rfl
          case hr_k122 => kernel_rfl
          case hQ_k122 => exact fun _ _ _ h => h
          case hw_k122 => rfl
          case hy_k122 => ((intro w hSw; (try dsimp only at hSw); go_simp); all_goals (with_reducible rfl))
          try simp only [Act.put, List.setIfInBounds_toArray, List.set_cons_zero, List.set_cons_succ]
          refine wpAnyH_take (i := 4) (oi := ?oi_k123) (v := ?v_k123) ?hi_k123 (by kernel_rfl) ?hf_k123 ?hr_k123 ?hQ_k123 (Or.inl ⟨?hw_k123, ?hy_k123⟩) (by assumption) ?rest_k123
          case hi_k123 => ((simp only [List.getElem?_toArray, List.getElem?_cons_succ, List.getElem?_cons_zero]); rfl)
          case hf_k123 => kernel_rfl
          case hr_k123 => kernel_rfl
          case hQ_k123 => exact fun _ _ _ h => h
          case hw_k123 => rfl
          case hy_k123 => ((intro w hSw; (try dsimp only at hSw); go_simp); all_goals (with_reducible rfl))
          try simp only [Act.put, List.setIfInBounds_toArray, List.set_cons_zero, List.set_cons_succ]
          refine wpAnyH_ready (rs := [5]) (by kernel_rfl) (by simp) ?_
          refine AllReadyH.cons (o := ?o1_k124) ?hi_k124 (fun K hK => ?rest_k124) AllReadyH.nil
          case hi_k124 => ((simp only [List.getElem?_toArray, List.getElem?_cons_succ, List.getElem?_cons_zero]); rfl)
          go_simp
          (go_at_call 22; (with_reducible refine (CS.out _ (belStep HB3.out hHeld)).mono ?_); rintro e wq5 ⟨rfl, hbq⟩)
          have hu5 : Below W13.heap.size W13 wq5 := belStep hHeld hbq
          clear hbq
          try go_simp
          refine hK.out _ _ (by exact hu5) (fun hHeld => ?_)
          clear hK K
          try simp only [Act.put, List.setIfInBounds_toArray, List.set_cons_zero, List.set_cons_succ]
          refine wpAnyH_take (i := 6) (oi := ?oi_k125) (v := ?v_k125) ?hi_k125 (by kernel_rfl) ?hf_k125 ?hr_k125 ?hQ_k125 (Or.inl ⟨?hw_k125, ?hy_k125⟩) (by assumption) ?rest_k125
          case hi_k125 => ((simp only [List.getElem?_toArray, List.getElem?_cons_succ, List.getElem?_cons_zero]); rfl)
          case hf_k125 => kernel_rfl
          case hr_k125 => kernel_rfl
          case hQ_k125 => exact fun _ _ _ h => h
          case hw_k125 => rfl
          case hy_k125 => ((intro w hSw; (try dsimp only at hSw); go_simp); all_goals (with_reducible rfl))
          try simp only [Act.put, List.setIfInBounds_toArray, List.set_cons_zero, List.set_cons_succ]
          refine wpAnyH_take (i := 7) (oi := ?oi_k126) (v := ?v_k126) ?hi_k126 (by kernel_rfl) ?hf_k126 ?hr_k126 ?hQ_k126 (Or.inl ⟨?hw_k126, ?hy_k126⟩) (by assumption) ?rest_k126
          case hi_k126 => ((simp only [List.getElem?_toArray, List.getElem?_cons_succ, List.getElem?_cons_zero]); rfl)
          case hf_k126 => kernel_rfl
          case hr_k126 => kernel_rfl
          case hQ_k126 => exact fun _ _ _ h => h
          case hw_k126 => rfl
          case hy_k126 => ((intro w hSw; (try dsimp only at hSw); go_simp); all_goals (with_reducible rfl))
          try simp only [Act.put, List.setIfInBounds_toArray, List.set_cons_zero, List.set_cons_succ]
          refine wpAnyH_take (i := 8) (oi := ?oi_k127) (v := ?v_k127) ?hi_k127 (by kernel_rfl) ?hf_k127 ?hr_k127 ?hQ_k127 (Or.inl ⟨?hw_k127, ?hy_k127⟩) (by assumption) ?rest_k127
          case hi_k127 => ((simp only [List.getElem?_toArray, List.getElem?_cons_succ, List.getElem?_cons_zero]); rfl)
          case hf_k127 => kernel_rfl
          case hr_k127 => kernel_rfl
          case hQ_k127 => exact fun _ _ _ h => h
          case hw_k127 => rfl
          case hy_k127 => ((intro w hSw; (try dsimp only at hSw); go_simp); all_goals (with_reducible rfl))
          try simp only [Act.put, List.setIfInBounds_toArray, List.set_cons_zero, List.set_cons_succ]
          refine wpAnyH_take (i := 9) (oi := ?oi_k128) (v := ?v_k128) ?hi_k128 (by kernel_rfl) ?hf_k128 ?hr_k128 ?hQ_k128 (Or.inl ⟨?hw_k128, ?hy_k128⟩) (by assumption) ?rest_k128
          case hi_k128 => ((simp only [List.getElem?_toArray, List.getElem?_cons_succ, List.getElem?_cons_zero]); rfl)
          case hf_k128 => kernel_rfl
          case hr_k128 => kernel_rfl
          case hQ_k128 => exact fun _ _ _ h => h
          case hw_k128 => rfl
          case hy_k128 => ((intro w hSw; (try dsimp only at hSw); go_simp); all_goals (with_reducible rfl))
          try simp only [Act.put, List.setIfInBounds_toArray, List.set_cons_zero, List.set_cons_succ]
          refine wpAnyH_take (i := 10) (oi := ?oi_k129) (v := ?v_k129) ?hi_k129 (by kernel_rfl) ?hf_k129 ?hr_k129 ?hQ_k129 (Or.inl ⟨?hw_k129, ?hy_k129⟩) (by assumption) ?rest_k129
          case hi_k129 => ((simp only [List.getElem?_toArray, List.getElem?_cons_succ, List.getElem?_cons_zero]); rfl)
          case hf_k129 => kernel_rfl
          case hr_k129 => kernel_rfl
          case hQ_k129 => exact fun _ _ _ h => h
          case hw_k129 => rfl
          case hy_k129 => ((intro w hSw; (try dsimp only at hSw); go_simp); all_goals (with_reducible rfl))
          try simp only [Act.put, List.setIfInBounds_toArray, List.set_cons_zero, List.set_cons_succ]
          refine wpAnyH_take (i := 11) (oi := ?oi_k130) (v := ?v_k130) ?hi_k130 (by kernel_rfl) ?hf_k130 ?hr_k130 ?hQ_k130 (Or.inl ⟨?hw_k130, ?hy_k130⟩) (by assumption) ?rest_k130
          case hi_k130 => ((simp only [List.getElem?_toArray, List.getElem?_cons_succ, List.getElem?_cons_zero]); rfl)
          case hf_k130 => kernel_rfl
          case hr_k130 => kernel_rfl
          case hQ_k130 => exact fun _ _ _ h => h
          case hw_k130 => rfl
          case hy_k130 => ((intro w hSw; (try dsimp only at hSw); go_simp); all_goals (with_reducible rfl))
          try simp only [Act.put, List.setIfInBounds_toArray, List.set_cons_zero, List.set_cons_succ]
          refine wpAnyH_take (i := 12) (oi := ?oi_k131) (v := ?v_k131) ?hi_k131 (by kernel_rfl) ?hf_k131 ?hr_k131 ?hQ_k131 (Or.inl ⟨?hw_k131, ?hy_k131⟩) (by assumption) ?rest_k131
          case hi_k131 => ((simp only [List.getElem?_toArray, List.getElem?_cons_succ, List.getElem?_cons_zero]); rfl)
          case hf_k131 => kernel_rfl
          case hr_k131 => kernel_rfl
          case hQ_k131 => exact fun _ _ _ h => h
          case hw_k131 => rfl
          case hy_k131 => ((intro w hSw; (try dsimp only at hSw); go_simp); all_goals (with_reducible rfl))
          try simp only [Act.put, List.setIfInBounds_toArray, List.set_cons_zero, List.set_cons_succ]
          refine wpAnyH_take (i := 13) (oi := ?oi_k132) (v := ?v_k132) ?hi_k132 (by kernel_rfl) ?hf_k132 ?hr_k132 ?hQ_k132 (Or.inl ⟨?hw_k132, ?hy_k132⟩) (by assumption) ?rest_k132
          case hi_k132 => ((simp only [List.getElem?_toArray, List.getElem?_cons_succ, List.getElem?_cons_zero]); rfl)
          case hf_k132 => kernel_rfl
          case hr_k132 => kernel_rfl
          case hQ_k132 => exact fun _ _ _ h => h
          case hw_k132 => rfl
          case hy_k132 => ((intro w hSw; (try dsimp only at hSw); go_simp); all_goals (with_reducible rfl))
          try simp only [Act.put, List.setIfInBounds_toArray, List.set_cons_zero, List.set_cons_succ]
          refine wpAnyH_take (i := 14) (oi := ?oi_k133) (v := ?v_k133) ?hi_k133 (by kernel_rfl) ?hf_k133 ?hr_k133 ?hQ_k133 (Or.inl ⟨?hw_k133, ?hy_k133⟩) (by assumption) ?rest_k133
          case hi_k133 => ((simp only [List.getElem?_toArray, List.getElem?_cons_succ, List.getElem?_cons_zero]); rfl)
          case hf_k133 => kernel_rfl
          case hr_k133 => kernel_rfl
          case hQ_k133 => exact fun _ _ _ h => h
          case hw_k133 => rfl
          case hy_k133 => ((intro w hSw; (try dsimp only at hSw); go_simp); all_goals (with_reducible rfl))
          try simp only [Act.put, List.setIfInBounds_toArray, List.set_cons_zero, List.set_cons_succ]
          refine wpAnyH_take (i := 15) (oi := ?oi_k134) (v := ?v_k134) ?hi_k134 (by kernel_rfl) ?hf_k134 ?hr_k134 ?hQ_k134 (Or.inl ⟨?hw_k134, ?hy_k134⟩) (by assumption) ?rest_k134
          case hi_k134 => ((simp only [List.getElem?_toArray, List.getElem?_cons_succ, List.getElem?_cons_zero]); rfl)
          case hf_k134 => kernel_rfl
          case hr_k134 => kernel_rfl
          case hQ_k134 => exact fun _ _ _ h => h
          case hw_k134 => rfl
          case hy_k134 => ((intro w hSw; (try dsimp only at hSw); go_simp); all_goals (with_reducible rfl))
          try simp only [Act.put, List.setIfInBounds_toArray, List.set_cons_zero, List.set_cons_succ]
          refine wpAnyH_take (i := 16) (oi := ?oi_k135) (v := ?v_k135) ?hi_k135 (by kernel_rfl) ?hf_k135 ?hr_k135 ?hQ_k135 (Or.inl ⟨?hw_k135, ?hy_k135⟩) (by assumption) ?rest_k135
          case hi_k135 => ((simp only [List.getElem?_toArray, List.getElem?_cons_succ, List.getElem?_cons_zero]); rfl)
          case hf_k135 => kernel_rfl
          case hr_k135 => kernel_rfl
          case hQ_k135 => exact fun _ _ _ h => h
          case hw_k135 => rfl
          case hy_k135 => ((intro w hSw; (try dsimp only at hSw); go_simp); all_goals (with_reducible rfl))
          try simp only [Act.put, List.setIfInBounds_toArray, List.set_cons_zero, List.set_cons_succ]
          refine wpAnyH_take (i := 17) (oi := ?oi_k136) (v := ?v_k136) ?hi_k136 (by kernel_rfl) ?hf_k136 ?hr_k136 ?hQ_k136 (Or.inl ⟨?hw_k136, ?hy_k136⟩) (by assumption) ?rest_k136
          case hi_k136 => ((simp only [List.getElem?_toArray, List.getElem?_cons_succ, List.getElem?_cons_zero]); rfl)
          case hf_k136 => kernel_rfl
          case hr_k136 => kernel_rfl
          case hQ_k136 => exact fun _ _ _ h => h
          case hw_k136 => rfl
          case hy_k136 => ((intro w hSw; (try dsimp only at hSw); go_simp); all_goals (with_reducible rfl))
          try simp only [Act.put, List.setIfInBounds_toArray, List.set_cons_zero, List.set_cons_succ]
          refine wpAnyH_take (i := 18) (oi := ?oi_k137) (v := ?v_k137) ?hi_k137 (by kernel_rfl) ?hf_k137 ?hr_k137 ?hQ_k137 (Or.inl ⟨?hw_k137, ?hy_k137⟩) (by assumption) ?rest_k137
          case hi_k137 => ((simp only [List.getElem?_toArray, List.getElem?_cons_succ, List.getElem?_cons_zero]); rfl)
          case hf_k137 => kernel_rfl
          case hr_k137 => kernel_rfl
          case hQ_k137 => exact fun _ _ _ h => h
          case hw_k137 => rfl
          case hy_k137 => ((intro w hSw; (try dsimp only at hSw); go_simp); all_goals (with_reducible rfl))
          try simp only [Act.put, List.setIfInBounds_toArray, List.set_cons_zero, List.set_cons_succ]
          refine wpAnyH_take (i := 19) (oi := ?oi_k138) (v := ?v_k138) ?hi_k138 (by kernel_rfl) ?hf_k138 ?hr_k138 ?hQ_k138 (Or.inl ⟨?hw_k138, ?hy_k138⟩) (by assumption) ?rest_k138
          case hi_k138 => ((simp only [List.getElem?_toArray, List.getElem?_cons_succ, List.getElem?_cons_zero]); rfl)
          case hf_k138 => kernel_rfl
          case hr_k138 => kernel_rfl
          case hQ_k138 => exact fun _ _ _ h => h
          case hw_k138 => rfl
          case hy_k138 => ((intro w hSw; (try dsimp only at hSw); go_simp); all_goals (with_reducible rfl))
          try simp only [Act.put, List.setIfInBounds_toArray, List.set_cons_zero, List.set_cons_succ]
          refine wpAnyH_take (i := 20) (oi := ?oi_k139) (v := ?v_k139) ?hi_k139 (by kernel_rfl) ?hf_k139 ?hr_k139 ?hQ_k139 (Or.inl ⟨?hw_k139, ?hy_k139⟩) (by assumption) ?rest_k139
          case hi_k139 => ((simp only [List.getElem?_toArray, List.getElem?_cons_succ, List.getElem?_cons_zero]); rfl)
          case hf_k139 => kernel_rfl
          case hr_k139 => kernel_rfl
          case hQ_k139 => exact fun _ _ _ h => h
          case hw_k139 => rfl
          case hy_k139 => ((intro w hSw; (try dsimp only at hSw); go_simp); all_goals (with_reducible rfl))
          try simp only [Act.put, List.setIfInBounds_toArray, List.set_cons_zero, List.set_cons_succ]
          refine wpAnyH_take (i := 21) (oi := ?oi_k140) (v := ?v_k140) ?hi_k140 (by kernel_rfl) ?hf_k140 ?hr_k140 ?hQ_k140 (Or.inl ⟨?hw_k140, ?hy_k140⟩) (by assumption) ?rest_k140
          case hi_k140 => ((simp only [List.getElem?_toArray, List.getElem?_cons_succ, List.getElem?_cons_zero]); rfl)
          case hf_k140 => kernel_rfl
          case hr_k140 => kernel_rfl
          case hQ_k140 => exact fun _ _ _ h => h
          case hw_k140 => rfl
          case hy_k140 => ((intro w hSw; (try dsimp only at hSw); go_simp); all_goals (with_reducible rfl))
          try simp only [Act.put, List.setIfInBounds_toArray, List.set_cons_zero, List.set_cons_succ]
          refine wpAnyH_take (i := 22) (oi := ?oi_k141) (v := ?v_k141) ?hi_k141 (by kernel_rfl) ?hf_k141 ?hr_k141 ?hQ_k141 (Or.inl ⟨?hw_k141, ?hy_k141⟩) (by assumption) ?rest_k141
          case hi_k141 => ((simp only [List.getElem?_toArray, List.getElem?_cons_succ, List.getElem?_cons_zero]); rfl)
          case hf_k141 => kernel_rfl
          case hr_k141 => kernel_rfl
          case hQ_k141 => exact fun _ _ _ h => h
          case hw_k141 => rfl
          case hy_k141 => ((intro w hSw; (try dsimp only at hSw); go_simp); all_goals (with_reducible rfl))
          try simp only [Act.put, List.setIfInBounds_toArray, List.set_cons_zero, List.set_cons_succ]
          refine wpAnyH_take (i := 23) (oi := ?oi_k142) (v := ?v_k142) ?hi_k142 (by kernel_rfl) ?hf_k142 ?hr_k142 ?hQ_k142 (Or.inl ⟨?hw_k142, ?hy_k142⟩) (by assumption) ?rest_k142
          case hi_k142 => ((simp only [List.getElem?_toArray, List.getElem?_cons_succ, List.getElem?_cons_zero]); rfl)
          case hf_k142 => kernel_rfl
          case hr_k142 => kernel_rfl
          case hQ_k142 => exact fun _ _ _ h => h
          case hw_k142 => rfl
          case hy_k142 => ((intro w hSw; (try dsimp only at hSw); go_simp); all_goals (with_reducible rfl))
          try simp only [Act.put, List.setIfInBounds_toArray, List.set_cons_zero, List.set_cons_succ]
          refine wpAnyH_take (i := 24) (oi := ?oi_k143) (v := ?v_k143) ?hi_k143 (by kernel_rfl) ?hf_k143 ?hr_k143 ?hQ_k143 (Or.inl ⟨?hw_k143, ?hy_k143⟩) (by assumption) ?rest_k143
          case hi_k143 => ((simp only [List.getElem?_toArray, List.getElem?_cons_succ, List.getElem?_cons_zero]); rfl)
          case hf_k143 => kernel_rfl
          case hr_k143 => kernel_rfl
          case hQ_k143 => exact fun _ _ _ h => h
          case hw_k143 => rfl
          case hy_k143 => ((intro w hSw; (try dsimp only at hSw); go_simp); all_goals (with_reducible rfl))
          try simp only [Act.put, List.setIfInBounds_toArray, List.set_cons_zero, List.set_cons_succ]
          refine wpAnyH_take (i := 25) (oi := ?oi_k144) (v := ?v_k144) ?hi_k144 (by kernel_rfl) ?hf_k144 ?hr_k144 ?hQ_k144 (Or.inl ⟨?hw_k144, ?hy_k144⟩) (by assumption) ?rest_k144
          case hi_k144 => ((simp only [List.getElem?_toArray, List.getElem?_cons_succ, List.getElem?_cons_zero]); rfl)
          case hf_k144 => kernel_rfl
          case hr_k144 => kernel_rfl
          case hQ_k144 => exact fun _ _ _ h => h
          case hw_k144 => rfl
          case hy_k144 => ((intro w hSw; (try dsimp only at hSw); go_simp); all_goals (with_reducible rfl))
          try simp only [Act.put, List.setIfInBounds_toArray, List.set_cons_zero, List.set_cons_succ]
          refine wpAnyH_take (i := 26) (oi := ?oi_k145) (v := ?v_k145) ?hi_k145 (by kernel_rfl) ?hf_k145 ?hr_k145 ?hQ_k145 (Or.inl ⟨?hw_k145, ?hy_k145⟩) (by assumption) ?rest_k145
          case hi_k145 => ((simp only [List.getElem?_toArray, List.getElem?_cons_succ, List.getElem?_cons_zero]); rfl)
          case hf_k145 => kernel_rfl
          case hr_k145 => kernel_rfl
          case hQ_k145 => exact fun _ _ _ h => h
          case hw_k145 => rfl
          case hy_k145 => ((intro w hSw; (try dsimp only at hSw); go_simp); all_goals (with_reducible rfl))
          try simp only [Act.put, List.setIfInBounds_toArray, List.set_cons_zero, List.set_cons_succ]
          refine wpAnyH_take (i := 27) (oi := ?oi_k146) (v := ?v_k146) ?hi_k146 (by kernel_rfl) ?hf_k146 ?hr_k146 ?hQ_k146 (Or.inl ⟨?hw_k146, ?hy_k146⟩) (by assumption) ?rest_k146
          case hi_k146 => ((simp only [List.getElem?_toArray, List.getElem?_cons_succ, List.getElem?_cons_zero]); rfl)
          case hf_k146 => kernel_rfl
          case hr_k146 => kernel_rfl
          case hQ_k146 => exact fun _ _ _ h => h
          case hw_k146 => rfl
          case hy_k146 => ((intro w hSw; (try dsimp only at hSw); go_simp); all_goals (with_reducible rfl))
          try simp only [Act.put, List.setIfInBounds_toArray, List.set_cons_zero, List.set_cons_succ]
          refine wpAnyH_take (i := 28) (oi := ?oi_k147) (v := ?v_k147) ?hi_k147 (by kernel_rfl) ?hf_k147 ?hr_k147 ?hQ_k147 (Or.inl ⟨?hw_k147, ?hy_k147⟩) (by assumption) ?rest_k147
          case hi_k147 => ((simp only [List.getElem?_toArray, List.getElem?_cons_succ, List.getElem?_cons_zero]); rfl)
          case hf_k147 => kernel_rfl
          case hr_k147 => kernel_rfl
          case hQ_k147 => exact fun _ _ _ h => h
          case hw_k147 => rfl
          case hy_k147 => ((intro w hSw; (try dsimp only at hSw); go_simp); all_goals (with_reducible rfl))
          try simp only [Act.put, List.setIfInBounds_toArray, List.set_cons_zero, List.set_cons_succ]
          refine wpAnyH_take (i := 29) (oi := ?oi_k148) (v := ?v_k148) ?hi_k148 (by kernel_rfl) ?hf_k148 ?hr_k148 ?hQ_k148 (Or.inl ⟨?hw_k148, ?hy_k148⟩) (by assumption) ?rest_k148
          case hi_k148 => ((simp only [List.getElem?_toArray, List.getElem?_cons_succ, List.getElem?_cons_zero]); rfl)
          case hf_k148 => kernel_rfl
          case hr_k148 => kernel_rfl
          case hQ_k148 => exact fun _ _ _ h => h
          case hw_k148 => rfl
          case hy_k148 => ((intro w hSw; (try dsimp only at hSw); go_simp); all_goals (with_reducible rfl))
          try simp only [Act.put, List.setIfInBounds_toArray, List.set_cons_zero, List.set_cons_succ]
          refine wpAnyH_take (i := 30) (oi := ?oi_k149) (v := ?v_k149) ?hi_k149 (by kernel_rfl) ?hf_k149 ?hr_k149 ?hQ_k149 (Or.inl ⟨?hw_k149, ?hy_k149⟩) (by assumption) ?rest_k149
          case hi_k149 => ((simp only [List.getElem?_toArray, List.getElem?_cons_succ, List.getElem?_cons_zero]); rfl)
          case hf_k149 => kernel_rfl
          case hr_k149 => kernel_rfl
          case hQ_k149 => exact fun _ _ _ h => h
          case hw_k149 => rfl
          case hy_k149 => ((intro w hSw; (try dsimp only at hSw); go_simp); all_goals (with_reducible rfl))
          try simp only [Act.put, List.setIfInBounds_toArray, List.set_cons_zero, List.set_cons_succ]
          refine wpAnyH_take (i := 31) (oi := ?oi_k150) (v := undef) ?hi_k150 (by kernel_rfl) ?hf_k150 ?hr_k150 ?hQ_k150 (Or.inr ⟨?hw_k150, rfl⟩) (by assumption) ?rest_k150
          case hi_k150 => ((simp only [List.getElem?_toArray, List.getElem?_cons_succ, List.getElem?_cons_zero]); rfl)
          case hf_k150 => kernel_rfl
          case hr_k150 => kernel_rfl
          case hQ_k150 => exact fun _ _ _ h => h
          case hw_k150 => rfl
          try simp only [Act.put, List.setIfInBounds_toArray, List.set_cons_zero, List.set_cons_succ]
          refine wpAnyH_take (i := 32) (oi := ?oi_k151) (v := undef) ?hi_k151 (by kernel_rfl) ?hf_k151 ?hr_k151 ?hQ_k151 (Or.inr ⟨?hw_k151, rfl⟩) (by assumption) ?rest_k151
          case hi_k151 => ((simp only [List.getElem?_toArray, List.getElem?_cons_succ, List.getElem?_cons_zero]); rfl)
          case hf_k151 => kernel_rfl
          case hr_k151 => kernel_rfl
          case hQ_k151 => exact fun _ _ _ h => h
          case hw_k151 => rfl
          try simp only [Act.put, List.setIfInBounds_toArray, List.set_cons_zero, List.set_cons_succ]
          refine wpAnyH_take (i := 33) (oi := ?oi_k152) (v := undef) ?hi_k152 (by kernel_rfl) ?hf_k152 ?hr_k152 ?hQ_k152 (Or.inr ⟨?hw_k152, rfl⟩) (by assumption) ?rest_k152
          case hi_k152 => ((simp only [List.getElem?_toArray, List.getElem?_cons_succ, List.getElem?_cons_zero]); rfl)
          case hf_k152 => kernel_rfl
          case hr_k152 => kernel_rfl
          case hQ_k152 => exact fun _ _ _ h => h
          case hw_k152 => rfl
          try simp only [Act.put, List.setIfInBounds_toArray, List.set_cons_zero, List.set_cons_succ]
          refine wpAnyH_take (i := 34) (oi := ?oi_k153) (v := ?v_k153) ?hi_k153 (by kernel_rfl) ?hf_k153 ?hr_k153 ?hQ_k153 (Or.inl ⟨?hw_k153, ?hy_k153⟩) (by assumption) ?rest_k153
          case hi_k153 => ((simp only [List.getElem?_toArray, List.getElem?_cons_succ, List.getElem?_cons_zero]); rfl)
          case hf_k153 => kernel_rfl
          case hr_k153 => kernel_rfl
          case hQ_k153 => exact fun _ _ _ h => h
          case hw_k153 => rfl
          case hy_k153 => ((intro w hSw; (try dsimp only at hSw); go_simp); all_goals (with_reducible rfl))
          try simp only [Act.put, List.setIfInBounds_toArray, List.set_cons_zero, List.set_cons_succ]
          refine wpAnyH_take (i := 35) (oi := ?oi_k154) (v := ?v_k154) ?hi_k154 (by kernel_rfl) ?hf_k154 ?hr_k154 ?hQ_k154 (Or.inl ⟨?hw_k154, ?hy_k154⟩) (by assumption) ?rest_k154
          case hi_k154 => ((simp only [List.getElem?_toArray, List.getElem?_cons_succ, List.getElem?_cons_zero]); rfl)
          case hf_k154 => kernel_rfl
          case hr_k154 => kernel_rfl
          case hQ_k154 => exact fun _ _ _ h => h
          case hw_k154 => rfl
          case hy_k154 => ((intro w hSw; (try dsimp only at hSw); go_simp); all_goals (with_reducible rfl))
          try simp only [Act.put, List.setIfInBounds_toArray, List.set_cons_zero, List.set_cons_succ]
          refine wpAnyH_done (by kernel_rfl) ?_ _
          go_wp2
          go_roundw
          case rel => exact ⟨k + 1, by omega, by push_cast; rfl, Lib.hid (by rw [HNX.out]; exact HLW.out.later (belStep HB3.out hHeld))⟩
          case measure => simp [intOf] <;> omega
        | false =>
          have hp2 := placeRC_no HTT.out.1
          have hpd : decide ((0 : Int) ≤ (-1 : Int)) = false := rfl
          have hyz : y = zeroC := by rw [← HTT.out.2]; exact fndC_no HTT.out.1
          subst hyz
          refine wp_region_held_drew (S := fun u => Below W12.heap.size W12 u) (by kernel_rfl) (by exact (show Below W12.heap.size W12 _ by repeat (first | assumption | exact Below.refl _ _ | refine belDrew ?_ | refine belAlloc ?_ _ | refine belStep ?_ (by assumption)))) (fun hHeld => ?_)
          refine wpAnyH_take (i := 0) (oi := ?oi_k155) (v := ?v_k155) ?hi_k155 (by kernel_rfl) ?hf_k155 ?hr_k155 ?hQ_k155 (Or.inl ⟨?hw_k155, ?hy_k155⟩) (by assumption) ?rest_k155
          case hi_k155 => ((simp only [List.getElem?_toArray, List.getElem?_cons_succ, List.getElem?_cons_zero]); rfl)
          case hf_k155 => kernel_rfl
          case hr_k155 => kernel_rfl
          case hQ_k155 => exact fun _ _ _ h => h
          case hw_k155 => rfl
          case hy_k155 => ((intro w hSw; (try dsimp only at hSw); go_simp); all_goals (with_reducible rfl))
          try simp only [Act.put, List.setIfInBounds_toArray, List.set_cons_zero, List.set_cons_succ]
          refine wpAnyH_take (i := 1) (oi := ?oi_k156) (v := ?v_k156) ?hi_k156 (by kernel_rfl) ?hf_k156 ?hr_k156 ?hQ_k156 (Or.inl ⟨?hw_k156, ?hy_k156⟩) (by assumption) ?rest_k156
          case hi_k156 => ((simp only [List.getElem?_toArray, List.getElem?_cons_succ, List.getElem?_cons_zero]); rfl)
          case hf_k156 => kernel_rfl
          case hr_k156 => kernel_rfl
          case hQ_k156 => exact fun _ _ _ h => h
          case hw_k156 => rfl
          case hy_k156 => ((intro w hSw; (try dsimp only at hSw); go_simp); all_goals (with_reducible rfl))
          try simp only [Act.put, List.setIfInBounds_toArray, List.set_cons_zero, List.set_cons_succ]
          refine wpAnyH_take (i := 2) (oi := ?oi_k157) (v := ?v_k157) ?hi_k157 (by kernel_rfl) ?hf_k157 ?hr_k157 ?hQ_k157 (Or.inl ⟨?hw_k157, ?hy_k157⟩) (by assumption) ?rest_k157
          case hi_k157 => ((simp only [List.getElem?_toArray, List.getElem?_cons_succ, List.getElem?_cons_zero]); rfl)
          case hf_k157 => kernel_rfl
          case hr_k157 => kernel_rfl
          case hQ_k157 => exact fun _ _ _ h => h
          case hw_k157 => rfl
          case hy_k157 => ((intro w hSw; (try dsimp only at hSw); go_simp); all_goals (with_reducible rfl))
          try simp only [Act.put, List.setIfInBounds_toArray, List.set_cons_zero, List.set_cons_succ]
          refine wpAnyH_take (i := 3) (oi := ?oi_k158) (v := ?v_k158) ?hi_k158 (by kernel_rfl) ?hf_k158 ?hr_k158 ?hQ_k158 (Or.inl ⟨?hw_k158, ?hy_k158⟩) (by assumption) ?rest_k158
          case hi_k158 => ((simp only [List.getElem?_toArray, List.getElem?_cons_succ, List.getElem?_cons_zero]); rfl)
          case hf_k158 => kernel_rfl
          case hr_k158 => kernel_rfl
          case hQ_k158 => exact fun _ _ _ h => h
          case hw_k158 => rfl
          case hy_k158 => ((intro w hSw; (try dsimp only at hSw); go_simp); all_goals (with_reducible rfl))
          try simp only [Act.put, List.setIfInBounds_toArray, List.set_cons_zero, List.set_cons_succ]
          refine wpAnyH_take (i := 4) (oi := ?oi_k159) (v := ?v_k159) ?hi_k159 (by kernel_rfl) ?hf_k159 ?hr_k159 ?hQ_k159 (Or.inl ⟨?hw_k159, ?hy_k159⟩) (by assumption) ?rest_k159
          case hi_k159 => ((simp only [List.getElem?_toArray, List.getElem?_cons_succ, List.getElem?_cons_zero]); rfl)
          case hf_k159 => kernel_rfl
          case hr_k159 => kernel_rfl
          case hQ_k159 => exact fun _ _ _ h => h
          case hw_k159 => rfl
          case hy_k159 => ((intro w hSw; (try dsimp only at hSw); go_simp); all_goals (with_reducible rfl))
          try simp only [Act.put, List.setIfInBounds_toArray, List.set_cons_zero, List.set_cons_succ]
          refine wpAnyH_take (i := 5) (oi := ?oi_k160) (v := ?v_k160) ?hi_k160 (by kernel_rfl) ?hf_k160 ?hr_k160 ?hQ_k160 (Or.inl ⟨?hw_k160, ?hy_k160⟩) (by assumption) ?rest_k160
          case hi_k160 => ((simp only [List.getElem?_toArray, List.getElem?_cons_succ, List.getElem?_cons_zero]); rfl)
          case hf_k160 => kernel_rfl
          case hr_k160 => kernel_rfl
          case hQ_k160 => exact fun _ _ _ h => h
          case hw_k160 => rfl
          case hy_k160 => ((intro w hSw; (try dsimp only at hSw); go_simp); all_goals (with_reducible rfl))
          try simp only [Act.put, List.setIfInBounds_toArray, List.set_cons_zero, List.set_cons_succ]
          refine wpAnyH_take (i := 6) (oi := ?oi_k161) (v := ?v_k161) ?hi_k161 (by kernel_rfl) ?hf_k161 ?hr_k161 ?hQ_k161 (Or.inl ⟨?hw_k161, ?hy_k161⟩) (by assumption) ?rest_k161
          case hi_k161 => ((simp only [List.getElem?_toArray, List.getElem?_cons_succ, List.getElem?_cons_zero]); rfl)
          case hf_k161 => kernel_rfl
          case hr_k161 => kernel_rfl
          case hQ_k161 => exact fun _ _ _ h => h
          case hw_k161 => rfl
          case hy_k161 => ((intro w hSw; (try dsimp only at hSw); go_simp); all_goals (with_reducible rfl))
          try simp only [Act.put, List.setIfInBounds_toArray, List.set_cons_zero, List.set_cons_succ]
          refine wpAnyH_ready (rs := [7]) (by kernel_rfl) (by simp) ?_
          refine AllReadyH.cons (o := ?o1_k162) ?hi_k162 (fun K hK => ?rest_k162) AllReadyH.nil
          case hi_k162 => ((simp only [List.getElem?_toArray, List.getElem?_cons_succ, List.getElem?_cons_zero]); rfl)
          go_simp
          (go_at_call 21; (with_reducible refine (CP.out _ (-1) hp2 (belStep HB2.out hHeld)).mono ?_); rintro e wq7 ⟨rfl, hbq⟩)
          have hu7 : Below W12.heap.size W12 wq7 := belStep hHeld hbq
          clear hbq
          try go_simp
          refine hK.out _ _ (by exact hu7) (fun hHeld => ?_)
          clear hK K
          try simp only [Act.put, List.setIfInBounds_toArray, List.set_cons_zero, List.set_cons_succ]
          refine wpAnyH_take (i := 8) (oi := ?oi_k163) (v := ?v_k163) ?hi_k163 (by kernel_rfl) ?hf_k163 ?hr_k163 ?hQ_k163 (Or.inl ⟨?hw_k163, ?hy_k163⟩) (by assumption) ?rest_k163
          case hi_k163 => ((simp only [List.getElem?_toArray, List.getElem?_cons_succ, List.getElem?_cons_zero]); rfl)
          case hf_k163 => kernel_rfl
          case hr_k163 => kernel_rfl
          case hQ_k163 => exact fun _ _ _ h => h
          case hw_k163 => rfl
          case hy_k163 => ((intro w hSw; (try dsimp only at hSw); go_simp); all_goals (with_reducible rfl))
          try simp only [Act.put, List.setIfInBounds_toArray, List.set_cons_zero, List.set_cons_succ]
          refine wpAnyH_done (by kernel_rfl) ?_ _
          have HBP := Lib.hid hu7
          have HB3 := Lib.hid (belStep HB2.out hu7)
          generalize wq7 = W13 at *
          clear m2 hbel hHeld hu7
          have HM4 := Lib.hid (HM3.out.later HBP.out)
          have HBX4 := Lib.hid (show Blk W13 bx [.int .i64 0, .int .i64 0] 38 from HBX.out.later HBP.out)
          have hbel : Below W13.heap.size W13 W13 := Below.refl _ _
          have m0 := keep (HM4.out.cell (j := 0) rfl)
          have m1 := keep (HM4.out.cell (j := 1) rfl)
          have m2 := keep (HM4.out.cell (j := 2) rfl)
          have m3 := keep (HM4.out.cell (j := 3) rfl)
          have b0 := keep (HBX4.out.cell (j := 0) rfl)
          have b1 := keep (HBX4.out.cell (j := 1) rfl)
          have heq := fun u : World => show (Op.equalIn 10000 38 (.agg #[.int .i64 0, .int .i64 0]) (.agg #[.int .i64 0, .int .i64 0])).run Try.prog u = .ok true u from (eq_box 0 0 0 0 u).trans (by simp)
          go_upto_region 14 with fail
          refine wp_region_held_drew (S := fun u => Below W13.heap.size W13 u) (by kernel_rfl) (by exact (show Below W13.heap.size W13 _ by repeat (first | assumption | exact Below.refl _ _ | refine belDrew ?_ | refine belAlloc ?_ _ | refine belStep ?_ (by assumption)))) (fun hHeld => ?_)
          refine wpAnyH_take (i := 0) (oi := ?oi_k164) (v := ?v_k164) ?hi_k164 (by kernel_rfl) ?hf_k164 ?hr_k164 ?hQ_k164 (Or.inl ⟨?hw_k164, ?hy_k164⟩) (by assumption) ?rest_k164
          case hi_k164 => ((simp only [List.getElem?_toArray, List.getElem?_cons_succ, List.getElem?_cons_zero]); rfl)
          case hf_k164 => kernel_rfl
          case hr_k164 => kernel_rfl
          case hQ_k164 => exact fun _ _ _ h => h
          case hw_k164 => rfl
          case hy_k164 => ((intro w hSw; (try dsimp only at hSw); go_simp); all_goals (with_reducible rfl))
          try simp only [Act.put, List.setIfInBounds_toArray, List.set_cons_zero, List.set_cons_succ]
          refine wpAnyH_take (i := 1) (oi := ?oi_k165) (v := ?v_k165) ?hi_k165 (by kernel_rfl) ?hf_k165 ?hr_k165 ?hQ_k165 (Or.inl ⟨?hw_k165, ?hy_k165⟩) (by assumption) ?rest_k165
          case hi_k165 => ((simp only [List.getElem?_toArray, List.getElem?_cons_succ, List.getElem?_cons_zero]); rfl)
          case hf_k165 => kernel_rfl
          case hr_k165 => kernel_rfl
          case hQ_k165 => exact fun _ _ _ h => h
          case hw_k165 => rfl
          case hy_k165 => ((intro w hSw; (try dsimp only at hSw); go_simp); all_goals (with_reducible rfl))
          try simp only [Act.put, List.setIfInBounds_toArray, List.set_cons_zero, List.set_cons_succ]
          refine wpAnyH_take (i := 2) (oi := ?oi_k166) (v := ?v_k166) ?hi_k166 (by kernel_rfl) ?hf_k166 ?hr_k166 ?hQ_k166 (Or.inl ⟨?hw_k166, ?hy_k166⟩) (by assumption) ?rest_k166
          case hi_k166 => ((simp only [List.getElem?_toArray, List.getElem?_cons_succ, List.getElem?_cons_zero]); rfl)
          case hf_k166 => kernel_rfl
          case hr_k166 => kernel_rfl
          case hQ_k166 => exact fun _ _ _ h => h
          case hw_k166 => rfl
          case hy_k166 => ((intro w hSw; (try dsimp only at hSw); go_simp); all_goals (with_reducible rfl))
          try simp only [Act.put, List.setIfInBounds_toArray, List.set_cons_zero, List.set_cons_succ]
          refine wpAnyH_take (i := 3) (oi := ?oi_k167) (v := ?v_k167) ?hi_k167 (by kernel_rfl) ?hf_k167 ?hr_k167 ?hQ_k167 (Or.inl ⟨?hw_k167, ?hy_k167⟩) (by assumption) ?rest_k167
          case hi_k167 => ((simp only [List.getElem?_toArray, List.getElem?_cons_succ, List.getElem?_cons_zero]); rfl)
          case hf_k167 => kernel_rfl
          case hr_k167 => kernel_rfl
          case hQ_k167 => exact fun _ _ _ h => h
          case hw_k167 => rfl
          case hy_k167 => ((intro w hSw; (try dsimp only at hSw); go_simp); all_goals (with_reducible rfl))
          try simp only [Act.put, List.setIfInBounds_toArray, List.set_cons_zero, List.set_cons_succ]
          refine wpAnyH_take (i := 4) (oi := ?oi_k168) (v := ?v_k168) ?hi_k168 (by kernel_rfl) ?hf_k168 ?hr_k168 ?hQ_k168 (Or.inl ⟨?hw_k168, ?hy_k168⟩) (by assumption) ?rest_k168
          case hi_k168 => ((simp only [List.getElem?_toArray, List.getElem?_cons_succ, List.getElem?_cons_zero]); rfl)
          case hf_k168 => kernel_rfl
          case hr_k168 => kernel_rfl
          case hQ_k168 => exact fun _ _ _ h => h
          case hw_k168 => rfl
          case hy_k168 => ((intro w hSw; (try dsimp only at hSw); go_simp); all_goals (with_reducible rfl))
          try simp only [Act.put, List.setIfInBounds_toArray, List.set_cons_zero, List.set_cons_succ]
          refine wpAnyH_ready (rs := [5]) (by kernel_rfl) (by simp) ?_
          refine AllReadyH.cons (o := ?o1_k169) ?hi_k169 (fun K hK => ?rest_k169) AllReadyH.nil
          case hi_k169 => ((simp only [List.getElem?_toArray, List.getElem?_cons_succ, List.getElem?_cons_zero]); rfl)
          go_simp
          (go_at_call 22; (with_reducible refine (CS.out _ (belStep HB3.out hHeld)).mono ?_); rintro e wq5 ⟨rfl, hbq⟩)
          have hu5 : Below W13.heap.size W13 wq5 := belStep hHeld hbq
          clear hbq
          try go_simp
          refine hK.out _ _ (by exact hu5) (fun hHeld => ?_)
          clear hK K
          try simp only [Act.put, List.setIfInBounds_toArray, List.set_cons_zero, List.set_cons_succ]
          refine wpAnyH_take (i := 6) (oi := ?oi_k170) (v := ?v_k170) ?hi_k170 (by kernel_rfl) ?hf_k170 ?hr_k170 ?hQ_k170 (Or.inl ⟨?hw_k170, ?hy_k170⟩) (by assumption) ?rest_k170
          case hi_k170 => ((simp only [List.getElem?_toArray, List.getElem?_cons_succ, List.getElem?_cons_zero]); rfl)
          case hf_k170 => kernel_rfl
          case hr_k170 => kernel_rfl
          case hQ_k170 => exact fun _ _ _ h => h
          case hw_k170 => rfl
          case hy_k170 => ((intro w hSw; (try dsimp only at hSw); go_simp); all_goals (with_reducible rfl))
          try simp only [Act.put, List.setIfInBounds_toArray, List.set_cons_zero, List.set_cons_succ]
          refine wpAnyH_take (i := 7) (oi := ?oi_k171) (v := ?v_k171) ?hi_k171 (by kernel_rfl) ?hf_k171 ?hr_k171 ?hQ_k171 (Or.inl ⟨?hw_k171, ?hy_k171⟩) (by assumption) ?rest_k171
          case hi_k171 => ((simp only [List.getElem?_toArray, List.getElem?_cons_succ, List.getElem?_cons_zero]); rfl)
          case hf_k171 => kernel_rfl
          case hr_k171 => kernel_rfl
          case hQ_k171 => exact fun _ _ _ h => h
          case hw_k171 => rfl
          case hy_k171 => ((intro w hSw; (try dsimp only at hSw); go_simp); all_goals (with_reducible rfl))
          try simp only [Act.put, List.setIfInBounds_toArray, List.set_cons_zero, List.set_cons_succ]
          refine wpAnyH_take (i := 8) (oi := ?oi_k172) (v := ?v_k172) ?hi_k172 (by kernel_rfl) ?hf_k172 ?hr_k172 ?hQ_k172 (Or.inl ⟨?hw_k172, ?hy_k172⟩) (by assumption) ?rest_k172
          case hi_k172 => ((simp only [List.getElem?_toArray, List.getElem?_cons_succ, List.getElem?_cons_zero]); rfl)
          case hf_k172 => kernel_rfl
          case hr_k172 => kernel_rfl
          case hQ_k172 => exact fun _ _ _ h => h
          case hw_k172 => rfl
          case hy_k172 => ((intro w hSw; (try dsimp only at hSw); go_simp); all_goals (with_reducible rfl))
          try simp only [Act.put, List.setIfInBounds_toArray, List.set_cons_zero, List.set_cons_succ]
          refine wpAnyH_take (i := 9) (oi := ?oi_k173) (v := ?v_k173) ?hi_k173 (by kernel_rfl) ?hf_k173 ?hr_k173 ?hQ_k173 (Or.inl ⟨?hw_k173, ?hy_k173⟩) (by assumption) ?rest_k173
          case hi_k173 => ((simp only [List.getElem?_toArray, List.getElem?_cons_succ, List.getElem?_cons_zero]); rfl)
          case hf_k173 => kernel_rfl
          case hr_k173 => kernel_rfl
          case hQ_k173 => exact fun _ _ _ h => h
          case hw_k173 => rfl
          case hy_k173 => ((intro w hSw; (try dsimp only at hSw); go_simp); all_goals (with_reducible rfl))
          try simp only [Act.put, List.setIfInBounds_toArray, List.set_cons_zero, List.set_cons_succ]
          refine wpAnyH_take (i := 10) (oi := ?oi_k174) (v := ?v_k174) ?hi_k174 (by kernel_rfl) ?hf_k174 ?hr_k174 ?hQ_k174 (Or.inl ⟨?hw_k174, ?hy_k174⟩) (by assumption) ?rest_k174
          case hi_k174 => ((simp only [List.getElem?_toArray, List.getElem?_cons_succ, List.getElem?_cons_zero]); rfl)
          case hf_k174 => kernel_rfl
          case hr_k174 => kernel_rfl
          case hQ_k174 => exact fun _ _ _ h => h
          case hw_k174 => rfl
          case hy_k174 => ((intro w hSw; (try dsimp only at hSw); go_simp); all_goals (with_reducible rfl))
          try simp only [Act.put, List.setIfInBounds_toArray, List.set_cons_zero, List.set_cons_succ]
          refine wpAnyH_take (i := 11) (oi := ?oi_k175) (v := ?v_k175) ?hi_k175 (by kernel_rfl) ?hf_k175 ?hr_k175 ?hQ_k175 (Or.inl ⟨?hw_k175, ?hy_k175⟩) (by assumption) ?rest_k175
          case hi_k175 => ((simp only [List.getElem?_toArray, List.getElem?_cons_succ, List.getElem?_cons_zero]); rfl)
          case hf_k175 => kernel_rfl
          case hr_k175 => kernel_rfl
          case hQ_k175 => exact fun _ _ _ h => h
          case hw_k175 => rfl
          case hy_k175 => ((intro w hSw; (try dsimp only at hSw); go_simp); all_goals (with_reducible rfl))
          try simp only [Act.put, List.setIfInBounds_toArray, List.set_cons_zero, List.set_cons_succ]
          refine wpAnyH_take (i := 12) (oi := ?oi_k176) (v := ?v_k176) ?hi_k176 (by kernel_rfl) ?hf_k176 ?hr_k176 ?hQ_k176 (Or.inl ⟨?hw_k176, ?hy_k176⟩) (by assumption) ?rest_k176
          case hi_k176 => ((simp only [List.getElem?_toArray, List.getElem?_cons_succ, List.getElem?_cons_zero]); rfl)
          case hf_k176 => kernel_rfl
          case hr_k176 => kernel_rfl
          case hQ_k176 => exact fun _ _ _ h => h
          case hw_k176 => rfl
          case hy_k176 => ((intro w hSw; (try dsimp only at hSw); go_simp); all_goals (with_reducible rfl))
          try simp only [Act.put, List.setIfInBounds_toArray, List.set_cons_zero, List.set_cons_succ]
          refine wpAnyH_take (i := 13) (oi := ?oi_k177) (v := ?v_k177) ?hi_k177 (by kernel_rfl) ?hf_k177 ?hr_k177 ?hQ_k177 (Or.inl ⟨?hw_k177, ?hy_k177⟩) (by assumption) ?rest_k177
          case hi_k177 => ((simp only [List.getElem?_toArray, List.getElem?_cons_succ, List.getElem?_cons_zero]); rfl)
          case hf_k177 => kernel_rfl
          case hr_k177 => kernel_rfl
          case hQ_k177 => exact fun _ _ _ h => h
          case hw_k177 => rfl
          case hy_k177 => ((intro w hSw; (try dsimp only at hSw); go_simp); all_goals (with_reducible rfl))
          try simp only [Act.put, List.setIfInBounds_toArray, List.set_cons_zero, List.set_cons_succ]
          refine wpAnyH_take (i := 14) (oi := ?oi_k178) (v := ?v_k178) ?hi_k178 (by kernel_rfl) ?hf_k178 ?hr_k178 ?hQ_k178 (Or.inl ⟨?hw_k178, ?hy_k178⟩) (by assumption) ?rest_k178
          case hi_k178 => ((simp only [List.getElem?_toArray, List.getElem?_cons_succ, List.getElem?_cons_zero]); rfl)
          case hf_k178 => kernel_rfl
          case hr_k178 => kernel_rfl
          case hQ_k178 => exact fun _ _ _ h => h
          case hw_k178 => rfl
          case hy_k178 => ((intro w hSw; (try dsimp only at hSw); go_simp); all_goals (with_reducible rfl))
          try simp only [Act.put, List.setIfInBounds_toArray, List.set_cons_zero, List.set_cons_succ]
          refine wpAnyH_take (i := 15) (oi := ?oi_k179) (v := ?v_k179) ?hi_k179 (by kernel_rfl) ?hf_k179 ?hr_k179 ?hQ_k179 (Or.inl ⟨?hw_k179, ?hy_k179⟩) (by assumption) ?rest_k179
          case hi_k179 => ((simp only [List.getElem?_toArray, List.getElem?_cons_succ, List.getElem?_cons_zero]); rfl)
          case hf_k179 => kernel_rfl
          case hr_k179 => kernel_rfl
          case hQ_k179 => exact fun _ _ _ h => h
          case hw_k179 => rfl
          case hy_k179 => ((intro w hSw; (try dsimp only at hSw); go_simp); all_goals (with_reducible rfl))
          try simp only [Act.put, List.setIfInBounds_toArray, List.set_cons_zero, List.set_cons_succ]
          refine wpAnyH_take (i := 16) (oi := ?oi_k180) (v := ?v_k180) ?hi_k180 (by kernel_rfl) ?hf_k180 ?hr_k180 ?hQ_k180 (Or.inl ⟨?hw_k180, ?hy_k180⟩) (by assumption) ?rest_k180
          case hi_k180 => ((simp only [List.getElem?_toArray, List.getElem?_cons_succ, List.getElem?_cons_zero]); rfl)
          case hf_k180 => kernel_rfl
          case hr_k180 => kernel_rfl
          case hQ_k180 => exact fun _ _ _ h => h
          case hw_k180 => rfl
          case hy_k180 => ((intro w hSw; (try dsimp only at hSw); go_simp); all_goals (with_reducible rfl))
          try simp only [Act.put, List.setIfInBounds_toArray, List.set_cons_zero, List.set_cons_succ]
          refine wpAnyH_take (i := 17) (oi := ?oi_k181) (v := undef) ?hi_k181 (by kernel_rfl) ?hf_k181 ?hr_k181 ?hQ_k181 (Or.inr ⟨?hw_k181, rfl⟩) (by assumption) ?rest_k181
          case hi_k181 => ((simp only [List.getElem?_toArray, List.getElem?_cons_succ, List.getElem?_cons_zero]); rfl)
          case hf_k181 => kernel_rfl
          case hr_k181 => kernel_rfl
          case hQ_k181 => exact fun _ _ _ h => h
          case hw_k181 => rfl
          try simp only [Act.put, List.setIfInBounds_toArray, List.set_cons_zero, List.set_cons_succ]
          refine wpAnyH_take (i := 18) (oi := ?oi_k182) (v := undef) ?hi_k182 (by kernel_rfl) ?hf_k182 ?hr_k182 ?hQ_k182 (Or.inr ⟨?hw_k182, rfl⟩) (by assumption) ?rest_k182
          case hi_k182 => ((simp only [List.getElem?_toArray, List.getElem?_cons_succ, List.getElem?_cons_zero]); rfl)
          case hf_k182 => kernel_rfl
          case hr_k182 => kernel_rfl
          case hQ_k182 => exact fun _ _ _ h => h
          case hw_k182 => rfl
          try simp only [Act.put, List.setIfInBounds_toArray, List.set_cons_zero, List.set_cons_succ]
          refine wpAnyH_take (i := 19) (oi := ?oi_k183) (v := undef) ?hi_k183 (by kernel_rfl) ?hf_k183 ?hr_k183 ?hQ_k183 (Or.inr ⟨?hw_k183, rfl⟩) (by assumption) ?rest_k183
          case hi_k183 => ((simp only [List.getElem?_toArray, List.getElem?_cons_succ, List.getElem?_cons_zero]); rfl)
          case hf_k183 => kernel_rfl
          case hr_k183 => kernel_rfl
          case hQ_k183 => exact fun _ _ _ h => h
          case hw_k183 => rfl
          try simp only [Act.put, List.setIfInBounds_toArray, List.set_cons_zero, List.set_cons_succ]
          refine wpAnyH_take (i := 20) (oi := ?oi_k184) (v := undef) ?hi_k184 (by kernel_rfl) ?hf_k184 ?hr_k184 ?hQ_k184 (Or.inr ⟨?hw_k184, rfl⟩) (by assumption) ?rest_k184
          case hi_k184 => ((simp only [List.getElem?_toArray, List.getElem?_cons_succ, List.getElem?_cons_zero]); rfl)
          case hf_k184 => kernel_rfl
          case hr_k184 => kernel_rfl
          case hQ_k184 => exact fun _ _ _ h => h
          case hw_k184 => rfl
          try simp only [Act.put, List.setIfInBounds_toArray, List.set_cons_zero, List.set_cons_succ]
          refine wpAnyH_take (i := 21) (oi := ?oi_k185) (v := undef) ?hi_k185 (by kernel_rfl) ?hf_k185 ?hr_k185 ?hQ_k185 (Or.inr ⟨?hw_k185, rfl⟩) (by assumption) ?rest_k185
          case hi_k185 => ((simp only [List.getElem?_toArray, List.getElem?_cons_succ, List.getElem?_cons_zero]); rfl)
          case hf_k185 => kernel_rfl
          case hr_k185 => kernel_rfl
          case hQ_k185 => exact fun _ _ _ h => h
          case hw_k185 => rfl
          try simp only [Act.put, List.setIfInBounds_toArray, List.set_cons_zero, List.set_cons_succ]
          refine wpAnyH_take (i := 22) (oi := ?oi_k186) (v := undef) ?hi_k186 (by kernel_rfl) ?hf_k186 ?hr_k186 ?hQ_k186 (Or.inr ⟨?hw_k186, rfl⟩) (by assumption) ?rest_k186
          case hi_k186 => ((simp only [List.getElem?_toArray, List.getElem?_cons_succ, List.getElem?_cons_zero]); rfl)
          case hf_k186 => kernel_rfl
          case hr_k186 => kernel_rfl
          case hQ_k186 => exact fun _ _ _ h => h
          case hw_k186 => rfl
          try simp only [Act.put, List.setIfInBounds_toArray, List.set_cons_zero, List.set_cons_succ]
          refine wpAnyH_take (i := 23) (oi := ?oi_k187) (v := undef) ?hi_k187 (by kernel_rfl) ?hf_k187 ?hr_k187 ?hQ_k187 (Or.inr ⟨?hw_k187, rfl⟩) (by assumption) ?rest_k187
          case hi_k187 => ((simp only [List.getElem?_toArray, List.getElem?_cons_succ, List.getElem?_cons_zero]); rfl)
          case hf_k187 => kernel_rfl
          case hr_k187 => kernel_rfl
          case hQ_k187 => exact fun _ _ _ h => h
          case hw_k187 => rfl
          try simp only [Act.put, List.setIfInBounds_toArray, List.set_cons_zero, List.set_cons_succ]
          refine wpAnyH_take (i := 24) (oi := ?oi_k188) (v := undef) ?hi_k188 (by kernel_rfl) ?hf_k188 ?hr_k188 ?hQ_k188 (Or.inr ⟨?hw_k188, rfl⟩) (by assumption) ?rest_k188
          case hi_k188 => ((simp only [List.getElem?_toArray, List.getElem?_cons_succ, List.getElem?_cons_zero]); rfl)
          case hf_k188 => kernel_rfl
          case hr_k188 => kernel_rfl
          case hQ_k188 => exact fun _ _ _ h => h
          case hw_k188 => rfl
          try simp only [Act.put, List.setIfInBounds_toArray, List.set_cons_zero, List.set_cons_succ]
          refine wpAnyH_take (i := 25) (oi := ?oi_k189) (v := ?v_k189) ?hi_k189 (by kernel_rfl) ?hf_k189 ?hr_k189 ?hQ_k189 (Or.inl ⟨?hw_k189, ?hy_k189⟩) (by assumption) ?rest_k189
          case hi_k189 => ((simp only [List.getElem?_toArray, List.getElem?_cons_succ, List.getElem?_cons_zero]); rfl)
          case hf_k189 => kernel_rfl
          case hr_k189 => kernel_rfl
          case hQ_k189 => exact fun _ _ _ h => h
          case hw_k189 => rfl
          case hy_k189 => ((intro w hSw; (try dsimp only at hSw); go_simp); all_goals (with_reducible rfl))
          try simp only [Act.put, List.setIfInBounds_toArray, List.set_cons_zero, List.set_cons_succ]
          refine wpAnyH_take (i := 26) (oi := ?oi_k190) (v := ?v_k190) ?hi_k190 (by kernel_rfl) ?hf_k190 ?hr_k190 ?hQ_k190 (Or.inl ⟨?hw_k190, ?hy_k190⟩) (by assumption) ?rest_k190
          case hi_k190 => ((simp only [List.getElem?_toArray, List.getElem?_cons_succ, List.getElem?_cons_zero]); rfl)
          case hf_k190 => kernel_rfl
          case hr_k190 => kernel_rfl
          case hQ_k190 => exact fun _ _ _ h => h
          case hw_k190 => rfl
          case hy_k190 => ((intro w hSw; (try dsimp only at hSw); go_simp); all_goals (with_reducible rfl))
          try simp only [Act.put, List.setIfInBounds_toArray, List.set_cons_zero, List.set_cons_succ]
          refine wpAnyH_take (i := 27) (oi := ?oi_k191) (v := ?v_k191) ?hi_k191 (by kernel_rfl) ?hf_k191 ?hr_k191 ?hQ_k191 (Or.inl ⟨?hw_k191, ?hy_k191⟩) (by assumption) ?rest_k191
          case hi_k191 => ((simp only [List.getElem?_toArray, List.getElem?_cons_succ, List.getElem?_cons_zero]); rfl)
          case hf_k191 => kernel_rfl
          case hr_k191 => kernel_rfl
          case hQ_k191 => exact fun _ _ _ h => h
          case hw_k191 => rfl
          case hy_k191 => ((intro w hSw; (try dsimp only at hSw); go_simp); all_goals (with_reducible rfl))
          try simp only [Act.put, List.setIfInBounds_toArray, List.set_cons_zero, List.set_cons_succ]
          refine wpAnyH_take (i := 28) (oi := ?oi_k192) (v := ?v_k192) ?hi_k192 (by kernel_rfl) ?hf_k192 ?hr_k192 ?hQ_k192 (Or.inl ⟨?hw_k192, ?hy_k192⟩) (by assumption) ?rest_k192
          case hi_k192 => ((simp only [List.getElem?_toArray, List.getElem?_cons_succ, List.getElem?_cons_zero]); rfl)
          case hf_k192 => kernel_rfl
          case hr_k192 => kernel_rfl
          case hQ_k192 => exact fun _ _ _ h => h
          case hw_k192 => rfl
          case hy_k192 => ((intro w hSw; (try dsimp only at hSw); go_simp); all_goals (with_reducible rfl))
          try simp only [Act.put, List.setIfInBounds_toArray, List.set_cons_zero, List.set_cons_succ]
          refine wpAnyH_take (i := 29) (oi := ?oi_k193) (v := ?v_k193) ?hi_k193 (by kernel_rfl) ?hf_k193 ?hr_k193 ?hQ_k193 (Or.inl ⟨?hw_k193, ?hy_k193⟩) (by assumption) ?rest_k193
          case hi_k193 => ((simp only [List.getElem?_toArray, List.getElem?_cons_succ, List.getElem?_cons_zero]); rfl)
          case hf_k193 => kernel_rfl
          case hr_k193 => kernel_rfl
          case hQ_k193 => exact fun _ _ _ h => h
          case hw_k193 => rfl
          case hy_k193 => ((intro w hSw; (try dsimp only at hSw); go_simp); all_goals (with_reducible rfl))
          try simp only [Act.put, List.setIfInBounds_toArray, List.set_cons_zero, List.set_cons_succ]
          refine wpAnyH_take (i := 30) (oi := ?oi_k194) (v := ?v_k194) ?hi_k194 (by kernel_rfl) ?hf_k194 ?hr_k194 ?hQ_k194 (Or.inl ⟨?hw_k194, ?hy_k194⟩) (by assumption) ?rest_k194
          case hi_k194 => ((simp only [List.getElem?_toArray, List.getElem?_cons_succ, List.getElem?_cons_zero]); rfl)
          case hf_k194 => kernel_rfl
          case hr_k194 => kernel_rfl
          case hQ_k194 => exact fun _ _ _ h => h
          case hw_k194 => rfl
          case hy_k194 => ((intro w hSw; (try dsimp only at hSw); go_simp); all_goals (with_reducible rfl))
          try simp only [Act.put, List.setIfInBounds_toArray, List.set_cons_zero, List.set_cons_succ]
          refine wpAnyH_take (i := 31) (oi := ?oi_k195) (v := ?v_k195) ?hi_k195 (by kernel_rfl) ?hf_k195 ?hr_k195 ?hQ_k195 (Or.inl ⟨?hw_k195, ?hy_k195⟩) (by assumption) ?rest_k195
          case hi_k195 => ((simp only [List.getElem?_toArray, List.getElem?_cons_succ, List.getElem?_cons_zero]); rfl)
          case hf_k195 => kernel_rfl
          case hr_k195 => kernel_rfl
          case hQ_k195 => exact fun _ _ _ h => h
          case hw_k195 => rfl
          case hy_k195 => ((intro w hSw; (try dsimp only at hSw); go_simp); all_goals (with_reducible rfl))
          try simp only [Act.put, List.setIfInBounds_toArray, List.set_cons_zero, List.set_cons_succ]
          refine wpAnyH_take (i := 32) (oi := ?oi_k196) (v := ?v_k196) ?hi_k196 (by kernel_rfl) ?hf_k196 ?hr_k196 ?hQ_k196 (Or.inl ⟨?hw_k196, ?hy_k196⟩) (by assumption) ?rest_k196
          case hi_k196 => ((simp only [List.getElem?_toArray, List.getElem?_cons_succ, List.getElem?_cons_zero]); rfl)
          case hf_k196 => kernel_rfl
          case hr_k196 => kernel_rfl
          case hQ_k196 => exact fun _ _ _ h => h
          case hw_k196 => rfl
          case hy_k196 => ((intro w hSw; (try dsimp only at hSw); go_simp); all_goals (with_reducible rfl))
          try simp only [Act.put, List.setIfInBounds_toArray, List.set_cons_zero, List.set_cons_succ]
          refine wpAnyH_take (i := 33) (oi := ?oi_k197) (v := ?v_k197) ?hi_k197 (by kernel_rfl) ?hf_k197 ?hr_k197 ?hQ_k197 (Or.inl ⟨?hw_k197, ?hy_k197⟩) (by assumption) ?rest_k197
          case hi_k197 => ((simp only [List.getElem?_toArray, List.getElem?_cons_succ, List.getElem?_cons_zero]); rfl)
          case hf_k197 => kernel_rfl
          case hr_k197 => kernel_rfl
          case hQ_k197 => exact fun _ _ _ h => h
          case hw_k197 => rfl
          case hy_k197 => ((intro w hSw; (try dsimp only at hSw); go_simp); all_goals (with_reducible rfl))
          try simp only [Act.put, List.setIfInBounds_toArray, List.set_cons_zero, List.set_cons_succ]
          refine wpAnyH_take (i := 34) (oi := ?oi_k198) (v := ?v_k198) ?hi_k198 (by kernel_rfl) ?hf_k198 ?hr_k198 ?hQ_k198 (Or.inl ⟨?hw_k198, ?hy_k198⟩) (by assumption) ?rest_k198
          case hi_k198 => ((simp only [List.getElem?_toArray, List.getElem?_cons_succ, List.getElem?_cons_zero]); rfl)
          case hf_k198 => kernel_rfl
          case hr_k198 => kernel_rfl
          case hQ_k198 => exact fun _ _ _ h => h
          case hw_k198 => rfl
          case hy_k198 => ((intro w hSw; (try dsimp only at hSw); go_simp); all_goals (with_reducible rfl))
          try simp only [Act.put, List.setIfInBounds_toArray, List.set_cons_zero, List.set_cons_succ]
          refine wpAnyH_take (i := 35) (oi := ?oi_k199) (v := ?v_k199) ?hi_k199 (by kernel_rfl) ?hf_k199 ?hr_k199 ?hQ_k199 (Or.inl ⟨?hw_k199, ?hy_k199⟩) (by assumption) ?rest_k199
          case hi_k199 => ((simp only [List.getElem?_toArray, List.getElem?_cons_succ, List.getElem?_cons_zero]); rfl)
          case hf_k199 => kernel_rfl
          case hr_k199 => kernel_rfl
          case hQ_k199 => exact fun _ _ _ h => h
          case hw_k199 => rfl
          case hy_k199 => ((intro w hSw; (try dsimp only at hSw); go_simp); all_goals (with_reducible rfl))
          try simp only [Act.put, List.setIfInBounds_toArray, List.set_cons_zero, List.set_cons_succ]
          refine wpAnyH_done (by kernel_rfl) ?_ _
          go_wp2
          go_roundw
          case rel => exact ⟨k + 1, by omega, by push_cast; rfl, Lib.hid (by rw [HNX.out]; exact HLW.out.later (belStep HB3.out hHeld))⟩
          case measure => simp [intOf] <;> omega
    · obtain rfl : k = L.length := by omega
      have hd : decide ((L.length : Int) < (L.length : Int)) = false := decide_eq_false (by omega)
      go_wp2
      go_ret
      exact ⟨rfl, HLW.out.below⟩

set_option maxRecDepth 100000 in
theorem lifted (os : Os) (started : os.Started) (H : Type) (enc : TypeId × Value → H) :
    ReturnsInHanded {} Try.checked os 3 .any (Rows.worldModelSpec.pre6 enc Try.prog Try.f3 Rows.worldModelRow.domain false) (Rows.worldModelSpec.post enc Try.prog Try.f3 false true false false) := by
  refine returnsInHanded_of_change (C := Try.checked) own started (by kernel_rfl) Try.func3
    (ChangeSpec.witness6 (enc := enc) (C := Try.checked) false ⟨#[], #[.slice none 0 0, .int .i64 0], []⟩ 8 (by kernel_rfl) (by kernel_rfl) (by kernel_rfl) (by kernel_rfl)) ?_
  intro W base args ds gs before hval0 hW hcnd _
  have hval : ∀ (j : Nat) t v, Try.f3.params[j]? = some t → args[j]? = some v → Value.okWide Try.prog W .any base t v := hval0
  have hW' := hW
  obtain ⟨p, q, hA0, hV, rfl, hfz, hnd⟩ := hW
  have hA : DataW.TrodAll enc Try.prog W 0 (fun _ => true) true Try.f3.params.toList args.toList ds p := hA0
  rw [Try.params3] at hA hval
  obtain ⟨v0, vs0, d0, ds0, p0, q0, hargs, rfl, rfl, h0, r0⟩ := trodAll_cons hA
  obtain ⟨v1, vs1, d1, ds1, p1, q1, rfl, rfl, rfl, h1, r1⟩ := trodAll_cons r0
  obtain ⟨rfl, rfl, rfl⟩ := trodAll_nil r1
  obtain rfl : args = #[v0, v1] := by cases args; simp_all
  obtain ⟨rfl, rfl⟩ := trodVars_none hV
  have k0 := h0
  have lt0 : ∀ x ∈ p0, x.block < W.heap.size := by obtain ⟨m, hm⟩ := k0; exact DataW.trod_lt m _ _ _ hm
  have o0 : Value.okWide Try.prog W .any base 22 v0 := hval 0 22 v0 rfl rfl
  obtain ⟨xa0, xn0, xc0, xl0, rfl, fl0, fo0, fr0⟩ := open_actsW o0 h0
  have k1 := h1
  have lt1 : ∀ x ∈ p1, x.block < W.heap.size := by obtain ⟨m, hm⟩ := k1; exact DataW.trod_lt m _ _ _ hm
  have o1 : Value.okWide Try.prog W .any base 3 v1 := hval 1 3 v1 rfl rfl
  obtain ⟨a1, rfl, rfl, rfl, w1⟩ := open_int Try.underlying3 o1 h1
  clear hA0 hval0
  refine (walk xa0 xn0 xc0 xl0 a1 W fl0 fo0 fr0 (inI_of_wf w1)).mono fun e W' ⟨he, bel⟩ => ?_
  subst he
  exact ⟨_, rfl, _, _, _, [], _, [], hW', trodAll_mk1 (shut_bool Try.underlying4 _), (trodAll_cons_mk (Below.trod laidOut (by kernel_rfl) (of_decide_eq_true (by kernel_rfl)) k0 bel lt0) (trodAll_cons_mk (Below.trod laidOut (by kernel_rfl) (of_decide_eq_true (by kernel_rfl)) k1 bel lt1) trodAll_mk0)), rfl, bel.frame _, fun h => by cases h⟩

theorem over : Rows.worldModelRow.holds Try.pinned (OpenSpec.ofChange Rows.worldModelSpec) :=
  OpenClaim.holds_of_wide 3 Try.f3 rfl rfl rfl rfl rfl rfl rfl ⟨rfl, rfl, rfl, rfl, rfl⟩ rfl rfl rfl rfl rfl (by kernel_rfl) Try.func3 (by kernel_rfl)
    (of_decide_eq_true (by kernel_rfl)) (by unfold Func.isWrapper; first | (rw [if_pos (by decide +kernel)]; kernel_rfl) | (rw [if_neg (by decide +kernel)]; exact ⟨rfl, rfl⟩))
    (fun os started H enc _ => lifted os started H enc)

/-- The statement. -/
theorem proved : Rows.WorldModelSaid := over
#print axioms proved

end Go.Proofs.Ytcnjcldfbidkmaa.worldModel
