
/- Stage 10: the reference: put: contract. -/
import Derived.Test.YtcnjcldfbidkmaaDkF1
import Derived.BigQuiet
namespace Go.Proofs.Ytcnjcldfbidkmaa
open Go.RowKit Go.Sort
set_option linter.unusedVariables false
set_option linter.unusedSimpArgs false
def lessV (s : ByteArray) (x : FileV) : Bool := decide (x.name.toList < s.toList)
/-- The list with one more: what the walk lays together is what the document means. -/
theorem putV_eq {L : List FileV} (hs : SortedF (L.map FileV.m)) (f : FileV) {k : Nat} (hlo : ∀ x ∈ (L.filter (fun x => !(x.name.toList == f.name.toList))).take k, x.name.toList < f.name.toList)
    (hhi : ∀ x, (L.filter (fun x => !(x.name.toList == f.name.toList)))[k]? = some x → ¬ x.name.toList < f.name.toList) :
    ((L.filter (fun x => !(x.name.toList == f.name.toList))).take k ++ f :: (L.filter (fun x => !(x.name.toList == f.name.toList))).drop k).map FileV.m = putF (L.map FileV.m) f.name f.Z := by
  obtain ⟨W, hW⟩ : ∃ W, L.filter (fun x => !(x.name.toList == f.name.toList)) = W := ⟨_, rfl⟩
  rw [hW] at hlo hhi ⊢
  have hsL : L.Pairwise (fun a b => a.name.toList < b.name.toList) := by
    have := hs
    unfold SortedF at this
    rw [List.pairwise_map] at this
    exact this
  have hsW : W.Pairwise (fun a b => a.name.toList < b.name.toList) := hW ▸ hsL.filter _
  have hne : ∀ x ∈ W, (x.name.toList == f.name.toList) = false := fun x hx => by
    rw [← hW] at hx
    have := (List.mem_filter.1 hx).2
    simpa using this
  have hdr : ∀ x ∈ W.drop k, f.name.toList < x.name.toList := fun x hx => by
    obtain ⟨i, hi, e⟩ := List.mem_iff_getElem.1 hx
    have hkl : k < W.length := by rw [List.length_drop] at hi; omega
    have h0 := hhi W[k] (List.getElem?_eq_getElem hkl)
    have h1 : f.name.toList < W[k].name.toList := by
      rcases lt_or_gt_of W[k].name f.name (by have := hne W[k] (List.getElem_mem hkl); rw [beq_eq_false_iff_ne] at this; exact this) with q | q
      · exact absurd q h0
      · exact q
    rw [List.getElem_drop] at e
    subst e
    by_cases hi0 : i = 0
    · subst hi0; exact h1
    · exact List.lt_trans h1 (List.pairwise_iff_getElem.1 hsW k (k + i) hkl (by rw [List.length_drop] at hi; omega) (by omega))
  have hT : ∀ x ∈ W.take k, ¬ f.name.toList < x.name.toList := fun x hx q => List.lt_irrefl _ (List.lt_trans q (hlo x hx))
  have hD : ∀ x ∈ W.drop k, ¬ x.name.toList < f.name.toList := fun x hx q => List.lt_irrefl _ (List.lt_trans q (hdr x hx))
  have f1 : L.filter (fun x => decide (x.name.toList < f.name.toList)) = W.take k := by
    have e : L.filter (fun x => decide (x.name.toList < f.name.toList)) = W.filter (fun x => decide (x.name.toList < f.name.toList)) := by
      rw [← hW, List.filter_filter]
      refine List.filter_congr (fun x _ => ?_)
      by_cases q : x.name.toList < f.name.toList
      · rw [lt_neB q]; simp [q]
      · simp [q]
    rw [e]
    conv => lhs; rw [← List.take_append_drop k W]
    rw [List.filter_append, List.filter_eq_self.2 (fun x hx => decide_eq_true (hlo x hx)), List.filter_eq_nil_iff.2 (fun x hx => by rw [decide_eq_true_eq]; exact hD x hx), List.append_nil]
  have f2 : L.filter (fun x => decide (f.name.toList < x.name.toList)) = W.drop k := by
    have e : L.filter (fun x => decide (f.name.toList < x.name.toList)) = W.filter (fun x => decide (f.name.toList < x.name.toList)) := by
      rw [← hW, List.filter_filter]
      refine List.filter_congr (fun x _ => ?_)
      by_cases q : f.name.toList < x.name.toList
      · have h2 := lt_neB q
        have h3 : (x.name.toList == f.name.toList) = false := by rw [beq_eq_false_iff_ne] at h2 ⊢; exact fun z => h2 z.symm
        rw [h3]; simp [q]
      · simp [q]
    rw [e]
    conv => lhs; rw [← List.take_append_drop k W]
    rw [List.filter_append, List.filter_eq_nil_iff.2 (fun x hx => by rw [decide_eq_true_eq]; exact hT x hx), List.filter_eq_self.2 (fun x hx => decide_eq_true (hdr x hx)), List.nil_append]
  unfold putF
  rw [List.filter_map, List.filter_map, List.map_append, List.map_cons]
  rw [show ((fun g : FileM => decide (g.name.toList < f.name.toList)) ∘ FileV.m) = (fun x : FileV => decide (x.name.toList < f.name.toList)) from rfl, show ((fun g : FileM => decide (f.name.toList < g.name.toList)) ∘ FileV.m) = (fun x : FileV => decide (f.name.toList < x.name.toList)) from rfl, f1, f2]
  rfl
set_option maxRecDepth 100000 in
set_option maxHeartbeats 32000000 in
theorem fr_put (a : Option Addr) (n c : Nat) (L : List FileV) (f : FileV) (w : World) (hl : L.length = n) (hR : Row w a n c 2 (L.flatMap FileV.cells)) (hs : SortedF (L.map FileV.m)) (hn : n ≤ 1000) (hf : f.good w) :
    Calls Try.prog 113 #[.slice a n c, .agg #[.string f.name, .slice f.ba f.Z.length f.bc]] w fun e w' => ∃ v : Value, e = .returned v ∧ ∃ K : List FileV, OwnR w' w.heap.size 146 2 v K.length (K.flatMap FileV.cells) ∧ K.map FileV.m = putF (L.map FileV.m) f.name f.Z ∧ (∀ x ∈ K, x = f ∨ x ∈ L) ∧ Below w.heap.size w w' := by
  have hw : Below w.heap.size w w := Below.refl _ _
  have hbd_a : n ≤ c ∧ c ≤ 9223372036854775807 := by obtain ⟨_, h1, h2, _⟩ := hR; unfold maxLen at h2; exact ⟨h1, h2⟩
  obtain ⟨hbd1_a, hbd2_a⟩ := hbd_a
  subst hl
  have HR := Lib.hid hR
  have HSO := Lib.hid hs
  have HFI := Lib.hid hf
  have hfz : f.Z.length ≤ f.bc ∧ f.bc ≤ 9223372036854775807 := by obtain ⟨_, h1, h2, _⟩ := hf.1.1; unfold maxLen at h2; exact ⟨h1, h2⟩
  obtain ⟨hfz1, hfz2⟩ := hfz
  have hfn : f.name.size ≤ 9223372036854775807 := by have := hf.2.2; unfold maxLen at this; omega
  clear hR hs hf
  go_enter Try.func113, Try.ntmps113
  go_upto_region 1 with fail
  have kA := belAlloc (Below.refl w.heap.size w) (.cells #[.string f.name, .slice f.ba f.Z.length f.bc] 146)
  have HFB := Lib.hid (Blk.new w [.string f.name, .slice f.ba f.Z.length f.bc] 146)
  have HB1 := Lib.hid kA
  clear kA hw
  generalize w.alloc (.cells #[.string f.name, .slice f.ba f.Z.length f.bc] 146) = W1 at *
  generalize hfb : w.heap.size = fb at *
  have HFE := Lib.hid hfb
  clear hfb
  have x0 := HFB.out.cell (j := 0) rfl
  have x1 := HFB.out.cell (j := 1) rfl
  have CW := Lib.hid (fr_without a L.length c L f.name W1 rfl (HR.out.later (HFE.out ▸ HB1.out)) (by omega))
  obtain ⟨W, hW⟩ : ∃ W, L.filter (fun x : FileV => !(x.name.toList == f.name.toList)) = W := ⟨_, rfl⟩
  rw [hW] at CW
  have hWl : W.length ≤ 1000 := by rw [← hW]; exact Nat.le_trans (List.length_filter_le _ _) hn
  have HW := Lib.hid hW
  clear hW
  go_upto_region 3 with (go_at_call 115; (with_reducible refine (CW.out).mono ?_); rintro e w2 ⟨v, rfl, ho_, hb_⟩; obtain ⟨wa, wc, rfl, hr_⟩ := rowR_of_own ho_; have HRW := Lib.hid hr_; have HBA := Lib.hid hb_; clear ho_ hr_ hb_)
  clear x0 x1 CW
  have HFB2 := Lib.hid (HFB.out.later HBA.out)
  have hwc1 : W.length ≤ wc := HRW.out.2.1
  have hwc2 : wc ≤ 9223372036854775807 := by have := HRW.out.2.2.1; unfold maxLen at this; omega
  have hbel := Below.refl w2.heap.size w2
  go_loopw [5] (fun iv wr => ∃ k : Nat, k ≤ W.length ∧ iv = .int .i64 k ∧ Hid (∀ x ∈ W.take k, x.name.toList < f.name.toList) ∧ Below w2.heap.size w2 wr) (fun iv _ => W.length - (intOf iv).toNat)
  case atStart => exact ⟨0, Nat.zero_le _, rfl, Lib.hid (fun x hx => absurd hx (by simp)), hbel⟩
  case round =>
    clear hbel
    obtain ⟨k, hk, rfl, HLO, hbel⟩ := hrel
    have z0 := keep (HFB2.out.cell (j := 0) rfl)
    by_cases hlt : k < W.length
    · have hd : decide ((k : Int) < (W.length : Int)) = true := decide_eq_true (by omega)
      have hki : (k : Int) < (W.length : Int) := by omega
      have hk0 : (0 : Int) ≤ (k : Int) := by omega
      obtain ⟨x, hx⟩ : ∃ x, W[k]? = some x := ⟨W[k], List.getElem?_eq_getElem hlt⟩
      obtain ⟨bc, oc, ec, _, hcc⟩ := (HRW.out).elem FileV.cells_len (by omega) hx
      subst ec
      have c0 := keep (hcc 0 _ rfl)
      have c1 := keep (hcc 1 _ rfl)
      rw [Nat.add_zero] at c0
      have HX := Lib.hid hx
      clear hx hcc
      cases hb : Op.bytesLess x.name.toList f.name.toList with
      | true =>
        have HLN := Lib.hid (show ∀ y ∈ W.take (k + 1), y.name.toList < f.name.toList from fun y hy => by rw [takeD_next HX.out] at hy; exact (List.mem_append.1 hy).elim (HLO.out y) (fun q => by rw [List.mem_singleton] at q; subst q; rw [bytesLess_iff] at hb; exact of_decide_eq_true hb))
        go_upto_region 3 with fail
        go_quiet (fail)
        go_wp2
        go_roundw
        case rel => exact ⟨k + 1, by omega, by push_cast; rfl, HLN, by first | exact belDrewN hbel _ | exact hbel⟩
        case measure => simp [intOf] <;> omega
      | false =>
        have HNB := Lib.hid (show ¬ x.name.toList < f.name.toList by rw [bytesLess_iff] at hb; exact of_decide_eq_false hb)
        go_upto_region 3 with fail
        go_quiet (fail)
        clear c0 c1
        obtain ⟨wa, hwa⟩ : ∃ q, (some ⟨bc, oc, none⟩ : Option Addr) = q := ⟨_, rfl⟩
        rw [hwa] at HRW
        simp only [hwa]
        clear hwa
        have HHI := Lib.hid (show ∀ y, W[k]? = some y → ¬ y.name.toList < f.name.toList from fun y hy => by rw [HX.out] at hy; cases hy; exact HNB.out)
        have hkc : (k : Int) ≤ (wc : Int) := by omega
        have hkL : (k : Int) ≤ (W.length : Int) := by omega
        have hk0 : (0 : Int) ≤ (k : Int) := by omega
        have hwk : IntKind.i64.wrap (k : Int) = (k : Int) := IntWalk.i64_in _ (by omega)
        go_upto_region 5 with fail
        have HB5 := Lib.hid (show Below w2.heap.size w2 (wr.drewN nq) from belDrewN hbel nq)
        clear hbel z0
        generalize wr.drewN nq = W5 at *
        have HR5 := Lib.hid (HRW.out.later HB5.out)
        have HFB5 := Lib.hid (HFB2.out.later HB5.out)
        have y0 := keep (HFB5.out.cell (j := 0) rfl)
        have y1 := keep (HFB5.out.cell (j := 1) rfl)
        have hbel : Below W5.heap.size W5 W5 := Below.refl _ _
        refine wp_region_held_drew (S := fun u => Below W5.heap.size W5 u) (by kernel_rfl) (by exact (show Below W5.heap.size W5 _ by repeat (first | assumption | exact Below.refl _ _ | refine belDrew ?_ | refine belAlloc ?_ _ | refine belStep ?_ (by assumption)))) (fun hHeld => ?_)
        refine wpAnyH_take (i := 1) (oi := ?oi_k103) (v := ?v_k103) ?hi_k103 (by kernel_rfl) ?hf_k103 ?hr_k103 ?hQ_k103 (Or.inl ⟨?hw_k103, ?hy_k103⟩) (by assumption) ?rest_k103
        case hi_k103 => ((simp only [List.getElem?_toArray, List.getElem?_cons_succ, List.getElem?_cons_zero]); rfl)
        case hf_k103 => kernel_rfl
        case hr_k103 => kernel_rfl
        case hQ_k103 => exact fun _ _ _ h => h
        case hw_k103 => rfl
        case hy_k103 => ((intro w hSw; (try dsimp only at hSw); go_simp); all_goals (with_reducible rfl))
        try simp only [Act.put, List.setIfInBounds_toArray, List.set_cons_zero, List.set_cons_succ]
        refine wpAnyH_take (i := 2) (oi := ?oi_k104) (v := ?v_k104) ?hi_k104 (by kernel_rfl) ?hf_k104 ?hr_k104 ?hQ_k104 (Or.inl ⟨?hw_k104, ?hy_k104⟩) (by assumption) ?rest_k104
        case hi_k104 => ((simp only [List.getElem?_toArray, List.getElem?_cons_succ, List.getElem?_cons_zero]); rfl)
        case hf_k104 => kernel_rfl
        case hr_k104 => kernel_rfl
        case hQ_k104 => exact fun _ _ _ h => h
        case hw_k104 => rfl
        case hy_k104 => ((intro w hSw; (try dsimp only at hSw); go_simp); all_goals (with_reducible rfl))
        try simp only [Act.put, List.setIfInBounds_toArray, List.set_cons_zero, List.set_cons_succ]
        refine wpAnyH_take (i := 3) (oi := ?oi_k105) (v := ?v_k105) ?hi_k105 (by kernel_rfl) ?hf_k105 ?hr_k105 ?hQ_k105 (Or.inl ⟨?hw_k105, ?hy_k105⟩) (by assumption) ?rest_k105
        case hi_k105 => ((simp only [List.getElem?_toArray, List.getElem?_cons_succ, List.getElem?_cons_zero]); rfl)
        case hf_k105 => kernel_rfl
        case hr_k105 => kernel_rfl
        case hQ_k105 => exact fun _ _ _ h => h
        case hw_k105 => rfl
        case hy_k105 => ((intro w hSw; (try dsimp only at hSw); go_simp); all_goals (with_reducible rfl))
        try simp only [Act.put, List.setIfInBounds_toArray, List.set_cons_zero, List.set_cons_succ]
        refine wpAnyH_take (i := 5) (oi := ?oi_k106) (v := ?v_k106) ?hi_k106 (by kernel_rfl) ?hf_k106 ?hr_k106 ?hQ_k106 (Or.inl ⟨?hw_k106, ?hy_k106⟩) (by assumption) ?rest_k106
        case hi_k106 => ((simp only [List.getElem?_toArray, List.getElem?_cons_succ, List.getElem?_cons_zero]); rfl)
        case hf_k106 => kernel_rfl
        case hr_k106 => kernel_rfl
        case hQ_k106 => exact fun _ _ _ h => h
        case hw_k106 => rfl
        case hy_k106 => ((intro w hSw; (try dsimp only at hSw); go_simp); all_goals (with_reducible rfl))
        try simp only [Act.put, List.setIfInBounds_toArray, List.set_cons_zero, List.set_cons_succ]
        refine wpAnyH_take (i := 8) (oi := ?oi_k107) (v := ?v_k107) ?hi_k107 (by kernel_rfl) ?hf_k107 ?hr_k107 ?hQ_k107 (Or.inl ⟨?hw_k107, ?hy_k107⟩) (by assumption) ?rest_k107
        case hi_k107 => ((simp only [List.getElem?_toArray, List.getElem?_cons_succ, List.getElem?_cons_zero]); rfl)
        case hf_k107 => kernel_rfl
        case hr_k107 => kernel_rfl
        case hQ_k107 => exact fun _ _ _ h => h
        case hw_k107 => rfl
        case hy_k107 => ((intro w hSw; (try dsimp only at hSw); go_simp); all_goals (with_reducible rfl))
        try simp only [Act.put, List.setIfInBounds_toArray, List.set_cons_zero, List.set_cons_succ]
        refine wpAnyH_take (i := 9) (oi := ?oi_k108) (v := ?v_k108) ?hi_k108 (by kernel_rfl) ?hf_k108 ?hr_k108 ?hQ_k108 (Or.inl ⟨?hw_k108, ?hy_k108⟩) (by assumption) ?rest_k108
        case hi_k108 => ((simp only [List.getElem?_toArray, List.getElem?_cons_succ, List.getElem?_cons_zero]); rfl)
        case hf_k108 => kernel_rfl
        case hr_k108 => kernel_rfl
        case hQ_k108 => exact fun _ _ _ h => h
        case hw_k108 => rfl
        case hy_k108 => ((intro w hSw; (try dsimp only at hSw); go_simp); all_goals (with_reducible rfl))
        try simp only [Act.put, List.setIfInBounds_toArray, List.set_cons_zero, List.set_cons_succ]
        refine wpAnyH_take (i := 10) (oi := ?oi_k109) (v := ?v_k109) ?hi_k109 (by kernel_rfl) ?hf_k109 ?hr_k109 ?hQ_k109 (Or.inl ⟨?hw_k109, ?hy_k109⟩) (by assumption) ?rest_k109
        case hi_k109 => ((simp only [List.getElem?_toArray, List.getElem?_cons_succ, List.getElem?_cons_zero]); rfl)
        case hf_k109 => kernel_rfl
        case hr_k109 => kernel_rfl
        case hQ_k109 => exact fun _ _ _ h => h
        case hw_k109 => rfl
        case hy_k109 => ((intro w hSw; (try dsimp only at hSw); go_simp); all_goals (with_reducible rfl))
        try simp only [Act.put, List.setIfInBounds_toArray, List.set_cons_zero, List.set_cons_succ]
        refine krip (fun u u' => Below u.heap.size u u') [26, 30, 32] [[], [], [], [], [0], [], [], [0, 4, 6], [], [], [], [0, 4, 6], [0, 4, 6]] [[26], [], [], [], [30], [], [32], [], [], [], [], [], []] [0, 4, 6] (krF [(0, fun t u => ∃ g : Nat, t 26 = .slice (some ⟨g, 0, none⟩) 0 0 ∧ OwnR u (W5.heap.size) 146 2 (.slice (some ⟨g, 0, none⟩) 0 0) 0 []), (4, fun t u => OwnR u (W5.heap.size) 146 2 (t 30) (k) ((W.take k).flatMap FileV.cells)), (6, fun t u => ∃ g : Nat, t 32 = .slice (some ⟨g, 0, none⟩) 1 1 ∧ Row u (some ⟨g, 0, none⟩) 1 1 2 (f.cells))]) 3 #[true, true, true, true, true, true, true, false, true, true, true, false, false] (by kernel_rfl) (by kernel_rfl) (by kernel_rfl) (by assumption) (AllL.cons ?s_0_q110 (AllL.cons ?s_4_q110 (AllL.cons ?s_6_q110 AllL.nil))) (AllL.cons ?o_0_q110 (AllL.cons ?o_4_q110 (AllL.cons ?o_6_q110 AllL.nil))) ?e_q110
        case s_0_q110 => exact fun t u u' hle ⟨g, e, h⟩ => ⟨g, e, OwnR.later h hle⟩
        case s_4_q110 => exact fun t u u' hle h => OwnR.later h hle
        case s_6_q110 => exact fun t u u' hle ⟨g, e, h⟩ => ⟨g, e, Row.later h hle⟩
        case o_0_q110 =>
          refine KrOp.of (o := ?oo_0_q110) ?hi_0_q110 (fun t u hHeld hF K hK => ?rr_0_q110)
          case hi_0_q110 => ((simp only [List.getElem?_toArray, List.getElem?_cons_succ, List.getElem?_cons_zero]); rfl)
          case rr_0_q110 =>
            clear hF
            simp only [setl, List.foldl_cons, List.foldl_nil, Act.put, List.setIfInBounds_toArray, List.set_cons_zero, List.set_cons_succ] at hK ⊢
            go_simp
            refine hK.out _ _ (by exact (by repeat (first | assumption | exact Below.refl _ _ | refine belDrew ?_ | refine belAlloc ?_ _ | refine belStep ?_ (by assumption)))) (by exact (show Below W5.heap.size W5 _ by repeat (first | assumption | exact Below.refl _ _ | refine belDrew ?_ | refine belAlloc ?_ _ | refine belStep ?_ (by assumption)))) ?_
            exact ⟨_, rfl, OwnR.mono (own_empty _ _ 2) (Below.size hHeld)⟩
        case o_4_q110 =>
          refine KrOp.of (o := ?oo_4_q110) ?hi_4_q110 (fun t u hHeld hF K hK => ?rr_4_q110)
          case hi_4_q110 => ((simp only [List.getElem?_toArray, List.getElem?_cons_succ, List.getElem?_cons_zero]); rfl)
          case rr_4_q110 =>
            have h0 : ∃ g : Nat, t 26 = .slice (some ⟨g, 0, none⟩) 0 0 ∧ OwnR u (W5.heap.size) 146 2 (.slice (some ⟨g, 0, none⟩) 0 0) 0 [] := hF 0 rfl rfl
            clear hF
            simp only [setl, List.foldl_cons, List.foldl_nil, Act.put, List.setIfInBounds_toArray, List.set_cons_zero, List.set_cons_succ] at hK ⊢
            generalize t 26 = x26 at *
            obtain ⟨g0, rfl, ho0⟩ := h0
            refine op_first rfl _ _ 66 rfl (W5.heap.size) 146 _ 2 40 Try.underlying66 info_fileV rfl (by decide) g0 (by rfl) ho0 (wa) (k) (wc) ((W.take k).flatMap FileV.cells) (by rfl) (row_takeG FileV.cells_len (by omega) (HR5.out.later hHeld) hk) (files_one _) (by have := (show k ≤ 1000 by omega); unfold maxLen; omega) (by have := (show k ≤ 1000 by omega); omega) (Below.size hHeld) ?_
            intro v4 w4 ho4 hb4
            refine hK.out _ _ (by exact (by repeat (first | assumption | exact Below.refl _ _ | refine belDrew ?_ | refine belAlloc ?_ _ | refine belStep ?_ (by assumption)))) (by exact (show Below W5.heap.size W5 _ by repeat (first | assumption | exact Below.refl _ _ | refine belDrew ?_ | refine belAlloc ?_ _ | refine belStep ?_ (by assumption)))) ?_
            exact ho4
        case o_6_q110 =>
          refine KrOp.of (o := ?oo_6_q110) ?hi_6_q110 (fun t u hHeld hF K hK => ?rr_6_q110)
          case hi_6_q110 => ((simp only [List.getElem?_toArray, List.getElem?_cons_succ, List.getElem?_cons_zero]); rfl)
          case rr_6_q110 =>
            clear hF
            simp only [setl, List.foldl_cons, List.foldl_nil, Act.put, List.setIfInBounds_toArray, List.set_cons_zero, List.set_cons_succ] at hK ⊢
            go_simp
            refine hK.out _ _ (by exact (by repeat (first | assumption | exact Below.refl _ _ | refine belDrew ?_ | refine belAlloc ?_ _ | refine belStep ?_ (by assumption)))) (by exact (show Below W5.heap.size W5 _ by repeat (first | assumption | exact Below.refl _ _ | refine belDrew ?_ | refine belAlloc ?_ _ | refine belStep ?_ (by assumption)))) ?_
            exact ⟨_, rfl, row_new _ (f.cells) 146 1 2 rfl (by unfold maxLen; omega)⟩
        case e_q110 =>
          intro t u hHeld hF
          have h0 : ∃ g : Nat, t 26 = .slice (some ⟨g, 0, none⟩) 0 0 ∧ OwnR u (W5.heap.size) 146 2 (.slice (some ⟨g, 0, none⟩) 0 0) 0 [] := hF 0 rfl
          have h4 : OwnR u (W5.heap.size) 146 2 (t 30) (k) ((W.take k).flatMap FileV.cells) := hF 4 rfl
          have h6 : ∃ g : Nat, t 32 = .slice (some ⟨g, 0, none⟩) 1 1 ∧ Row u (some ⟨g, 0, none⟩) 1 1 2 (f.cells) := hF 6 rfl
          clear hF
          simp only [setl, List.foldl_cons, List.foldl_nil, Act.put, List.setIfInBounds_toArray, List.set_cons_zero, List.set_cons_succ]
          generalize t 26 = x26 at *
          generalize t 30 = x30 at *
          generalize t 32 = x32 at *
          obtain ⟨g6, rfl, hr6⟩ := h6
          obtain ⟨g0, rfl, ho0⟩ := h0
          have HO4 := Lib.hid h4
          clear h4
          refine wpAnyH_ready (rs := [7]) (by kernel_rfl) (by simp) ?_
          refine AllReadyH.cons (o := ?o1_ta101) ?hi_ta101 (fun K hK => ?rest_ta101) AllReadyH.nil
          case hi_ta101 => ((simp only [List.getElem?_toArray, List.getElem?_cons_succ, List.getElem?_cons_zero]); rfl)
          refine op_appR rfl _ _ 66 rfl (W5.heap.size) 146 _ 2 40 Try.underlying66 info_fileV rfl (by decide) _ (k) _ (by rfl) HO4.out _ 1 1 (f.cells) (by rfl) hr6 (file_one f) (by have := (show k + 1 ≤ 2000 by omega); unfold maxLen; omega) (by have := (show k + 1 ≤ 2000 by omega); omega) (Below.size hHeld) ?_
          intro v7 u7 ho7 hb7
          have hu7 : Below W5.heap.size W5 u7 := hHeld.trans hb7
          refine hK.out _ _ (by exact hu7) (fun hHeld => ?_)
          clear hK K hb7
          try simp only [Act.put, List.setIfInBounds_toArray, List.set_cons_zero, List.set_cons_succ]
          have HO7 := Lib.hid ho7
          clear ho7
          refine wpAnyH_ready (rs := [11]) (by kernel_rfl) (by simp) ?_
          refine AllReadyH.cons (o := ?o1_ku101) ?hi_ku101 (fun K hK => ?rest_ku101) AllReadyH.nil
          case hi_ku101 => ((simp only [List.getElem?_toArray, List.getElem?_cons_succ, List.getElem?_cons_zero]); rfl)
          refine op_appO rfl _ _ 66 rfl (W5.heap.size) 146 _ 2 40 Try.underlying66 info_fileV rfl (by decide) _ (k + 1) _ (by rfl) HO7.out (if wc = k then wa else Option.map (fun x => x.add (k * 2)) wa) (W.length - k) (wc - k) ((W.drop k).flatMap FileV.cells) (by rfl) (row_dropG FileV.cells_len (by omega) (HR5.out.later hHeld) hk) (files_one _) (by unfold maxLen; omega) (by omega) (Below.size hHeld) ?_
          intro v11 u11 ho11 hb11
          have hu11 : Below W5.heap.size W5 u11 := hHeld.trans hb11
          refine hK.out _ _ (by exact hu11) (fun hHeld => ?_)
          clear hK K
          try simp only [Act.put, List.setIfInBounds_toArray, List.set_cons_zero, List.set_cons_succ]
          refine wpAnyH_take (i := 12) (oi := ?oi_k102) (v := ?v_k102) ?hi_k102 (by kernel_rfl) ?hf_k102 ?hr_k102 ?hQ_k102 (Or.inl ⟨?hw_k102, ?hy_k102⟩) (by assumption) ?rest_k102
          case hi_k102 => ((simp only [List.getElem?_toArray, List.getElem?_cons_succ, List.getElem?_cons_zero]); rfl)
          case hf_k102 => kernel_rfl
          case hr_k102 => kernel_rfl
          case hQ_k102 => exact fun _ _ _ h => h
          case hw_k102 => rfl
          case hy_k102 => ((intro w hSw; (try dsimp only at hSw); go_simp); all_goals (with_reducible rfl))
          try simp only [Act.put, List.setIfInBounds_toArray, List.set_cons_zero, List.set_cons_succ]
          refine wpAnyH_done (by kernel_rfl) ?_ _
          have HO11 := Lib.hid ho11
          have HU11 := Lib.hid hu11
          clear hHeld ho11 hb11 hu11 hbel y0 y1
          obtain ⟨aq, haq⟩ : ∃ q, (if wc = k then wa else Option.map (fun x => x.add (k * 2)) wa) = q := ⟨_, rfl⟩
          try simp only [haq]
          clear haq
          go_wp2
          go_ret
          have hfin := HO11.out
          have e9 : k + 1 + (W.length - k) = (W.take k ++ f :: W.drop k).length := by simp only [List.length_append, List.length_take, List.length_cons, List.length_drop]; omega
          rw [e9, show (W.take k).flatMap FileV.cells ++ f.cells ++ (W.drop k).flatMap FileV.cells = (W.take k ++ f :: W.drop k).flatMap FileV.cells by simp [List.flatMap_append, List.flatMap_cons, List.append_assoc]] at hfin
          have hsz : w.heap.size ≤ W5.heap.size := by have h1 := HFB5.out.lt; have h2 := HFE.out; omega
          exact ⟨_, rfl, W.take k ++ f :: W.drop k, hfin.mono hsz, (by have h1 := HLO.out; have h2 := HHI.out; rw [← HW.out] at h1 h2 ⊢; exact putV_eq HSO.out f h1 h2), (fun x hx => by rw [← HW.out] at hx; exact (List.mem_append.1 hx).elim (fun q => .inr (List.mem_filter.1 (List.mem_of_mem_take q)).1) (fun q => (List.mem_cons.1 q).imp id (fun r => (List.mem_filter.1 (List.mem_of_mem_drop r)).1))), HFE.out ▸ (belStep (belStep (HFE.out ▸ HB1.out) HBA.out) (belStep HB5.out HU11.out))⟩
    · have HKE := Lib.hid (show k = W.length by omega)
      have hd : decide ((k : Int) < (W.length : Int)) = false := decide_eq_false (by omega)
      go_upto_region 3 with fail
      go_quiet (fail)
      have HHI := Lib.hid (show ∀ y, W[k]? = some y → ¬ y.name.toList < f.name.toList from fun y hy => by rw [HKE.out] at hy; simp at hy)
      have hkc : (k : Int) ≤ (wc : Int) := by omega
      have hkL : (k : Int) ≤ (W.length : Int) := by omega
      have hk0 : (0 : Int) ≤ (k : Int) := by omega
      have hwk : IntKind.i64.wrap (k : Int) = (k : Int) := IntWalk.i64_in _ (by omega)
      go_upto_region 5 with fail
      have HB5 := Lib.hid (show Below w2.heap.size w2 (wr.drewN nq) from belDrewN hbel nq)
      clear hbel z0
      generalize wr.drewN nq = W5 at *
      have HR5 := Lib.hid (HRW.out.later HB5.out)
      have HFB5 := Lib.hid (HFB2.out.later HB5.out)
      have y0 := keep (HFB5.out.cell (j := 0) rfl)
      have y1 := keep (HFB5.out.cell (j := 1) rfl)
      have hbel : Below W5.heap.size W5 W5 := Below.refl _ _
      refine wp_region_held_drew (S := fun u => Below W5.heap.size W5 u) (by kernel_rfl) (by exact (show Below W5.heap.size W5 _ by repeat (first | assumption | exact Below.refl _ _ | refine belDrew ?_ | refine belAlloc ?_ _ | refine belStep ?_ (by assumption)))) (fun hHeld => ?_)
      refine wpAnyH_take (i := 1) (oi := ?oi_k323) (v := ?v_k323) ?hi_k323 (by kernel_rfl) ?hf_k323 ?hr_k323 ?hQ_k323 (Or.inl ⟨?hw_k323, ?hy_k323⟩) (by assumption) ?rest_k323
      case hi_k323 => ((simp only [List.getElem?_toArray, List.getElem?_cons_succ, List.getElem?_cons_zero]); rfl)
      case hf_k323 => kernel_rfl
      case hr_k323 => kernel_rfl
      case hQ_k323 => exact fun _ _ _ h => h
      case hw_k323 => rfl
      case hy_k323 => ((intro w hSw; (try dsimp only at hSw); go_simp); all_goals (with_reducible rfl))
      try simp only [Act.put, List.setIfInBounds_toArray, List.set_cons_zero, List.set_cons_succ]
      refine wpAnyH_take (i := 2) (oi := ?oi_k324) (v := ?v_k324) ?hi_k324 (by kernel_rfl) ?hf_k324 ?hr_k324 ?hQ_k324 (Or.inl ⟨?hw_k324, ?hy_k324⟩) (by assumption) ?rest_k324
      case hi_k324 => ((simp only [List.getElem?_toArray, List.getElem?_cons_succ, List.getElem?_cons_zero]); rfl)
      case hf_k324 => kernel_rfl
      case hr_k324 => kernel_rfl
      case hQ_k324 => exact fun _ _ _ h => h
      case hw_k324 => rfl
      case hy_k324 => ((intro w hSw; (try dsimp only at hSw); go_simp); all_goals (with_reducible rfl))
      try simp only [Act.put, List.setIfInBounds_toArray, List.set_cons_zero, List.set_cons_succ]
      refine wpAnyH_take (i := 3) (oi := ?oi_k325) (v := ?v_k325) ?hi_k325 (by kernel_rfl) ?hf_k325 ?hr_k325 ?hQ_k325 (Or.inl ⟨?hw_k325, ?hy_k325⟩) (by assumption) ?rest_k325
      case hi_k325 => ((simp only [List.getElem?_toArray, List.getElem?_cons_succ, List.getElem?_cons_zero]); rfl)
      case hf_k325 => kernel_rfl
      case hr_k325 => kernel_rfl
      case hQ_k325 => exact fun _ _ _ h => h
      case hw_k325 => rfl
      case hy_k325 => ((intro w hSw; (try dsimp only at hSw); go_simp); all_goals (with_reducible rfl))
      try simp only [Act.put, List.setIfInBounds_toArray, List.set_cons_zero, List.set_cons_succ]
      refine wpAnyH_take (i := 5) (oi := ?oi_k326) (v := ?v_k326) ?hi_k326 (by kernel_rfl) ?hf_k326 ?hr_k326 ?hQ_k326 (Or.inl ⟨?hw_k326, ?hy_k326⟩) (by assumption) ?rest_k326
      case hi_k326 => ((simp only [List.getElem?_toArray, List.getElem?_cons_succ, List.getElem?_cons_zero]); rfl)
      case hf_k326 => kernel_rfl
      case hr_k326 => kernel_rfl
      case hQ_k326 => exact fun _ _ _ h => h
      case hw_k326 => rfl
      case hy_k326 => ((intro w hSw; (try dsimp only at hSw); go_simp); all_goals (with_reducible rfl))
      try simp only [Act.put, List.setIfInBounds_toArray, List.set_cons_zero, List.set_cons_succ]
      refine wpAnyH_take (i := 8) (oi := ?oi_k327) (v := ?v_k327) ?hi_k327 (by kernel_rfl) ?hf_k327 ?hr_k327 ?hQ_k327 (Or.inl ⟨?hw_k327, ?hy_k327⟩) (by assumption) ?rest_k327
      case hi_k327 => ((simp only [List.getElem?_toArray, List.getElem?_cons_succ, List.getElem?_cons_zero]); rfl)
      case hf_k327 => kernel_rfl
      case hr_k327 => kernel_rfl
      case hQ_k327 => exact fun _ _ _ h => h
      case hw_k327 => rfl
      case hy_k327 => ((intro w hSw; (try dsimp only at hSw); go_simp); all_goals (with_reducible rfl))
      try simp only [Act.put, List.setIfInBounds_toArray, List.set_cons_zero, List.set_cons_succ]
      refine wpAnyH_take (i := 9) (oi := ?oi_k328) (v := ?v_k328) ?hi_k328 (by kernel_rfl) ?hf_k328 ?hr_k328 ?hQ_k328 (Or.inl ⟨?hw_k328, ?hy_k328⟩) (by assumption) ?rest_k328
      case hi_k328 => ((simp only [List.getElem?_toArray, List.getElem?_cons_succ, List.getElem?_cons_zero]); rfl)
      case hf_k328 => kernel_rfl
      case hr_k328 => kernel_rfl
      case hQ_k328 => exact fun _ _ _ h => h
      case hw_k328 => rfl
      case hy_k328 => ((intro w hSw; (try dsimp only at hSw); go_simp); all_goals (with_reducible rfl))
      try simp only [Act.put, List.setIfInBounds_toArray, List.set_cons_zero, List.set_cons_succ]
      refine wpAnyH_take (i := 10) (oi := ?oi_k329) (v := ?v_k329) ?hi_k329 (by kernel_rfl) ?hf_k329 ?hr_k329 ?hQ_k329 (Or.inl ⟨?hw_k329, ?hy_k329⟩) (by assumption) ?rest_k329
      case hi_k329 => ((simp only [List.getElem?_toArray, List.getElem?_cons_succ, List.getElem?_cons_zero]); rfl)
      case hf_k329 => kernel_rfl
      case hr_k329 => kernel_rfl
      case hQ_k329 => exact fun _ _ _ h => h
      case hw_k329 => rfl
      case hy_k329 => ((intro w hSw; (try dsimp only at hSw); go_simp); all_goals (with_reducible rfl))
      try simp only [Act.put, List.setIfInBounds_toArray, List.set_cons_zero, List.set_cons_succ]
      refine krip (fun u u' => Below u.heap.size u u') [26, 30, 32] [[], [], [], [], [0], [], [], [0, 4, 6], [], [], [], [0, 4, 6], [0, 4, 6]] [[26], [], [], [], [30], [], [32], [], [], [], [], [], []] [0, 4, 6] (krF [(0, fun t u => ∃ g : Nat, t 26 = .slice (some ⟨g, 0, none⟩) 0 0 ∧ OwnR u (W5.heap.size) 146 2 (.slice (some ⟨g, 0, none⟩) 0 0) 0 []), (4, fun t u => OwnR u (W5.heap.size) 146 2 (t 30) (k) ((W.take k).flatMap FileV.cells)), (6, fun t u => ∃ g : Nat, t 32 = .slice (some ⟨g, 0, none⟩) 1 1 ∧ Row u (some ⟨g, 0, none⟩) 1 1 2 (f.cells))]) 3 #[true, true, true, true, true, true, true, false, true, true, true, false, false] (by kernel_rfl) (by kernel_rfl) (by kernel_rfl) (by assumption) (AllL.cons ?s_0_q330 (AllL.cons ?s_4_q330 (AllL.cons ?s_6_q330 AllL.nil))) (AllL.cons ?o_0_q330 (AllL.cons ?o_4_q330 (AllL.cons ?o_6_q330 AllL.nil))) ?e_q330
      case s_0_q330 => exact fun t u u' hle ⟨g, e, h⟩ => ⟨g, e, OwnR.later h hle⟩
      case s_4_q330 => exact fun t u u' hle h => OwnR.later h hle
      case s_6_q330 => exact fun t u u' hle ⟨g, e, h⟩ => ⟨g, e, Row.later h hle⟩
      case o_0_q330 =>
        refine KrOp.of (o := ?oo_0_q330) ?hi_0_q330 (fun t u hHeld hF K hK => ?rr_0_q330)
        case hi_0_q330 => ((simp only [List.getElem?_toArray, List.getElem?_cons_succ, List.getElem?_cons_zero]); rfl)
        case rr_0_q330 =>
          clear hF
          simp only [setl, List.foldl_cons, List.foldl_nil, Act.put, List.setIfInBounds_toArray, List.set_cons_zero, List.set_cons_succ] at hK ⊢
          go_simp
          refine hK.out _ _ (by exact (by repeat (first | assumption | exact Below.refl _ _ | refine belDrew ?_ | refine belAlloc ?_ _ | refine belStep ?_ (by assumption)))) (by exact (show Below W5.heap.size W5 _ by repeat (first | assumption | exact Below.refl _ _ | refine belDrew ?_ | refine belAlloc ?_ _ | refine belStep ?_ (by assumption)))) ?_
          exact ⟨_, rfl, OwnR.mono (own_empty _ _ 2) (Below.size hHeld)⟩
      case o_4_q330 =>
        refine KrOp.of (o := ?oo_4_q330) ?hi_4_q330 (fun t u hHeld hF K hK => ?rr_4_q330)
        case hi_4_q330 => ((simp only [List.getElem?_toArray, List.getElem?_cons_succ, List.getElem?_cons_zero]); rfl)
        case rr_4_q330 =>
          have h0 : ∃ g : Nat, t 26 = .slice (some ⟨g, 0, none⟩) 0 0 ∧ OwnR u (W5.heap.size) 146 2 (.slice (some ⟨g, 0, none⟩) 0 0) 0 [] := hF 0 rfl rfl
          clear hF
          simp only [setl, List.foldl_cons, List.foldl_nil, Act.put, List.setIfInBounds_toArray, List.set_cons_zero, List.set_cons_succ] at hK ⊢
          generalize t 26 = x26 at *
          obtain ⟨g0, rfl, ho0⟩ := h0
          refine op_first rfl _ _ 66 rfl (W5.heap.size) 146 _ 2 40 Try.underlying66 info_fileV rfl (by decide) g0 (by rfl) ho0 (wa) (k) (wc) ((W.take k).flatMap FileV.cells) (by rfl) (row_takeG FileV.cells_len (by omega) (HR5.out.later hHeld) hk) (files_one _) (by have := (show k ≤ 1000 by omega); unfold maxLen; omega) (by have := (show k ≤ 1000 by omega); omega) (Below.size hHeld) ?_
          intro v4 w4 ho4 hb4
          refine hK.out _ _ (by exact (by repeat (first | assumption | exact Below.refl _ _ | refine belDrew ?_ | refine belAlloc ?_ _ | refine belStep ?_ (by assumption)))) (by exact (show Below W5.heap.size W5 _ by repeat (first | assumption | exact Below.refl _ _ | refine belDrew ?_ | refine belAlloc ?_ _ | refine belStep ?_ (by assumption)))) ?_
          exact ho4
      case o_6_q330 =>
        refine KrOp.of (o := ?oo_6_q330) ?hi_6_q330 (fun t u hHeld hF K hK => ?rr_6_q330)
        case hi_6_q330 => ((simp only [List.getElem?_toArray, List.getElem?_cons_succ, List.getElem?_cons_zero]); rfl)
        case rr_6_q330 =>
          clear hF
          simp only [setl, List.foldl_cons, List.foldl_nil, Act.put, List.setIfInBounds_toArray, List.set_cons_zero, List.set_cons_succ] at hK ⊢
          go_simp
          refine hK.out _ _ (by exact (by repeat (first | assumption | exact Below.refl _ _ | refine belDrew ?_ | refine belAlloc ?_ _ | refine belStep ?_ (by assumption)))) (by exact (show Below W5.heap.size W5 _ by repeat (first | assumption | exact Below.refl _ _ | refine belDrew ?_ | refine belAlloc ?_ _ | refine belStep ?_ (by assumption)))) ?_
          exact ⟨_, rfl, row_new _ (f.cells) 146 1 2 rfl (by unfold maxLen; omega)⟩
      case e_q330 =>
        intro t u hHeld hF
        have h0 : ∃ g : Nat, t 26 = .slice (some ⟨g, 0, none⟩) 0 0 ∧ OwnR u (W5.heap.size) 146 2 (.slice (some ⟨g, 0, none⟩) 0 0) 0 [] := hF 0 rfl
        have h4 : OwnR u (W5.heap.size) 146 2 (t 30) (k) ((W.take k).flatMap FileV.cells) := hF 4 rfl
        have h6 : ∃ g : Nat, t 32 = .slice (some ⟨g, 0, none⟩) 1 1 ∧ Row u (some ⟨g, 0, none⟩) 1 1 2 (f.cells) := hF 6 rfl
        clear hF
        simp only [setl, List.foldl_cons, List.foldl_nil, Act.put, List.setIfInBounds_toArray, List.set_cons_zero, List.set_cons_succ]
        generalize t 26 = x26 at *
        generalize t 30 = x30 at *
        generalize t 32 = x32 at *
        obtain ⟨g6, rfl, hr6⟩ := h6
        obtain ⟨g0, rfl, ho0⟩ := h0
        have HO4 := Lib.hid h4
        clear h4
        refine wpAnyH_ready (rs := [7]) (by kernel_rfl) (by simp) ?_
        refine AllReadyH.cons (o := ?o1_ta321) ?hi_ta321 (fun K hK => ?rest_ta321) AllReadyH.nil
        case hi_ta321 => ((simp only [List.getElem?_toArray, List.getElem?_cons_succ, List.getElem?_cons_zero]); rfl)
        refine op_appR rfl _ _ 66 rfl (W5.heap.size) 146 _ 2 40 Try.underlying66 info_fileV rfl (by decide) _ (k) _ (by rfl) HO4.out _ 1 1 (f.cells) (by rfl) hr6 (file_one f) (by have := (show k + 1 ≤ 2000 by omega); unfold maxLen; omega) (by have := (show k + 1 ≤ 2000 by omega); omega) (Below.size hHeld) ?_
        intro v7 u7 ho7 hb7
        have hu7 : Below W5.heap.size W5 u7 := hHeld.trans hb7
        refine hK.out _ _ (by exact hu7) (fun hHeld => ?_)
        clear hK K hb7
        try simp only [Act.put, List.setIfInBounds_toArray, List.set_cons_zero, List.set_cons_succ]
        have HO7 := Lib.hid ho7
        clear ho7
        refine wpAnyH_ready (rs := [11]) (by kernel_rfl) (by simp) ?_
        refine AllReadyH.cons (o := ?o1_ku321) ?hi_ku321 (fun K hK => ?rest_ku321) AllReadyH.nil
        case hi_ku321 => ((simp only [List.getElem?_toArray, List.getElem?_cons_succ, List.getElem?_cons_zero]); rfl)
        refine op_appO rfl _ _ 66 rfl (W5.heap.size) 146 _ 2 40 Try.underlying66 info_fileV rfl (by decide) _ (k + 1) _ (by rfl) HO7.out (if wc = k then wa else Option.map (fun x => x.add (k * 2)) wa) (W.length - k) (wc - k) ((W.drop k).flatMap FileV.cells) (by rfl) (row_dropG FileV.cells_len (by omega) (HR5.out.later hHeld) hk) (files_one _) (by unfold maxLen; omega) (by omega) (Below.size hHeld) ?_
        intro v11 u11 ho11 hb11
        have hu11 : Below W5.heap.size W5 u11 := hHeld.trans hb11
        refine hK.out _ _ (by exact hu11) (fun hHeld => ?_)
        clear hK K
        try simp only [Act.put, List.setIfInBounds_toArray, List.set_cons_zero, List.set_cons_succ]
        refine wpAnyH_take (i := 12) (oi := ?oi_k322) (v := ?v_k322) ?hi_k322 (by kernel_rfl) ?hf_k322 ?hr_k322 ?hQ_k322 (Or.inl ⟨?hw_k322, ?hy_k322⟩) (by assumption) ?rest_k322
        case hi_k322 => ((simp only [List.getElem?_toArray, List.getElem?_cons_succ, List.getElem?_cons_zero]); rfl)
        case hf_k322 => kernel_rfl
        case hr_k322 => kernel_rfl
        case hQ_k322 => exact fun _ _ _ h => h
        case hw_k322 => rfl
        case hy_k322 => ((intro w hSw; (try dsimp only at hSw); go_simp); all_goals (with_reducible rfl))
        try simp only [Act.put, List.setIfInBounds_toArray, List.set_cons_zero, List.set_cons_succ]
        refine wpAnyH_done (by kernel_rfl) ?_ _
        have HO11 := Lib.hid ho11
        have HU11 := Lib.hid hu11
        clear hHeld ho11 hb11 hu11 hbel y0 y1
        obtain ⟨aq, haq⟩ : ∃ q, (if wc = k then wa else Option.map (fun x => x.add (k * 2)) wa) = q := ⟨_, rfl⟩
        try simp only [haq]
        clear haq
        go_wp2
        go_ret
        have hfin := HO11.out
        have e9 : k + 1 + (W.length - k) = (W.take k ++ f :: W.drop k).length := by simp only [List.length_append, List.length_take, List.length_cons, List.length_drop]; omega
        rw [e9, show (W.take k).flatMap FileV.cells ++ f.cells ++ (W.drop k).flatMap FileV.cells = (W.take k ++ f :: W.drop k).flatMap FileV.cells by simp [List.flatMap_append, List.flatMap_cons, List.append_assoc]] at hfin
        have hsz : w.heap.size ≤ W5.heap.size := by have h1 := HFB5.out.lt; have h2 := HFE.out; omega
        exact ⟨_, rfl, W.take k ++ f :: W.drop k, hfin.mono hsz, (by have h1 := HLO.out; have h2 := HHI.out; rw [← HW.out] at h1 h2 ⊢; exact putV_eq HSO.out f h1 h2), (fun x hx => by rw [← HW.out] at hx; exact (List.mem_append.1 hx).elim (fun q => .inr (List.mem_filter.1 (List.mem_of_mem_take q)).1) (fun q => (List.mem_cons.1 q).imp id (fun r => (List.mem_filter.1 (List.mem_of_mem_drop r)).1))), HFE.out ▸ (belStep (belStep (HFE.out ▸ HB1.out) HBA.out) (belStep HB5.out HU11.out))⟩
end Go.Proofs.Ytcnjcldfbidkmaa
