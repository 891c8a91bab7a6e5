
/- slices.Insert and slices.Delete at ImgV. -/
import Derived.Test.YtcnjcldfbidkmaaInsK
import Derived.Test.YtcnjcldfbidkmaaImMath
import Derived.Deep.LoopGhost
namespace Go.Proofs.Ytcnjcldfbidkmaa
open Go.RowKit
set_option linter.unusedVariables false
set_option linter.unusedSimpArgs false
theorem info_imgI : (Try.prog.info? 58).map (fun i => (i.zero, i.size, i.bytes)) = some (some (.agg #[.string ⟨#[]⟩, .int .i64 0, .int .i64 0]), 3, 32) := by kernel_rfl
theorem size_imgI : (Try.prog.info? 58).map (·.size) = some 3 := by kernel_rfl
theorem one_imgI (x : ImgV) : ∀ u ∈ x.cells, u.oneCell' = true := by
  intro u hu
  exact img_one x u hu
theorem ones_imgI (L : List ImgV) : ∀ u ∈ L.flatMap ImgV.cells, u.oneCell' = true := fun u hu => by obtain ⟨x, _, hx⟩ := List.mem_flatMap.1 hu; exact one_imgI x u hx
theorem len_imgI (x : ImgV) : x.cells.length = 3 := rfl
set_option maxRecDepth 100000 in
set_option maxHeartbeats 16000000 in
theorem ins_endImg (B n : Nat) (v : Value) (L : List ImgV) (x : ImgV) (vb : Nat) (w : World) (ho : OwnR w B 58 3 v n (L.flatMap ImgV.cells)) (hl : L.length = n) (hn : n ≤ 100000) (hx : Blk w vb x.cells 58) (hB : B ≤ w.heap.size) :
    Calls Try.prog 130 #[v, .int .i64 (n : Int), .slice (some ⟨vb, 0, none⟩) 1 1] w fun e w' => ∃ v', e = .returned v' ∧ OwnR w' B 58 3 v' (n + 1) ((L ++ [x]).flatMap ImgV.cells) ∧ Below B w w' ∧ w.grownBy w' v.ownBlock ∧ Moved w v v' := by
  have HO := Lib.hid ho
  have HRX := Lib.hid (row_of_blkN (n := 1) (k := 3) hx (len_imgI x) (by unfold maxLen; omega))
  have HX1 := Lib.hid (one_imgI x)
  rcases own_open ho with ⟨hv, h0, _⟩ | ⟨g, cap, C, hv, _, _, h1, h2, _, _⟩
  · subst hv
    subst h0
    clear ho hx
    go_enter Try.func130, Try.ntmps130
    go_wp2_with (at_builtin; go_loud (refine wpList_app_sep rfl _ _ 29 rfl B 58 _ 3 32 Try.underlying29 info_imgI rfl (by decide) _ 0 _ rfl HO.out ⟨vb, 0, none⟩ 1 1 x.cells rfl HRX.out HX1.out (by unfold maxLen; omega) (by omega) hB ?_); intro v1 w1 h1 h2 h3 h4; have H1 := Lib.hid h1; have H2 := Lib.hid h2; have H3 := Lib.hid h3; have H4 := Lib.hid h4; clear h1 h2 h3 h4)
    go_ret
    exact ⟨_, rfl, by rw [List.flatMap_append]; simpa using H1.out, H2.out, H3.out, H4.out⟩
  · subst hv
    clear ho hx
    unfold maxLen at h2
    by_cases hc : cap = n
    · subst hc
      go_enter Try.func130, Try.ntmps130
      go_wp2_with (at_builtin; go_loud (refine wpList_app_sep rfl _ _ 29 rfl B 58 _ 3 32 Try.underlying29 info_imgI rfl (by decide) _ cap _ rfl HO.out ⟨vb, 0, none⟩ 1 1 x.cells rfl HRX.out HX1.out (by unfold maxLen; omega) (by omega) hB ?_); intro v1 w1 h1 h2 h3 h4; have H1 := Lib.hid h1; have H2 := Lib.hid h2; have H3 := Lib.hid h3; have H4 := Lib.hid h4; clear h1 h2 h3 h4)
      go_ret
      exact ⟨_, rfl, by rw [List.flatMap_append]; simpa using H1.out, H2.out, H3.out, H4.out⟩
    · go_enter Try.func130, Try.ntmps130
      go_wp2_with (at_builtin; go_loud (refine wpList_app_sep rfl _ _ 29 rfl B 58 _ 3 32 Try.underlying29 info_imgI rfl (by decide) _ n _ rfl HO.out ⟨vb, 0, none⟩ 1 1 x.cells rfl HRX.out HX1.out (by unfold maxLen; omega) (by omega) hB ?_); intro v1 w1 h1 h2 h3 h4; have H1 := Lib.hid h1; have H2 := Lib.hid h2; have H3 := Lib.hid h3; have H4 := Lib.hid h4; clear h1 h2 h3 h4)
      go_ret
      exact ⟨_, rfl, by rw [List.flatMap_append]; simpa using H1.out, H2.out, H3.out, H4.out⟩
set_option maxRecDepth 100000 in
set_option maxHeartbeats 16000000 in
theorem ins_growImg (B n i g c : Nat) (C : List Value) (L : List ImgV) (x : ImgV) (vb : Nat) (w : World) (hb : Blk w g C 58) (hBg : B ≤ g) (hC : C.length = c * 3) (ht : C.take (n * 3) = L.flatMap ImgV.cells) (hl : L.length = n) (hn : n ≤ 100000) (hi : i < n) (hnc : n ≤ c) (hroom : c < n + 1) (hx : Blk w vb x.cells 58) (hB : B ≤ w.heap.size) :
    Calls Try.prog 130 #[.slice (some ⟨g, 0, none⟩) n c, .int .i64 (i : Int), .slice (some ⟨vb, 0, none⟩) 1 1] w fun e w' => ∃ v', e = .returned v' ∧ OwnR w' B 58 3 v' (n + 1) ((L.take i ++ x :: L.drop i).flatMap ImgV.cells) ∧ Below B w w' ∧ w.grownBy w' (some g) ∧ Moved w (.slice (some ⟨g, 0, none⟩) n c) v' := by
  obtain ⟨i0, hi0, hz0, hz1, hz2⟩ : ∃ i0, Try.prog.info? 58 = some i0 ∧ i0.zero = some (.agg #[.string ⟨#[]⟩, .int .i64 0, .int .i64 0]) ∧ i0.size = 3 ∧ i0.bytes = 32 := by
    have h := info_imgI
    cases hp : Try.prog.info? 58 with
    | none => rw [hp] at h; simp at h
    | some i0 => rw [hp] at h; simp at h; exact ⟨i0, rfl, h.1, h.2.1, h.2.2⟩
  have hgw := hb.lt
  have hvw := hx.lt
  have hkk : (n : Int) + 1 - (i : Int) = ((n + 1 - i : Nat) : Int) := by omega
  have hik : i + (n + 1 - i) = n + 1 := by omega
  have hlen : (L.flatMap ImgV.cells).length = n * 3 := by rw [flatMap_len _ 3 len_imgI, hl]
  have hti : ((L.take i).flatMap ImgV.cells).length = i * 3 := by rw [flatMap_len _ 3 len_imgI, List.length_take]; congr 1; omega
  have hdi : ((L.drop i).flatMap ImgV.cells).length = (n - i) * 3 := by rw [flatMap_len _ 3 len_imgI, List.length_drop, hl]
  have ones := ones_imgI L
  have hold : (Builtin.firstCells i0.size i (.slice (some ⟨g, 0, none⟩) i c)).run Try.prog w.drew = .ok ((L.take i).flatMap ImgV.cells).toArray w.drew := by
    rw [hz1]
    refine run_firstCells_some w.drew 3 i ⟨g, 0, none⟩ i c _ (by rw [hti]) (fun j v hj => ?_)
    have hjl : j < ((L.take i).flatMap ImgV.cells).length := by
      rcases Nat.lt_or_ge j ((L.take i).flatMap ImgV.cells).length with q | q
      · exact q
      · rw [List.getElem?_eq_none q] at hj; cases hj
    rw [flat_takeG (enc := ImgV.cells) len_imgI L i j hjl] at hj
    have := blk_take (w := w.drew) hb ht 0 j v (by simpa using hj)
    rw [addr_add]; exact this
  obtain ⟨G, hG⟩ : ∃ G, G = grownCap w (n + 1) c 58 := ⟨_, rfl⟩
  have hGn : n + 1 ≤ G := by rw [hG]; exact grownCap_ge w _ _ _
  have hG63 : G ≤ maxLen := by rw [hG]; exact grownCap_le_maxLen w (n + 1) c 58 (by unfold maxLen; omega)
  obtain ⟨R, hR⟩ : ∃ R : List Value, R.toArray = ((L.take i).flatMap ImgV.cells).toArray ++ Builtin.zeroCells (.agg #[.string ⟨#[]⟩, .int .i64 0, .int .i64 0] : Value).cells (n + 1 - i) ++ Builtin.zeroCells (.agg #[.string ⟨#[]⟩, .int .i64 0, .int .i64 0] : Value).cells (G - (n + 1)) := ⟨_, Array.toArray_toList⟩
  have hrz : ∀ ty, (Builtin.append_ #[29, 3] ty #[.slice (some ⟨g, 0, none⟩) i c, .int .i64 ((n : Int) + 1 - (i : Int))]).run Try.prog w = .ok (.slice (some ⟨w.heap.size, 0, none⟩) (n + 1) G) (w.drew.alloc (.cells R.toArray 58)) := fun ty => by
    have h := Lib.run_append_grow_zeros w 29 3 ty 58 i0 _ .i64 .i64 Try.underlying29 Try.underlying3 hi0 hz0 (some ⟨g, 0, none⟩) i c _ hold (n + 1 - i) (by omega) (by rw [hz1]; omega) (by omega) (by omega) (by rw [hz2]; omega) (by rw [hz2, hik]; exact growslice_fits hroom (by omega))
    rw [hik, ← hG, ← hR] at h
    rw [hkk]
    exact h
  have hRl : R.length = G * 3 := by
    have := congrArg Array.size hR
    simp only [Array.size_append, List.size_toArray, hti, zeroCells_size] at this
    rw [show (.agg #[.string ⟨#[]⟩, .int .i64 0, .int .i64 0] : Value).cells.size = 3 from rfl] at this
    omega
  have hRt : R.take (i * 3) = (L.take i).flatMap ImgV.cells := by
    have := congrArg Array.toList hR
    simp only [Array.toList_append] at this
    rw [this, List.append_assoc, ← hti, List.take_left]
  clear hR hold hi0 hz0 hz1 hz2 hkk hik hG
  obtain ⟨W1, hW1⟩ : ∃ W1, W1 = w.drew.alloc (.cells R.toArray 58) := ⟨_, rfl⟩
  rw [← hW1] at hrz
  have hb1 : Blk W1 w.heap.size R 58 := by rw [hW1]; exact Blk.at (w := w.drew) rfl
  have hl1 : Below w.heap.size w W1 := by rw [hW1]; exact belAlloc (belDrew (Below.refl _ _)) _
  have hx1 := hx.later hl1
  have hg1 := hb.later hl1
  have hcA : ∀ (W : World), W.heap = W1.heap → ∀ ty dc, (Builtin.copy_ #[29, 29] ty #[.slice (some ⟨w.heap.size, i * 3, none⟩) (n + 1 - i) dc, .slice (some ⟨vb, 0, none⟩) 1 1]).run Try.prog W = .ok (goInt 1) (W.setRow w.heap.size (spl R (i * 3) x.cells).toArray) := fun W hW ty dc => by
    have hq := run_copyK (P := Try.prog) W 29 29 ty 58 3 w.heap.size (i * 3) (n + 1 - i) dc ⟨vb, 0, none⟩ 1 1 R 58 x.cells Try.underlying29 size_imgI (by unfold Blk; rw [hW]; exact hb1) (by rw [len_imgI, show Nat.min 1 (n + 1 - i) = 1 from Nat.min_eq_left (by omega)]) (fun j v hj => by rw [addr_add, Nat.zero_add]; exact Blk.cell (T := 58) (by unfold Blk; rw [hW]; exact hx1) hj) (by rw [len_imgI, hRl]; omega) (one_imgI x)
    rw [show Nat.min 1 (n + 1 - i) = 1 from Nat.min_eq_left (by omega)] at hq
    exact hq
  obtain ⟨R2, hR2⟩ : ∃ R2, R2 = spl R (i * 3) x.cells := ⟨_, rfl⟩
  have hfit : i * 3 + x.cells.length ≤ R.length := by rw [len_imgI, hRl]; omega
  have hR2l : R2.length = G * 3 := by rw [hR2, spl_len hfit, hRl]
  have hR2t : R2.take ((i + 1) * 3) = (L.take i).flatMap ImgV.cells ++ x.cells := by rw [hR2, spl_take_all hfit (by rw [len_imgI]; omega), hRt]
  rw [← hR2] at hcA
  have hcB : ∀ (W : World), W.heap = (W1.setRow w.heap.size R2.toArray).heap → ∀ ty dc sc, (Builtin.copy_ #[29, 29] ty #[.slice (some ⟨w.heap.size, (i + 1) * 3, none⟩) (n - i) dc, .slice (some ⟨g, i * 3, none⟩) (n - i) sc]).run Try.prog W = .ok (goInt ((n - i : Nat) : Int)) (W.setRow w.heap.size (spl R2 ((i + 1) * 3) ((L.drop i).flatMap ImgV.cells)).toArray) := fun W hW ty dc sc => by
    have hm : Nat.min (n - i) (n - i) = n - i := Nat.min_eq_left (Nat.le_refl _)
    have hq := run_copyK (P := Try.prog) W 29 29 ty 58 3 w.heap.size ((i + 1) * 3) (n - i) dc ⟨g, i * 3, none⟩ (n - i) sc R2 58 ((L.drop i).flatMap ImgV.cells) Try.underlying29 size_imgI (by unfold Blk; rw [hW]; exact hb1.row R2) (by rw [hm, hdi])
      (fun j v hj => by
        rw [addr_add]
        rw [flat_dropE len_imgI L i (by omega)] at hj
        have h2 : Blk W g C 58 := by unfold Blk; rw [hW]; exact hg1.rowFar (by omega) R2
        exact blk_take h2 ht _ j v hj)
      (by rw [hdi, hR2l]; omega) (fun u hu => ones u (by obtain ⟨y, hy, hu2⟩ := List.mem_flatMap.1 hu; exact List.mem_flatMap.2 ⟨y, List.mem_of_mem_drop hy, hu2⟩))
    rw [hm] at hq
    exact hq
  have hfit2 : (i + 1) * 3 + ((L.drop i).flatMap ImgV.cells).length ≤ R2.length := by rw [hdi, hR2l]; omega
  obtain ⟨R3, hR3⟩ : ∃ R3, R3 = spl R2 ((i + 1) * 3) ((L.drop i).flatMap ImgV.cells) := ⟨_, rfl⟩
  have hR3l : R3.length = G * 3 := by rw [hR3, spl_len hfit2, hR2l]
  have hR3t : R3.take ((n + 1) * 3) = (L.take i ++ x :: L.drop i).flatMap ImgV.cells := by rw [hR3, spl_take_all hfit2 (by rw [hdi]; omega), hR2t, flat_ins, List.append_assoc]
  rw [← hR3] at hcB
  have HEND := Lib.hid (fun (W : World) (hW : W = (((w.alloc (.cells R.toArray 58)).drew.setRow w.heap.size R2.toArray).drew).setRow w.heap.size R3.toArray ∨ W = ((W1.setRow w.heap.size R2.toArray).drew).setRow w.heap.size R3.toArray) => show OwnR W B 58 3 (.slice (some ⟨w.heap.size, 0, none⟩) (n + 1) G) (n + 1) ((L.take i ++ x :: L.drop i).flatMap ImgV.cells) ∧ Below B w W ∧ w.grownBy W (some g) from by
    have e : W = ((W1.setRow w.heap.size R2.toArray).drew).setRow w.heap.size R3.toArray := by rcases hW with h | h; rw [h, hW1]; rfl; exact h
    have h3 : Blk W w.heap.size R3 58 := by rw [e]; exact (show Blk (W1.setRow w.heap.size R2.toArray).drew w.heap.size R2 58 from hb1.row R2).row R3
    have hbl : Below w.heap.size w W := by
      have g1 := grownBy_setRow W1 w.heap.size R2.toArray
      have g2 := grownBy_setRow (W1.setRow w.heap.size R2.toArray).drew w.heap.size R3.toArray
      have b1 : Below w.heap.size W1 (W1.setRow w.heap.size R2.toArray).drew := ((Below.refl w.heap.size W1).grown g1 hl1.size (fun q hq => by cases hq; exact Nat.le_refl _)).drew
      have b2 : Below w.heap.size (W1.setRow w.heap.size R2.toArray).drew W := by rw [e]; exact (Below.refl w.heap.size _).grown g2 (by have := hl1.size; simpa using this) (fun q hq => by cases hq; exact Nat.le_refl _)
      exact hl1.trans (b1.trans b2)
    refine ⟨own_of (by omega) h3 hGn hG63 hR3l hR3t, hbl.mono hB, ⟨hbl.os, hbl.tape, hbl.output, hbl.size, fun j hj _ => hbl.block j hj⟩⟩)
  have HMV := Lib.hid (show Moved w (.slice (some ⟨g, 0, none⟩) n c) (.slice (some ⟨w.heap.size, 0, none⟩) (n + 1) G) from fun q hq => by right; simp [Value.ownBlock] at hq; omega)
  clear hb hx hR2t hR3t hRt hR2l hR3l hRl hfit hfit2 hb1 hx1 hg1 hl1 hti hdi hlen ones hR2 hR3 ht
  subst hW1
  unfold maxLen at hG63
  have hz2 : ¬ ((i : Int) = (n : Int)) := by omega
  have hz3 : (c : Int) < (n : Int) + 1 := by omega
  have hGi : ¬ (G = i) := by omega
  have hGim : ¬ (G = i + 1) := by omega
  have hci : ¬ (c = i) := by omega
  have hw1 : IntKind.i64.wrap ((i : Int) + 1) = (i : Int) + 1 := by rw [IntKind.wrap_i64]; omega
  have hw2 : IntKind.i64.wrap ((n : Int) + 1) = (n : Int) + 1 := by rw [IntKind.wrap_i64]; omega
  have hw3 : IntKind.i64.wrap ((n : Int) + 1 - (i : Int)) = (n : Int) + 1 - (i : Int) := by rw [IntKind.wrap_i64]; omega
  have hb1 : (0 : Int) ≤ (i : Int) + 1 := by omega
  have hin : i ≤ n := by omega
  have htn : ((i : Int) + 1).toNat = i + 1 := by omega
  have hb3 : (i : Int) ≤ (n : Int) := by omega
  have hcA1 := hcA ((w.alloc (.cells R.toArray 58)).drew) rfl
  clear hcA
  have HCB := Lib.hid hcB
  clear hcB
  have mixed : Try.prog.follows Departure.mixedOrders = true := by kernel_rfl
  go_enter Try.func130, Try.ntmps130
  go_wp2_with (at_builtin; refine wpList_appK _ rfl _ _ _ _ rfl _ _ rfl rfl (hrz _) ?_)
  go_region_law_o ((refine op_copyK rfl _ _ _ _ rfl (.slice (some ⟨w.heap.size, (i + 1) * 3, none⟩) (n - i) (G - (i + 1))) (.slice (some ⟨g, i * 3, none⟩) (n - i) (c - i)) (by simp [Act.eval, Act.put]) (by simp [Act.eval, Act.put]) (HCB.out ((((w.alloc (.cells R.toArray 58)).drew).setRow w.heap.size R2.toArray).drew) rfl 3 _ _) ?_))
  go_wp2
  go_ret
  exact ⟨_, rfl, (HEND.out _ (by first | exact .inl rfl | exact .inr rfl)).1, (HEND.out _ (by first | exact .inl rfl | exact .inr rfl)).2.1, (HEND.out _ (by first | exact .inl rfl | exact .inr rfl)).2.2, HMV.out⟩
set_option maxRecDepth 100000 in
set_option maxHeartbeats 16000000 in
theorem ins_shiftImg (B n i g c : Nat) (C : List Value) (L : List ImgV) (x : ImgV) (vb : Nat) (w : World) (hb : Blk w g C 58) (hBg : B ≤ g) (hC : C.length = c * 3) (ht : C.take (n * 3) = L.flatMap ImgV.cells) (hl : L.length = n) (hn : n ≤ 100000) (hi : i < n) (hroom : n + 1 ≤ c) (hcm : c ≤ maxLen) (hx : Blk w vb x.cells 58) (hne : vb ≠ g) (hB : B ≤ w.heap.size) :
    Calls Try.prog 130 #[.slice (some ⟨g, 0, none⟩) n c, .int .i64 (i : Int), .slice (some ⟨vb, 0, none⟩) 1 1] w fun e w' => ∃ v', e = .returned v' ∧ OwnR w' B 58 3 v' (n + 1) ((L.take i ++ x :: L.drop i).flatMap ImgV.cells) ∧ Below B w w' ∧ w.grownBy w' (some g) ∧ Moved w (.slice (some ⟨g, 0, none⟩) n c) v' := by
  have hti : ((L.take i).flatMap ImgV.cells).length = i * 3 := by rw [flatMap_len _ 3 len_imgI, List.length_take]; congr 1; omega
  have hdi : ((L.drop i).flatMap ImgV.cells).length = (n - i) * 3 := by rw [flatMap_len _ 3 len_imgI, List.length_drop, hl]
  have hCt : C.take (i * 3) = (L.take i).flatMap ImgV.cells := by
    rw [flat_takeE len_imgI L i (by omega), ← ht, List.take_take, Nat.min_eq_left (Nat.mul_le_mul_right _ (by omega))]
  have ones := ones_imgI L
  have hov : ∀ lb cb, (callFunc 147 #[.slice (some ⟨vb, 0, none⟩) 1 1, .slice (some ⟨g, (i + 1) * 3, none⟩) lb cb]).run Try.prog w = .ok (.value (.bool false)) w := fun lb cb => by
    rw [run_callFunc_extern Try.func147 (by kernel_rfl) (by kernel_rfl) (by kernel_rfl) (e := Extern.SlicesOverlaps.overlaps #[29, 29] #[4]) (by kernel_rfl),
      Lib.run_overlaps_apart w 29 4 58 Try.underlying29 3 Try.sizeOf58 ⟨vb, 0, none⟩ ⟨g, (i + 1) * 3, none⟩ 1 1 lb cb hne 58 58 3 C.length (blk_shape hx) (blk_shape hb) (by rw [hC]; omega) (hx.frozen 0) (hx.frozen 3)]
    rfl
  have hfit : (i + 1) * 3 + ((L.drop i).flatMap ImgV.cells).length ≤ C.length := by rw [hdi, hC]; omega
  obtain ⟨R1, hR1⟩ : ∃ R1, R1 = spl C ((i + 1) * 3) ((L.drop i).flatMap ImgV.cells) := ⟨_, rfl⟩
  have hcA : ∀ ty dc sc, (Builtin.copy_ #[29, 29] ty #[.slice (some ⟨g, (i + 1) * 3, none⟩) (n - i) dc, .slice (some ⟨g, i * 3, none⟩) (n + 1 - i) sc]).run Try.prog w.drew = .ok (goInt ((n - i : Nat) : Int)) (w.drew.setRow g R1.toArray) := fun ty dc sc => by
    have hm : Nat.min (n + 1 - i) (n - i) = n - i := Nat.min_eq_right (by omega)
    have hq := run_copyK (P := Try.prog) w.drew 29 29 ty 58 3 g ((i + 1) * 3) (n - i) dc ⟨g, i * 3, none⟩ (n + 1 - i) sc C 58 ((L.drop i).flatMap ImgV.cells) Try.underlying29 size_imgI hb (by rw [hm, hdi])
      (fun j v hj => by
        rw [addr_add]
        rw [flat_dropE len_imgI L i (by omega)] at hj
        exact blk_take (w := w.drew) hb ht _ j v hj)
      hfit (fun u hu => ones u (by obtain ⟨y, hy, hu2⟩ := List.mem_flatMap.1 hu; exact List.mem_flatMap.2 ⟨y, List.mem_of_mem_drop hy, hu2⟩))
    rw [hm, ← hR1] at hq
    exact hq
  have hb1 : Blk (w.drew.setRow g R1.toArray) g R1 58 := Blk.row (w := w.drew) hb R1
  have hx1 : Blk (w.drew.setRow g R1.toArray) vb x.cells 58 := Blk.rowFar (w := w.drew) hx hne R1
  have hR1l : R1.length = c * 3 := by rw [hR1, spl_len hfit, hC]
  have hfit2 : i * 3 + x.cells.length ≤ R1.length := by rw [len_imgI, hR1l]; omega
  obtain ⟨R2, hR2⟩ : ∃ R2, R2 = spl R1 (i * 3) x.cells := ⟨_, rfl⟩
  have hcB : ∀ ty dc, (Builtin.copy_ #[29, 29] ty #[.slice (some ⟨g, i * 3, none⟩) (n + 1 - i) dc, .slice (some ⟨vb, 0, none⟩) 1 1]).run Try.prog (w.drew.setRow g R1.toArray) = .ok (goInt 1) ((w.drew.setRow g R1.toArray).setRow g R2.toArray) := fun ty dc => by
    have hq := run_copyK (P := Try.prog) (w.drew.setRow g R1.toArray) 29 29 ty 58 3 g (i * 3) (n + 1 - i) dc ⟨vb, 0, none⟩ 1 1 R1 58 x.cells Try.underlying29 size_imgI hb1 (by rw [len_imgI, show Nat.min 1 (n + 1 - i) = 1 from Nat.min_eq_left (by omega)]) (fun j v hj => by rw [addr_add, Nat.zero_add]; exact hx1.cell hj) hfit2 (one_imgI x)
    rw [show Nat.min 1 (n + 1 - i) = 1 from Nat.min_eq_left (by omega), ← hR2] at hq
    exact hq
  have hR2l : R2.length = c * 3 := by rw [hR2, spl_len hfit2, hR1l]
  have hR2t : R2.take ((n + 1) * 3) = (L.take i ++ x :: L.drop i).flatMap ImgV.cells := by
    have e1 : R1.take (i * 3) = (L.take i).flatMap ImgV.cells := by rw [hR1, spl_take_lo hfit (by omega), hCt]
    have e2 : R1.drop (i * 3 + x.cells.length) = (L.drop i).flatMap ImgV.cells ++ C.drop ((i + 1) * 3 + ((L.drop i).flatMap ImgV.cells).length) := by
      rw [len_imgI, show i * 3 + 3 = (i + 1) * 3 by omega, hR1, spl_drop hfit]
    rw [hR2]
    unfold spl
    rw [e1, e2, ← List.append_assoc, List.take_left' (by simp only [List.length_append, hti, hdi, len_imgI]; omega), flat_ins, List.append_assoc]
  have HEND := Lib.hid (show OwnR ((w.drew.setRow g R1.toArray).setRow g R2.toArray) B 58 3 (.slice (some ⟨g, 0, none⟩) (n + 1) c) (n + 1) ((L.take i ++ x :: L.drop i).flatMap ImgV.cells) ∧ Below B w ((w.drew.setRow g R1.toArray).setRow g R2.toArray) ∧ w.grownBy ((w.drew.setRow g R1.toArray).setRow g R2.toArray) (some g) from by
    have g1 : w.grownBy (w.drew.setRow g R1.toArray) (some g) := ⟨rfl, rfl, rfl, by rw [setRow_size]; exact Nat.le_refl _, fun k _ hne => setRow_other w.drew g k R1.toArray (fun e => hne (by rw [e]))⟩
    have g2 := g1.trans (grownBy_setRow (w.drew.setRow g R1.toArray) g R2.toArray)
    exact ⟨own_of hBg (hb1.row R2) hroom hcm hR2l hR2t, (Below.refl B w).grown g2 hB (fun q hq => by cases hq; exact hBg), g2⟩)
  have HMV := Lib.hid (show Moved w (.slice (some ⟨g, 0, none⟩) n c) (.slice (some ⟨g, 0, none⟩) (n + 1) c) from fun q hq => .inl hq)
  clear hb hx hR2t hR2l hR1l hfit hfit2 hb1 hx1 hti hdi ones hR2 hR1 ht hCt
  unfold maxLen at hcm
  have hz2 : ¬ ((i : Int) = (n : Int)) := by omega
  have hz3 : ¬ (c : Int) < (n : Int) + 1 := by omega
  have hci : ¬ (c = i) := by omega
  have hcim : ¬ (c = i + 1) := by omega
  have hw1 : IntKind.i64.wrap ((i : Int) + 1) = (i : Int) + 1 := by rw [IntKind.wrap_i64]; omega
  have hw2 : IntKind.i64.wrap ((n : Int) + 1) = (n : Int) + 1 := by rw [IntKind.wrap_i64]; omega
  have hb1 : (0 : Int) ≤ (i : Int) + 1 := by omega
  have hb2 : (0 : Int) ≤ (n : Int) + 1 := by omega
  have hin : i ≤ n := by omega
  have htn : ((i : Int) + 1).toNat = i + 1 := by omega
  have htm : ((n : Int) + 1).toNat = n + 1 := by omega
  have hb3 : (i : Int) ≤ (n : Int) := by omega
  have hb4 : (i : Int) ≤ (n : Int) + 1 := by omega
  have hb5 : (n : Int) + 1 ≤ (c : Int) := by omega
  have mixed : Try.prog.follows Departure.mixedOrders = true := by kernel_rfl
  go_enter Try.func130, Try.ntmps130
  go_wp2_with (simp only [hov])
  go_region_law_o ((refine op_copyK rfl _ _ _ _ rfl _ _ (by simp [Act.eval, Act.put]) (by simp [Act.eval, Act.put]) (hcA 3 _ _) ?_))
  go_wp2
  go_ret
  exact ⟨_, rfl, HEND.out.1, HEND.out.2.1, HEND.out.2.2, HMV.out⟩
theorem ins_allImg (B n i : Nat) (v : Value) (L : List ImgV) (x : ImgV) (vb : Nat) (w : World) (ho : OwnR w B 58 3 v n (L.flatMap ImgV.cells)) (hl : L.length = n) (hn : n ≤ 100000) (hi : i ≤ n) (hx : Blk w vb x.cells 58) (hne : v.ownBlock ≠ some vb) (hB : B ≤ w.heap.size) :
    Calls Try.prog 130 #[v, .int .i64 (i : Int), .slice (some ⟨vb, 0, none⟩) 1 1] w fun e w' => ∃ v', e = .returned v' ∧ OwnR w' B 58 3 v' (n + 1) ((L.take i ++ x :: L.drop i).flatMap ImgV.cells) ∧ Below B w w' ∧ w.grownBy w' v.ownBlock ∧ Moved w v v' := by
  by_cases h : i = n
  · subst h
    refine (ins_endImg B i v L x vb w ho hl hn hx hB).mono ?_
    rintro e w' ⟨v', h1, h2, h3⟩
    refine ⟨v', h1, ?_, h3⟩
    rw [← hl, List.take_length, List.drop_length, hl]
    exact h2
  · rcases own_open ho with ⟨hv, h0, _⟩ | ⟨g, c, C, rfl, hBg, hb, h1, h2, h3, h4⟩
    · omega
    · by_cases hr : n + 1 ≤ c
      · exact ins_shiftImg B n i g c C L x vb w hb hBg h3 h4 hl hn (by omega) hr h2 hx (fun e => hne (by rw [e]; rfl)) hB
      · exact ins_growImg B n i g c C L x vb w hb hBg h3 h4 hl hn (by omega) h1 (by omega) hx hB
set_option maxRecDepth 100000 in
set_option maxHeartbeats 16000000 in
theorem cln_allImg (a : Option Addr) (n c : Nat) (L : List ImgV) (w : World) (hl : L.length = n) (hR : Row w a n c 3 (L.flatMap ImgV.cells)) (hn : n ≤ 100000) :
    Calls Try.prog 68 #[.slice a n c] w fun e w' => ∃ v', e = .returned v' ∧ OwnR w' w.heap.size 58 3 v' n (L.flatMap ImgV.cells) ∧ Below w.heap.size w w' := by
  cases a with
  | none =>
    obtain ⟨rfl, rfl⟩ := hR.2.2.2.1 rfl
    obtain rfl : L = [] := List.eq_nil_of_length_eq_zero hl
    have hnil := Lib.run_eql_slice_nil w 29 58 none 0 0 0 0 Try.underlying29
    clear hR
    go_enter Try.func68, Try.ntmps68
    go_wp2
    go_ret
    exact ⟨_, rfl, OwnR.nil _ _ _ _, Below.refl _ _⟩
  | some ad =>
    have HL := Lib.hid (hR.later (belAlloc (Below.refl _ _) (.cells #[] 58)))
    have HO := Lib.hid (own_empty w 58 3)
    have HONES := Lib.hid (ones_imgI L)
    clear hR
    have hnil := Lib.run_eql_slice_nil w 29 58 (some ad) n c 0 0 Try.underlying29
    go_enter Try.func68, Try.ntmps68
    go_wp2_with (at_builtin; refine wpList_app_row rfl _ _ 29 rfl w.heap.size 58 _ 3 32 Try.underlying29 info_imgI rfl (by decide) _ 0 [] rfl HO.out _ n c _ rfl HL.out HONES.out ?c1 ?c2 ?c3 ?_)
    case c1 => simp only [maxLen]; omega
    case c2 => omega
    case c3 => simp
    intro v' w2 ho' hb' hg'
    go_wp2
    go_ret
    exact ⟨_, rfl, by simpa using ho', (belAlloc (Below.refl _ _) _ : Below w.heap.size w (w.alloc _)).trans hb'⟩
end Go.Proofs.Ytcnjcldfbidkmaa
