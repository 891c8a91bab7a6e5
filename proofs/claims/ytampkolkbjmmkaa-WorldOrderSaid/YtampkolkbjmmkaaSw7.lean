
/- Stage 22: the order of containers, sorting; sweep.Lost, Dead, Extra: contracts. -/
import Derived.Test.YtampkolkbjmmkaaSw5
import Derived.Test.YtampkolkbjmmkaaSw6
namespace Go.Proofs.Ytampkolkbjmmkaa
open Go.RowKit Go.Sort
set_option linter.unusedVariables false
set_option linter.unusedSimpArgs false
def sortT (G : List ByteArray) : List ByteArray := ((G.map (·.toList)).mergeSort (fun x y => decide (x ≤ y))).map (fun l => ⟨l.toArray⟩)
theorem bA_lT (s : ByteArray) : (⟨s.toList.toArray⟩ : ByteArray) = s := by
  rw [ByteArray.toList_eq]
theorem enc_mapT (G : List ByteArray) : G.map Value.string = (G.map (·.toList)).map encStr := by
  rw [List.map_map]
  refine List.map_congr_left (fun s _ => ?_)
  show Value.string s = Value.string ⟨s.toList.toArray⟩
  rw [bA_lT]
theorem sortT_map (G : List ByteArray) : (sortT G).map Value.string = ((G.map (·.toList)).mergeSort (fun x y => decide (x ≤ y))).map encStr := by
  unfold sortT; rw [List.map_map]; rfl
theorem sortT_len (G : List ByteArray) : (sortT G).length = G.length := by
  unfold sortT; rw [List.length_map, List.length_mergeSort, List.length_map]
theorem sortT_self {G : List ByteArray} (h : G.Pairwise (fun a b => a.toList < b.toList)) : sortT G = G := by
  unfold sortT
  have hs : (G.map (·.toList)).Pairwise (fun x y => decide (x ≤ y) = true) := by
    rw [List.pairwise_map]
    exact h.imp (fun q => decide_eq_true (List.le_of_lt q))
  have e : (G.map (·.toList)).mergeSort (fun x y => decide (x ≤ y)) = G.map (·.toList) := List.mergeSort_of_pairwise hs
  rw [e, List.map_map]
  conv => rhs; rw [← List.map_id G]
  refine List.map_congr_left (fun s _ => ?_)
  show (⟨s.toList.toArray⟩ : ByteArray) = s
  rw [bA_lT]
set_option maxHeartbeats 4000000 in
theorem sort_texts {w : World} {B : Nat} {v : Value} {G : List ByteArray} (hl : G.length ≤ 200000) (h : OwnR w B 9 1 v G.length (G.map Value.string)) :
    Calls Try.prog 57 #[v] w fun e w' => e = .returned (.tuple #[]) ∧ OwnR w' B 9 1 v (sortT G).length ((sortT G).map Value.string) ∧ w.grownBy w' v.ownBlock := by
  have hh := h
  rcases h.2 with ⟨rfl, h0⟩ | ⟨g, cap, cur, rfl, hbase, hb, h1, h2, h3, h4⟩
  · have hnil : G = [] := List.eq_nil_of_length_eq_zero h0
    subst hnil
    refine (Try.slices_Sort_string_none none 0 w).mono ?_
    rintro e w' ⟨rfl, rfl⟩
    exact ⟨rfl, by rw [show sortT [] = [] by unfold sortT; simp]; exact hh, ⟨rfl, rfl, rfl, Nat.le_refl _, fun _ _ _ => rfl⟩⟩
  · rw [Nat.mul_one, enc_mapT] at h4
    have hc := Try.slices_Sort_string g 0 cap (G.map (·.toList)) w (holds_of_block hb (by rw [List.length_map]; exact h4)) (Array.getElem?_eq_some_iff.1 hb).1 (by rw [List.length_map]; omega)
    rw [List.length_map] at hc
    refine hc.mono ?_
    rintro e w' ⟨rfl, n, os, rfl⟩
    refine ⟨rfl, ?_, grownBy_sorted _⟩
    rw [sortT_map, sortT_len]
    have := ownsRow_sorted (w := w) (base := B) (g := g) (cap := cap) (n := n) (e := 9) (os := os) (cur := cur) (ss := G.map (·.toList)) (ts := (G.map (·.toList)).mergeSort fun x y => decide (x ≤ y)) (by rw [List.length_mergeSort]) hbase hb (by rw [List.length_map]; exact h1) h2 h3
    rw [List.length_map] at this
    exact this
def ContV.v (x : ContV) : Value := .agg #[.string x.id, .int .i64 x.state, .int .i64 x.tries, .int .i64 x.last]
theorem cmp_Or2 (a b : Int) (M : Nat) (w : World) (ha : InI a) (hb : InI b) (h0 : w.cell? ⟨M, 0, none⟩ = some (.int .i64 a)) (h1 : w.cell? ⟨M, 1, none⟩ = some (.int .i64 b)) :
    Calls Try.prog 61 #[.slice (some ⟨M, 0, none⟩) 2 2] w fun e w' => e = .returned (.int .i64 (orL [a, b])) ∧ w = w' := by
  refine cmp_OrL _ 2 2 [a, b] w ⟨⟨rfl, Nat.le_refl _, by unfold maxLen; omega, (fun h => by cases h), .inr ⟨M, 0, rfl, fun i hi => ?_⟩⟩, fun n hn => ?_⟩ (by omega)
  · rw [Nat.zero_add]
    match i, hi with
    | 0, _ => exact h0
    | 1, _ => exact h1
  · simp only [List.mem_cons, List.not_mem_nil, or_false] at hn
    rcases hn with rfl | rfl
    · exact wfI64 ha.1 ha.2
    · exact wfI64 hb.1 hb.2
theorem own_takeS {w : World} {B n k g cap m : Nat} {T : TypeId} {cs : List Value} (h : OwnR w B T k (.slice (some ⟨g, 0, none⟩) n cap) n cs) (hm : m ≤ n) : OwnR w B T k (.slice (some ⟨g, 0, none⟩) m cap) m (cs.take (m * k)) := by
  rcases own_open h with ⟨h0, _, _⟩ | ⟨g2, cap2, C, h0, hB, hb, h1, h2, h3, h4⟩
  · cases h0
  · simp only [Value.slice.injEq, Option.some.injEq, Addr.mk.injEq, and_true, true_and] at h0
    obtain ⟨rfl, rfl⟩ := h0
    refine own_of hB hb (by omega) h2 h3 ?_
    rw [← h4, List.take_take, Nat.min_eq_left (Nat.mul_le_mul_right k hm)]
theorem lost_eq {L : List ContV} (h : RisesC L) (U : List ByteArray) : sortT (((strayC L U).filter (fun x => !(!upB x))).map ContV.id) = lostC L U := by
  have e : (strayC L U).filter (fun x => !(!upB x)) = L.filter (lostB U) := by
    unfold strayC
    rw [List.filter_filter]
    congr 1
    funext x
    unfold lostB upB
    cases (x.state == 3) <;> cases hasU U x.id <;> rfl
  rw [e]
  unfold lostC
  refine sortT_self ?_
  rw [List.pairwise_map]
  exact (filt_risesC h _)
theorem dead_eq (L : List ContV) (U : List ByteArray) : (sortBy (ltOf cfC) ((strayC L U).filter (fun x => !upB x))).map ContV.id = deadC L U := by
  unfold deadC deadL strayC
  rw [List.filter_filter]
  rfl
theorem stray_le (L : List ContV) (U : List ByteArray) : (strayC L U).length ≤ L.length := List.length_filter_le _ _
theorem grown_below {w0 w w' : World} {B : Nat} {E : TypeId} {k n : Nat} {v : Value} {cs : List Value} (h : Below w0.heap.size w0 w) (hO : OwnR w B E k v n cs) (hB : w0.heap.size ≤ B) (hg : w.grownBy w' v.ownBlock) : Below w0.heap.size w0 w' :=
  h.grown hg h.size (fun j hj => Nat.le_trans hB (World.ownsRow.lt hO _ hj).1)
set_option maxRecDepth 100000 in
set_option maxHeartbeats 16000000 in
theorem sw_cmp (x y : ContV) (w : World) :
    Calls Try.prog 60 #[x.v, y.v] w fun e w' => e = .returned (.int .i64 (cfC x y)) ∧ GW w w' := by
  unfold ContV.v
  have C1 := Lib.hid (fun v => cmp_intI x.last y.last v)
  have C2 := Lib.hid (fun v => cmp_strS x.id y.id v)
  have hd : cfC x y = orL [cI x.last y.last, cS x.id y.id] := rfl
  have I1 := Lib.hid (cI_inI x.last y.last)
  have I2 := Lib.hid (cS_inI x.id y.id)
  generalize cI x.last y.last = c1 at *
  generalize cS x.id y.id = c2 at *
  generalize cfC x y = c at *
  have HD := Lib.hid hd
  clear hd
  have hw : Below w.heap.size w w := Below.refl _ _
  have hbel := hw
  have HG := Lib.hid (show GW w ((w.alloc (.cells #[.string x.id, .int .i64 x.state, .int .i64 x.tries, .int .i64 x.last] 35)).alloc (.cells #[.string y.id, .int .i64 y.state, .int .i64 y.tries, .int .i64 y.last] 35)) from ((GW.refl w).alloc _).alloc _)
  go_enter Try.func60, Try.ntmps60
  go_upto_region 1 with fail
  have a0 : ((w.alloc (.cells #[.string x.id, .int .i64 x.state, .int .i64 x.tries, .int .i64 x.last] 35)).alloc (.cells #[.string y.id, .int .i64 y.state, .int .i64 y.tries, .int .i64 y.last] 35)).cell? ⟨w.heap.size, 0, none⟩ = some (.string x.id) := by first | (simp; done) | (rw [World.cell?_alloc_at _ _ _ _ (by simp)]; rfl) | (rw [World.cell?_alloc_past _ _ _ (by simp <;> omega), World.cell?_alloc_at _ _ _ _ (by simp)]; rfl) | (rw [World.cell?_alloc_past _ _ _ (by simp <;> omega), World.cell?_alloc_past _ _ _ (by simp <;> omega), World.cell?_alloc_at _ _ _ _ (by simp)]; rfl)
  have a1 : ((w.alloc (.cells #[.string x.id, .int .i64 x.state, .int .i64 x.tries, .int .i64 x.last] 35)).alloc (.cells #[.string y.id, .int .i64 y.state, .int .i64 y.tries, .int .i64 y.last] 35)).cell? ⟨w.heap.size, 1, none⟩ = some (.int .i64 x.state) := by first | (simp; done) | (rw [World.cell?_alloc_at _ _ _ _ (by simp)]; rfl) | (rw [World.cell?_alloc_past _ _ _ (by simp <;> omega), World.cell?_alloc_at _ _ _ _ (by simp)]; rfl) | (rw [World.cell?_alloc_past _ _ _ (by simp <;> omega), World.cell?_alloc_past _ _ _ (by simp <;> omega), World.cell?_alloc_at _ _ _ _ (by simp)]; rfl)
  have a2 : ((w.alloc (.cells #[.string x.id, .int .i64 x.state, .int .i64 x.tries, .int .i64 x.last] 35)).alloc (.cells #[.string y.id, .int .i64 y.state, .int .i64 y.tries, .int .i64 y.last] 35)).cell? ⟨w.heap.size, 2, none⟩ = some (.int .i64 x.tries) := by first | (simp; done) | (rw [World.cell?_alloc_at _ _ _ _ (by simp)]; rfl) | (rw [World.cell?_alloc_past _ _ _ (by simp <;> omega), World.cell?_alloc_at _ _ _ _ (by simp)]; rfl) | (rw [World.cell?_alloc_past _ _ _ (by simp <;> omega), World.cell?_alloc_past _ _ _ (by simp <;> omega), World.cell?_alloc_at _ _ _ _ (by simp)]; rfl)
  have a3 : ((w.alloc (.cells #[.string x.id, .int .i64 x.state, .int .i64 x.tries, .int .i64 x.last] 35)).alloc (.cells #[.string y.id, .int .i64 y.state, .int .i64 y.tries, .int .i64 y.last] 35)).cell? ⟨w.heap.size, 3, none⟩ = some (.int .i64 x.last) := by first | (simp; done) | (rw [World.cell?_alloc_at _ _ _ _ (by simp)]; rfl) | (rw [World.cell?_alloc_past _ _ _ (by simp <;> omega), World.cell?_alloc_at _ _ _ _ (by simp)]; rfl) | (rw [World.cell?_alloc_past _ _ _ (by simp <;> omega), World.cell?_alloc_past _ _ _ (by simp <;> omega), World.cell?_alloc_at _ _ _ _ (by simp)]; rfl)
  have b0 : ((w.alloc (.cells #[.string x.id, .int .i64 x.state, .int .i64 x.tries, .int .i64 x.last] 35)).alloc (.cells #[.string y.id, .int .i64 y.state, .int .i64 y.tries, .int .i64 y.last] 35)).cell? ⟨w.heap.size + 1, 0, none⟩ = some (.string y.id) := by first | (simp; done) | (rw [World.cell?_alloc_at _ _ _ _ (by simp)]; rfl) | (rw [World.cell?_alloc_past _ _ _ (by simp <;> omega), World.cell?_alloc_at _ _ _ _ (by simp)]; rfl) | (rw [World.cell?_alloc_past _ _ _ (by simp <;> omega), World.cell?_alloc_past _ _ _ (by simp <;> omega), World.cell?_alloc_at _ _ _ _ (by simp)]; rfl)
  have b1 : ((w.alloc (.cells #[.string x.id, .int .i64 x.state, .int .i64 x.tries, .int .i64 x.last] 35)).alloc (.cells #[.string y.id, .int .i64 y.state, .int .i64 y.tries, .int .i64 y.last] 35)).cell? ⟨w.heap.size + 1, 1, none⟩ = some (.int .i64 y.state) := by first | (simp; done) | (rw [World.cell?_alloc_at _ _ _ _ (by simp)]; rfl) | (rw [World.cell?_alloc_past _ _ _ (by simp <;> omega), World.cell?_alloc_at _ _ _ _ (by simp)]; rfl) | (rw [World.cell?_alloc_past _ _ _ (by simp <;> omega), World.cell?_alloc_past _ _ _ (by simp <;> omega), World.cell?_alloc_at _ _ _ _ (by simp)]; rfl)
  have b2 : ((w.alloc (.cells #[.string x.id, .int .i64 x.state, .int .i64 x.tries, .int .i64 x.last] 35)).alloc (.cells #[.string y.id, .int .i64 y.state, .int .i64 y.tries, .int .i64 y.last] 35)).cell? ⟨w.heap.size + 1, 2, none⟩ = some (.int .i64 y.tries) := by first | (simp; done) | (rw [World.cell?_alloc_at _ _ _ _ (by simp)]; rfl) | (rw [World.cell?_alloc_past _ _ _ (by simp <;> omega), World.cell?_alloc_at _ _ _ _ (by simp)]; rfl) | (rw [World.cell?_alloc_past _ _ _ (by simp <;> omega), World.cell?_alloc_past _ _ _ (by simp <;> omega), World.cell?_alloc_at _ _ _ _ (by simp)]; rfl)
  have b3 : ((w.alloc (.cells #[.string x.id, .int .i64 x.state, .int .i64 x.tries, .int .i64 x.last] 35)).alloc (.cells #[.string y.id, .int .i64 y.state, .int .i64 y.tries, .int .i64 y.last] 35)).cell? ⟨w.heap.size + 1, 3, none⟩ = some (.int .i64 y.last) := by first | (simp; done) | (rw [World.cell?_alloc_at _ _ _ _ (by simp)]; rfl) | (rw [World.cell?_alloc_past _ _ _ (by simp <;> omega), World.cell?_alloc_at _ _ _ _ (by simp)]; rfl) | (rw [World.cell?_alloc_past _ _ _ (by simp <;> omega), World.cell?_alloc_past _ _ _ (by simp <;> omega), World.cell?_alloc_at _ _ _ _ (by simp)]; rfl)
  have hb2 := (by repeat (first | exact hbel | refine belAlloc ?_ _ | refine belDrew ?_ | refine belSet ?_ _ _ (by simp)) : Below w.heap.size w ((w.alloc (.cells #[.string x.id, .int .i64 x.state, .int .i64 x.tries, .int .i64 x.last] 35)).alloc (.cells #[.string y.id, .int .i64 y.state, .int .i64 y.tries, .int .i64 y.last] 35)))
  replace hw := belStep hw hb2
  clear hb2 hbel
  generalize (w.alloc (.cells #[.string x.id, .int .i64 x.state, .int .i64 x.tries, .int .i64 x.last] 35)).alloc (.cells #[.string y.id, .int .i64 y.state, .int .i64 y.tries, .int .i64 y.last] 35) = W1 at *
  replace a0 := keep a0
  replace a1 := keep a1
  replace a2 := keep a2
  replace a3 := keep a3
  replace b0 := keep b0
  replace b1 := keep b1
  replace b2 := keep b2
  replace b3 := keep b3
  have hbel : Below W1.heap.size W1 W1 := Below.refl _ _
  skip
  have a0g := fun u (h : GW W1 u) => a0 u h.below
  have a3g := fun u (h : GW W1 u) => a3 u h.below
  have b0g := fun u (h : GW W1 u) => b0 u h.below
  have b3g := fun u (h : GW W1 u) => b3 u h.below
  clear a0 a1 a2 a3 b0 b1 b2 b3 hw hbel
  refine wp_region_held_drew (S := (fun u => GW W1 u)) (by kernel_rfl) (by exact (show GW W1 _ from by repeat (first | assumption | exact GW.refl _ | refine GW.drew ?_ | refine GW.alloc ?_ _))) (fun hHeld => ?_)
  refine wpAnyH_take (i := 0) (oi := ?oi_1) (v := ?v_1) ?hi_1 (by kernel_rfl) ?hf_1 ?hr_1 ?hQ_1 (Or.inl ⟨?hw_1, ?hy_1⟩) (by assumption) ?rest_1
  case hi_1 => ((simp only [List.getElem?_toArray, List.getElem?_cons_succ, List.getElem?_cons_zero]); rfl)
  case hf_1 => kernel_rfl
  case hr_1 => kernel_rfl
  case hQ_1 => exact fun _ _ _ h => h
  case hw_1 => rfl
  case hy_1 => ((intro w hSw; (try dsimp only at hSw); go_simp); all_goals (with_reducible rfl))
  try simp only [Act.put, List.setIfInBounds_toArray, List.set_cons_zero, List.set_cons_succ]
  refine wpAnyH_take (i := 1) (oi := ?oi_2) (v := ?v_2) ?hi_2 (by kernel_rfl) ?hf_2 ?hr_2 ?hQ_2 (Or.inl ⟨?hw_2, ?hy_2⟩) (by assumption) ?rest_2
  case hi_2 => ((simp only [List.getElem?_toArray, List.getElem?_cons_succ, List.getElem?_cons_zero]); rfl)
  case hf_2 => kernel_rfl
  case hr_2 => kernel_rfl
  case hQ_2 => exact fun _ _ _ h => h
  case hw_2 => rfl
  case hy_2 => ((intro w hSw; (try dsimp only at hSw); go_simp); all_goals (with_reducible rfl))
  try simp only [Act.put, List.setIfInBounds_toArray, List.set_cons_zero, List.set_cons_succ]
  refine wpAnyH_take (i := 2) (oi := ?oi_3) (v := ?v_3) ?hi_3 (by kernel_rfl) ?hf_3 ?hr_3 ?hQ_3 (Or.inl ⟨?hw_3, ?hy_3⟩) (by assumption) ?rest_3
  case hi_3 => ((simp only [List.getElem?_toArray, List.getElem?_cons_succ, List.getElem?_cons_zero]); rfl)
  case hf_3 => kernel_rfl
  case hr_3 => kernel_rfl
  case hQ_3 => exact fun _ _ _ h => h
  case hw_3 => rfl
  case hy_3 => ((intro w hSw; (try dsimp only at hSw); go_simp); all_goals (with_reducible rfl))
  try simp only [Act.put, List.setIfInBounds_toArray, List.set_cons_zero, List.set_cons_succ]
  refine wpAnyH_take (i := 3) (oi := ?oi_4) (v := ?v_4) ?hi_4 (by kernel_rfl) ?hf_4 ?hr_4 ?hQ_4 (Or.inl ⟨?hw_4, ?hy_4⟩) (by assumption) ?rest_4
  case hi_4 => ((simp only [List.getElem?_toArray, List.getElem?_cons_succ, List.getElem?_cons_zero]); rfl)
  case hf_4 => kernel_rfl
  case hr_4 => kernel_rfl
  case hQ_4 => exact fun _ _ _ h => h
  case hw_4 => rfl
  case hy_4 => ((intro w hSw; (try dsimp only at hSw); go_simp); all_goals (with_reducible rfl))
  try simp only [Act.put, List.setIfInBounds_toArray, List.set_cons_zero, List.set_cons_succ]
  refine wpAnyH_take (i := 5) (oi := ?oi_5) (v := ?v_5) ?hi_5 (by kernel_rfl) ?hf_5 ?hr_5 ?hQ_5 (Or.inl ⟨?hw_5, ?hy_5⟩) (by assumption) ?rest_5
  case hi_5 => ((simp only [List.getElem?_toArray, List.getElem?_cons_succ, List.getElem?_cons_zero]); rfl)
  case hf_5 => kernel_rfl
  case hr_5 => kernel_rfl
  case hQ_5 => exact fun _ _ _ h => h
  case hw_5 => rfl
  case hy_5 => ((intro w hSw; (try dsimp only at hSw); go_simp); all_goals (with_reducible rfl))
  try simp only [Act.put, List.setIfInBounds_toArray, List.set_cons_zero, List.set_cons_succ]
  refine wpAnyH_take (i := 6) (oi := ?oi_6) (v := ?v_6) ?hi_6 (by kernel_rfl) ?hf_6 ?hr_6 ?hQ_6 (Or.inl ⟨?hw_6, ?hy_6⟩) (by assumption) ?rest_6
  case hi_6 => ((simp only [List.getElem?_toArray, List.getElem?_cons_succ, List.getElem?_cons_zero]); rfl)
  case hf_6 => kernel_rfl
  case hr_6 => kernel_rfl
  case hQ_6 => exact fun _ _ _ h => h
  case hw_6 => rfl
  case hy_6 => ((intro w hSw; (try dsimp only at hSw); go_simp); all_goals (with_reducible rfl))
  try simp only [Act.put, List.setIfInBounds_toArray, List.set_cons_zero, List.set_cons_succ]
  refine wpAnyH_take (i := 7) (oi := ?oi_7) (v := ?v_7) ?hi_7 (by kernel_rfl) ?hf_7 ?hr_7 ?hQ_7 (Or.inl ⟨?hw_7, ?hy_7⟩) (by assumption) ?rest_7
  case hi_7 => ((simp only [List.getElem?_toArray, List.getElem?_cons_succ, List.getElem?_cons_zero]); rfl)
  case hf_7 => kernel_rfl
  case hr_7 => kernel_rfl
  case hQ_7 => exact fun _ _ _ h => h
  case hw_7 => rfl
  case hy_7 => ((intro w hSw; (try dsimp only at hSw); go_simp); all_goals (with_reducible rfl))
  try simp only [Act.put, List.setIfInBounds_toArray, List.set_cons_zero, List.set_cons_succ]
  refine wpAnyH_take (i := 8) (oi := ?oi_8) (v := ?v_8) ?hi_8 (by kernel_rfl) ?hf_8 ?hr_8 ?hQ_8 (Or.inl ⟨?hw_8, ?hy_8⟩) (by assumption) ?rest_8
  case hi_8 => ((simp only [List.getElem?_toArray, List.getElem?_cons_succ, List.getElem?_cons_zero]); rfl)
  case hf_8 => kernel_rfl
  case hr_8 => kernel_rfl
  case hQ_8 => exact fun _ _ _ h => h
  case hw_8 => rfl
  case hy_8 => ((intro w hSw; (try dsimp only at hSw); go_simp); all_goals (with_reducible rfl))
  try simp only [Act.put, List.setIfInBounds_toArray, List.set_cons_zero, List.set_cons_succ]
  refine wpAnyH_ready (rs := [4]) (by kernel_rfl) (by simp) ?_
  refine AllReadyH.cons (o := ?o1_9) ?hi_9 (fun K hK => ?rest_9) AllReadyH.nil
  case hi_9 => ((simp only [List.getElem?_toArray, List.getElem?_cons_succ, List.getElem?_cons_zero]); rfl)
  go_simp
  (first | (go_at_call 62; (with_reducible refine (C1.out _).mono ?_); rintro e w2 ⟨rfl, rfl⟩) | (go_at_call 63; (with_reducible refine (C2.out _).mono ?_); rintro e w2 ⟨rfl, rfl⟩) | (go_at_call 61; (with_reducible refine (cmp_Or2 c1 c2 _ _ I1.out I2.out (by simp) (by simp)).mono ?_); rintro e w2 ⟨rfl, rfl⟩))
  try go_simp
  refine hK.out _ _ (by exact (show GW W1 _ from by repeat (first | assumption | exact GW.refl _ | refine GW.drew ?_ | refine GW.alloc ?_ _))) (fun hHeld => ?_)
  clear hK K
  try simp only [Act.put, List.setIfInBounds_toArray, List.set_cons_zero, List.set_cons_succ]
  refine wpAnyH_ready (rs := [9]) (by kernel_rfl) (by simp) ?_
  refine AllReadyH.cons (o := ?o1_10) ?hi_10 (fun K hK => ?rest_10) AllReadyH.nil
  case hi_10 => ((simp only [List.getElem?_toArray, List.getElem?_cons_succ, List.getElem?_cons_zero]); rfl)
  go_simp
  (first | (go_at_call 62; (with_reducible refine (C1.out _).mono ?_); rintro e w2 ⟨rfl, rfl⟩) | (go_at_call 63; (with_reducible refine (C2.out _).mono ?_); rintro e w2 ⟨rfl, rfl⟩) | (go_at_call 61; (with_reducible refine (cmp_Or2 c1 c2 _ _ I1.out I2.out (by simp) (by simp)).mono ?_); rintro e w2 ⟨rfl, rfl⟩))
  try go_simp
  refine hK.out _ _ (by exact (show GW W1 _ from by repeat (first | assumption | exact GW.refl _ | refine GW.drew ?_ | refine GW.alloc ?_ _))) (fun hHeld => ?_)
  clear hK K
  try simp only [Act.put, List.setIfInBounds_toArray, List.set_cons_zero, List.set_cons_succ]
  refine wpAnyH_ready (rs := [10]) (by kernel_rfl) (by simp) ?_
  refine AllReadyH.cons (o := ?o1_11) ?hi_11 (fun K hK => ?rest_11) AllReadyH.nil
  case hi_11 => ((simp only [List.getElem?_toArray, List.getElem?_cons_succ, List.getElem?_cons_zero]); rfl)
  go_simp
  refine hK.out _ _ (by exact (show GW W1 _ from by repeat (first | assumption | exact GW.refl _ | refine GW.drew ?_ | refine GW.alloc ?_ _))) (fun hHeld => ?_)
  clear hK K
  try simp only [Act.put, List.setIfInBounds_toArray, List.set_cons_zero, List.set_cons_succ]
  refine wpAnyH_ready (rs := [11]) (by kernel_rfl) (by simp) ?_
  refine AllReadyH.cons (o := ?o1_12) ?hi_12 (fun K hK => ?rest_12) AllReadyH.nil
  case hi_12 => ((simp only [List.getElem?_toArray, List.getElem?_cons_succ, List.getElem?_cons_zero]); rfl)
  go_simp
  (first | (go_at_call 62; (with_reducible refine (C1.out _).mono ?_); rintro e w2 ⟨rfl, rfl⟩) | (go_at_call 63; (with_reducible refine (C2.out _).mono ?_); rintro e w2 ⟨rfl, rfl⟩) | (go_at_call 61; (with_reducible refine (cmp_Or2 c1 c2 _ _ I1.out I2.out (by simp) (by simp)).mono ?_); rintro e w2 ⟨rfl, rfl⟩))
  try go_simp
  refine hK.out _ _ (by exact (show GW W1 _ from by repeat (first | assumption | exact GW.refl _ | refine GW.drew ?_ | refine GW.alloc ?_ _))) (fun hHeld => ?_)
  clear hK K
  try simp only [Act.put, List.setIfInBounds_toArray, List.set_cons_zero, List.set_cons_succ]
  refine wpAnyH_take (i := 12) (oi := ?oi_13) (v := ?v_13) ?hi_13 (by kernel_rfl) ?hf_13 ?hr_13 ?hQ_13 (Or.inl ⟨?hw_13, ?hy_13⟩) (by assumption) ?rest_13
  case hi_13 => ((simp only [List.getElem?_toArray, List.getElem?_cons_succ, List.getElem?_cons_zero]); rfl)
  case hf_13 => kernel_rfl
  case hr_13 => kernel_rfl
  case hQ_13 => exact fun _ _ _ h => h
  case hw_13 => rfl
  case hy_13 => ((intro w hSw; (try dsimp only at hSw); go_simp); all_goals (with_reducible rfl))
  try simp only [Act.put, List.setIfInBounds_toArray, List.set_cons_zero, List.set_cons_succ]
  refine wpAnyH_done (by kernel_rfl) ?_ _
  go_wp2
  go_ret
  exact ⟨by rw [HD.out] <;> rfl, HG.out.trans hHeld⟩
theorem sort_conts {w : World} {B : Nat} {v : Value} {n : Nat} {L : List ContV} (hd : Tied (ltOf cfC) L) (hl : L.length ≤ 100000) (h : OwnR w B 35 4 v n (L.flatMap ContV.cells)) (hn : L.length = n) :
    Calls Try.prog 59 #[v, .func (.func 60) #[] #[]] w fun e w' => e = .returned (.tuple #[]) ∧ OwnR w' B 35 4 v n ((sortBy (ltOf cfC) L).flatMap ContV.cells) ∧ w.grownBy w' v.ownBlock := by
  rcases own_sort ContV.cells 4 ContV.cells_len h hn with ⟨rfl, h0⟩ | ⟨g, cap, rfl, hB, hg, hH, hO, hG⟩
  · subst h0
    have hnil : L = [] := List.eq_nil_of_length_eq_zero hn
    subst hnil
    refine (Try.slices_SortFunc_none_f59 (α := ContV) none 0 (.func (.func 60) #[] #[]) w).mono ?_
    rintro e w' ⟨rfl, rfl⟩
    exact ⟨rfl, by rw [show sortBy (ltOf cfC) [] = [] from sortBy_nil]; exact h, ⟨rfl, rfl, rfl, Nat.le_refl _, fun _ _ _ => rfl⟩⟩
  · have eg : ∀ args w, (callFunc 60 args).run Try.prog w = .ok (.enter 60 args) w := enters_of Try.func60 (by kernel_rfl) rfl
    have hc := Try.slices_SortFunc_f59 4 Try.isAgg35 Try.sizeOf35 ContV.cells ContV.cells_len (fun x => cont_one x) cfC (swo_cfC) 60 #[] g 0 cap L.toArray w eg (fun _ _ _ _ x y => (sw_cmp x y _).mono fun _ _ ⟨h1, h2⟩ => ⟨h1, h2⟩) hH hg (by simp; omega)
    rw [show L.toArray.size = n by simpa using hn] at hc
    refine hc.mono ?_
    rintro e w' ⟨rfl, d', m, os, hp, hs, rfl⟩
    have hsz : d'.size = n := by have := hp.1; simpa [hn] using this
    have hperm : d'.toList.Perm L := by
      have h3 := hp.2.2
      rw [← hn, show L.length = L.toArray.size by simp, Array.extract_size, show L.toArray.size = d'.size by simp [hsz, hn], Array.extract_size] at h3
      exact h3
    have hpw : d'.toList.Pairwise (fun x y => ltOf cfC y x = false) := by
      rw [List.pairwise_iff_getElem]
      intro i j hi hj hij
      have hi' : i < d'.size := by simpa using hi
      have hj' : j < d'.size := by simpa using hj
      have := hs i j (Nat.zero_le _) hij (by omega)
      rw [getElem!_pos d' j hj', getElem!_pos d' i hi'] at this
      simpa using this
    have he : d'.toList = sortBy (ltOf cfC) L := sortBy_unique (swo_cfC) hd hperm hpw
    have hda : d' = (sortBy (ltOf cfC) L).toArray := by rw [← he]
    subst hda
    exact ⟨rfl, hO m (sortBy (ltOf cfC) L) os (by rw [show (sortBy (ltOf cfC) L).length = L.length from sortBy_len _ _]; exact hn), hG m _ os⟩
set_option maxRecDepth 100000 in
set_option maxHeartbeats 16000000 in
theorem sw_Lost (a : Option Addr) (len cap : Nat) (L : List ContV) (b : Option Addr) (ul uc : Nat) (U : List ByteArray) (w : World) (hl : L.length = len) (hR : Row w a len cap 4 (L.flatMap ContV.cells)) (hu : U.length = ul) (hRU : Row w b ul uc 1 (U.map Value.string)) (huk : ∀ s ∈ U, s.size ≤ maxLen) (hok : ∀ x ∈ L, x.ok) (hrc : RisesC L) (hn : len ≤ 1000) (hn2 : ul ≤ 100000) :
    Calls Try.prog 23 #[.slice a len cap, .slice b ul uc] w fun e w' => ∃ v, e = .returned v ∧ OwnR w' w.heap.size 9 1 v (lostC L U).length ((lostC L U).map Value.string) ∧ Below w.heap.size w w' := by
  have hw : Below w.heap.size w w := Below.refl _ _
  have CS := Lib.hid (sw_strays a len cap L b ul uc U w hl hR hu hRU huk hok (by omega) hn2)
  have hsl := stray_le L U
  rw [hl] at hsl
  clear hR hRU huk hok hl hu
  have HRES := Lib.hid (lost_eq hrc U)
  clear hrc
  obtain ⟨S0, hS0⟩ : ∃ S0, strayC L U = S0 := ⟨_, rfl⟩
  rw [hS0] at CS hsl HRES
  clear hS0
  have hfl := List.length_filter_le (fun x => !(!upB x)) S0
  obtain ⟨S1, hS1⟩ : ∃ S1, S0.filter (fun x => !(!upB x)) = S1 := ⟨_, rfl⟩
  have HS1 := Lib.hid hS1
  rw [hS1] at HRES hfl
  have CDL : ∀ (v : Value) (u : World), OwnR u w.heap.size 35 4 v S0.length (S0.flatMap ContV.cells) → w.heap.size ≤ u.heap.size → Calls Try.prog 54 #[v, .func (.func 56) #[] #[]] u (fun e w' => ∃ v', e = .returned v' ∧ OwnR w' w.heap.size 35 4 v' S1.length (S1.flatMap ContV.cells) ∧ Below w.heap.size u w') := fun v u ho hB => by have h := sw_Delete_down w.heap.size S0.length v S0 u ho rfl (by omega) hB; rw [hS1] at h; exact h
  clear hS1
  go_enter Try.func23, Try.ntmps23
  go_upto_region 2 with (first | (go_at_call 55; (with_reducible refine (CS.out).mono ?_); rintro e w1 ⟨v1, rfl, ho1, hb1⟩; have HO1 := Lib.hid ho1; have HB1 := Lib.hid hb1; clear ho1 hb1) | (go_at_call 54; (with_reducible refine (CDL v1 w1 HO1.out HB1.out.size).mono ?_); rintro e w2 ⟨v2, rfl, ho2, hb2⟩; obtain ⟨a2, c2, rfl, hr2⟩ := rowR_of_own ho2; have HO2 := Lib.hid ho2; have HR2 := Lib.hid hr2; have HB2 := Lib.hid (HB1.out.trans hb2); clear ho2 hb2 hr2) | (go_at_call 53; (with_reducible refine (sw_ids a2 _ c2 S1 w2 rfl HR2.out (by omega)).mono ?_); rintro e w3 ⟨v3, rfl, ho3, hb3⟩; have HO3 := Lib.hid ho3; have HB3 := Lib.hid (belStep HB2.out hb3); clear ho3 hb3))
  have CT := Lib.hid (sort_texts (by rw [List.length_map]; omega) HO3.out)
  go_wp2_with (go_at_call 57; (with_reducible refine (CT.out).mono ?_); rintro e w4 ⟨rfl, ho4, hg4⟩)
  go_ret
  exact ⟨_, rfl, by rw [← HRES.out]; exact OwnR.mono ho4 HB2.out.size, grown_below HB3.out HO3.out HB2.out.size hg4⟩
set_option maxRecDepth 100000 in
set_option maxHeartbeats 16000000 in
theorem sw_Dead (a : Option Addr) (len cap : Nat) (L : List ContV) (b : Option Addr) (ul uc : Nat) (U : List ByteArray) (w : World) (hl : L.length = len) (hR : Row w a len cap 4 (L.flatMap ContV.cells)) (hu : U.length = ul) (hRU : Row w b ul uc 1 (U.map Value.string)) (huk : ∀ s ∈ U, s.size ≤ maxLen) (hok : ∀ x ∈ L, x.ok) (hrc : RisesC L) (hn : len ≤ 1000) (hn2 : ul ≤ 100000) :
    Calls Try.prog 25 #[.slice a len cap, .slice b ul uc] w fun e w' => ∃ v, e = .returned v ∧ OwnR w' w.heap.size 9 1 v (deadC L U).length ((deadC L U).map Value.string) ∧ Below w.heap.size w w' := by
  have hw : Below w.heap.size w w := Below.refl _ _
  have CS := Lib.hid (sw_strays a len cap L b ul uc U w hl hR hu hRU huk hok (by omega) hn2)
  have hsl := stray_le L U
  rw [hl] at hsl
  clear hR hRU huk hok hl hu
  have HRES := Lib.hid (dead_eq L U)
  have HTD := Lib.hid (tied_cfC (filt_risesC (filt_risesC hrc (fun x => !hasU U x.id)) (fun x => !upB x)))
  clear hrc
  obtain ⟨S0, hS0⟩ : ∃ S0, strayC L U = S0 := ⟨_, rfl⟩
  rw [show L.filter (fun x => !hasU U x.id) = S0 from hS0] at HTD; rw [hS0] at CS hsl HRES
  clear hS0
  have hfl := List.length_filter_le (fun x => !upB x) S0
  obtain ⟨S1, hS1⟩ : ∃ S1, S0.filter (fun x => !upB x) = S1 := ⟨_, rfl⟩
  have HS1 := Lib.hid hS1
  rw [hS1] at HRES hfl HTD
  have CDL : ∀ (v : Value) (u : World), OwnR u w.heap.size 35 4 v S0.length (S0.flatMap ContV.cells) → w.heap.size ≤ u.heap.size → Calls Try.prog 54 #[v, .func (.func 58) #[] #[]] u (fun e w' => ∃ v', e = .returned v' ∧ OwnR w' w.heap.size 35 4 v' S1.length (S1.flatMap ContV.cells) ∧ Below w.heap.size u w') := fun v u ho hB => by have h := sw_Delete_up w.heap.size S0.length v S0 u ho rfl (by omega) hB; rw [hS1] at h; exact h
  clear hS1
  have hsl2 : (sortBy (ltOf cfC) S1).length = S1.length := sortBy_len _ _
  go_enter Try.func25, Try.ntmps25
  go_upto_region 2 with (first | (go_at_call 55; (with_reducible refine (CS.out).mono ?_); rintro e w1 ⟨v1, rfl, ho1, hb1⟩; have HO1 := Lib.hid ho1; have HB1 := Lib.hid hb1; clear ho1 hb1) | (go_at_call 54; (with_reducible refine (CDL v1 w1 HO1.out HB1.out.size).mono ?_); rintro e w2 ⟨v2, rfl, ho2, hb2⟩; obtain ⟨a2, c2, rfl, hr2⟩ := rowR_of_own ho2; have HO2 := Lib.hid ho2; have HR2 := Lib.hid hr2; have HB2 := Lib.hid (HB1.out.trans hb2); clear ho2 hb2 hr2))
  have CT := Lib.hid (sort_conts HTD.out (by omega) HO2.out rfl)
  go_upto_region 3 with (go_at_call 59; (with_reducible refine (CT.out).mono ?_); rintro e w3 ⟨rfl, ho3, hg3⟩; have HB3 := Lib.hid (grown_below HB2.out HO2.out (Nat.le_refl _) hg3); have HO3 := Lib.hid ho3; clear ho3 hg3)
  obtain ⟨a3, c3, e3, hr3⟩ := rowR_of_own HO3.out
  simp only [Value.slice.injEq] at e3
  obtain ⟨rfl, _, rfl⟩ := e3
  have CI := Lib.hid (sw_ids a2 _ c2 (sortBy (ltOf cfC) S1) w3 hsl2 hr3 (by omega))
  clear hr3
  go_wp2_with (go_at_call 53; (with_reducible refine (CI.out).mono ?_); rintro e w4 ⟨v4, rfl, ho4, hb4⟩)
  go_ret
  exact ⟨_, rfl, by rw [← HRES.out]; exact OwnR.mono ho4 HB3.out.size, belStep HB3.out hb4⟩
set_option maxRecDepth 100000 in
set_option maxHeartbeats 16000000 in
theorem sw_Extra (a : Option Addr) (len cap : Nat) (L : List ContV) (b : Option Addr) (ul uc : Nat) (U : List ByteArray) (kp : Int) (w : World) (hl : L.length = len) (hR : Row w a len cap 4 (L.flatMap ContV.cells)) (hu : U.length = ul) (hRU : Row w b ul uc 1 (U.map Value.string)) (huk : ∀ s ∈ U, s.size ≤ maxLen) (hok : ∀ x ∈ L, x.ok) (hrc : RisesC L) (hn : len ≤ 1000) (hn2 : ul ≤ 100000) (hki : InI kp) :
    Calls Try.prog 27 #[.slice a len cap, .slice b ul uc, .int .i64 kp] w fun e w' => ∃ v, e = .returned v ∧ OwnR w' w.heap.size 9 1 v (extraT (deadC L U) kp).length ((extraT (deadC L U) kp).map Value.string) ∧ Below w.heap.size w w' := by
  have hw : Below w.heap.size w w := Below.refl _ _
  have CD := Lib.hid (sw_Dead a len cap L b ul uc U w hl hR hu hRU huk hok hrc hn hn2)
  have hdl := dead_le L U
  rw [hl] at hdl
  clear hR hRU hrc hl hu huk hok
  obtain ⟨D, hD⟩ : ∃ D, deadC L U = D := ⟨_, rfl⟩
  rw [hD] at CD hdl ⊢
  clear hD
  have hD60 : D.length ≤ 1000 := by omega
  clear hdl
  unfold InI at hki
  obtain ⟨kn, hkn⟩ : ∃ kn : Nat, (kn : Int) = max kp 0 := ⟨(max kp 0).toNat, by omega⟩
  obtain ⟨m, hm⟩ : ∃ m : Nat, (m : Int) = max ((D.length : Int) - (kn : Int)) 0 := ⟨(max ((D.length : Int) - (kn : Int)) 0).toNat, by omega⟩
  have hmD : m ≤ D.length := by omega
  have HE := Lib.hid (show extraT D kp = D.take m by unfold extraT; rw [show D.length - kp.toNat = m by omega])
  have hk9 : max kp 0 = (kn : Int) := hkn.symm
  have hkb : (kn : Int) ≤ 9223372036854775807 := by omega
  have hsub : IntKind.i64.wrap ((D.length : Int) - (kn : Int)) = (D.length : Int) - (kn : Int) := IntWalk.i64_in _ (by omega)
  have hm9 : max ((D.length : Int) - (kn : Int)) 0 = (m : Int) := hm.symm
  have hm0 : (0 : Int) ≤ (m : Int) := by omega
  clear hkn hm
  go_enter Try.func27, Try.ntmps27
  go_upto_region 2 with (go_at_call 25; (with_reducible refine (CD.out).mono ?_); rintro e w1 ⟨v1, rfl, ho1, hb1⟩; have HO1 := Lib.hid ho1; have HB1 := Lib.hid hb1; clear ho1 hb1)
  rcases own_shape HO1.out with ⟨rfl, h0⟩ | ⟨g, dc, rfl, hg1, hg2, hdc, hdc2⟩
  · have hD0 : D = [] := List.eq_nil_of_length_eq_zero h0
    subst hD0
    obtain rfl : m = 0 := by simpa using hmD
    have hz9 : max (-(kn : Int)) 0 = 0 := by omega
    go_wp2
    go_ret
    exact ⟨_, rfl, by rw [HE.out]; exact OwnR.nil _ _ _ _, HB1.out⟩
  · have hmc : (m : Int) ≤ (dc : Int) := by omega
    have HF := Lib.hid (own_takeS HO1.out hmD)
    have hmin : min m D.length = m := Nat.min_eq_left hmD
    go_wp2
    go_ret
    exact ⟨_, rfl, by rw [HE.out, List.length_take, hmin, List.map_take]; have h := HF.out; rw [Nat.mul_one] at h; exact h, HB1.out⟩
end Go.Proofs.Ytampkolkbjmmkaa
