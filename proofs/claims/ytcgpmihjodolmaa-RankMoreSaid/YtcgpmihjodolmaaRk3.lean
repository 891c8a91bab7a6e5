
/- rank.compare, rank.Ahead: contracts. -/
import Derived.Test.YtcgpmihjodolmaaRk2
namespace Go.Proofs.Ytcgpmihjodolmaa
open Go.RowKit
set_option linter.unusedVariables false
set_option linter.unusedSimpArgs false
theorem cI_in (a b : Int) : InI (cI a b) := by unfold cI InI; omega
theorem cS_in (a b : ByteArray) : InI (cS a b) := by unfold cS InI; split <;> (try split) <;> omega
theorem cmp_Or4 (a b c d : Int) (M : Nat) (w : World) (ha : InI a) (hb : InI b) (hc : InI c) (hd : InI d) (h0 : w.cell? ⟨M, 0, none⟩ = some (.int .i64 a)) (h1 : w.cell? ⟨M, 1, none⟩ = some (.int .i64 b)) (h2 : w.cell? ⟨M, 2, none⟩ = some (.int .i64 c)) (h3 : w.cell? ⟨M, 3, none⟩ = some (.int .i64 d)) :
    Calls Try.prog 67 #[.slice (some ⟨M, 0, none⟩) 4 4] w fun e w' => e = .returned (.int .i64 (orL [a, b, c, d])) ∧ w = w' := by
  refine cmp_OrL _ 4 4 [a, b, c, d] w ⟨⟨rfl, Nat.le_refl _, by unfold maxLen; omega, (fun h => by cases h), .inr ⟨M, 0, rfl, fun i hi => ?_⟩⟩, fun n hn => ?_⟩ (by omega)
  · rw [Nat.zero_add]
    match i, hi with
    | 0, _ => exact h0
    | 1, _ => exact h1
    | 2, _ => exact h2
    | 3, _ => exact h3
  · simp only [List.mem_cons, List.not_mem_nil, or_false] at hn
    rcases hn with rfl | rfl | rfl | rfl
    · exact wfI64 ha.1 ha.2
    · exact wfI64 hb.1 hb.2
    · exact wfI64 hc.1 hc.2
    · exact wfI64 hd.1 hd.2
set_option maxRecDepth 100000 in
set_option maxHeartbeats 16000000 in
theorem rk_compare (x y : KeyV) (w : World) :
    Calls Try.prog 59 #[x.v, y.v] w fun e w' => e = .returned (.int .i64 (cfK x y)) ∧ GW w w' := by
  unfold KeyV.v
  have C1 := Lib.hid (fun v => cmp_intI x.rest y.rest v)
  have C2 := Lib.hid (fun v => cmp_intI x.prio y.prio v)
  have C3 := Lib.hid (fun v => cmp_intI y.ex x.ex v)
  have C4 := Lib.hid (fun v => cmp_strS x.id y.id v)
  have hd : cfK x y = orL [cI x.rest y.rest, cI x.prio y.prio, cI y.ex x.ex, cS x.id y.id] := rfl
  have i1 := cI_in x.rest y.rest
  have i2 := cI_in x.prio y.prio
  have i3 := cI_in y.ex x.ex
  have i4 := cS_in x.id y.id
  have I1 := Lib.hid i1
  have I2 := Lib.hid i2
  have I3 := Lib.hid i3
  have I4 := Lib.hid i4
  clear i1 i2 i3 i4
  generalize cI x.rest y.rest = c1 at *
  generalize cI x.prio y.prio = c2 at *
  generalize cI y.ex x.ex = c3 at *
  generalize cS x.id y.id = c4 at *
  generalize cfK x y = c at *
  have HD := Lib.hid hd
  clear hd
  have hw : Below w.heap.size w w := Below.refl _ _
  have hbel := hw
  have HG := Lib.hid (show GW w ((w.alloc (.cells #[.int .i64 x.rest, .int .i64 x.prio, .int .i64 x.ex, .string x.id] 98)).alloc (.cells #[.int .i64 y.rest, .int .i64 y.prio, .int .i64 y.ex, .string y.id] 98)) from ((GW.refl w).alloc _).alloc _)
  go_enter Try.func59, Try.ntmps59
  go_upto_region 1 with fail
  have a0 : ((w.alloc (.cells #[.int .i64 x.rest, .int .i64 x.prio, .int .i64 x.ex, .string x.id] 98)).alloc (.cells #[.int .i64 y.rest, .int .i64 y.prio, .int .i64 y.ex, .string y.id] 98)).cell? ⟨w.heap.size, 0, none⟩ = some (.int .i64 x.rest) := by first | (simp; done) | (rw [World.cell?_alloc_at _ _ _ _ (by simp)]; rfl) | (rw [World.cell?_alloc_past _ _ _ (by simp <;> omega), World.cell?_alloc_at _ _ _ _ (by simp)]; rfl) | (rw [World.cell?_alloc_past _ _ _ (by simp <;> omega), World.cell?_alloc_past _ _ _ (by simp <;> omega), World.cell?_alloc_at _ _ _ _ (by simp)]; rfl)
  have a1 : ((w.alloc (.cells #[.int .i64 x.rest, .int .i64 x.prio, .int .i64 x.ex, .string x.id] 98)).alloc (.cells #[.int .i64 y.rest, .int .i64 y.prio, .int .i64 y.ex, .string y.id] 98)).cell? ⟨w.heap.size, 1, none⟩ = some (.int .i64 x.prio) := by first | (simp; done) | (rw [World.cell?_alloc_at _ _ _ _ (by simp)]; rfl) | (rw [World.cell?_alloc_past _ _ _ (by simp <;> omega), World.cell?_alloc_at _ _ _ _ (by simp)]; rfl) | (rw [World.cell?_alloc_past _ _ _ (by simp <;> omega), World.cell?_alloc_past _ _ _ (by simp <;> omega), World.cell?_alloc_at _ _ _ _ (by simp)]; rfl)
  have a2 : ((w.alloc (.cells #[.int .i64 x.rest, .int .i64 x.prio, .int .i64 x.ex, .string x.id] 98)).alloc (.cells #[.int .i64 y.rest, .int .i64 y.prio, .int .i64 y.ex, .string y.id] 98)).cell? ⟨w.heap.size, 2, none⟩ = some (.int .i64 x.ex) := by first | (simp; done) | (rw [World.cell?_alloc_at _ _ _ _ (by simp)]; rfl) | (rw [World.cell?_alloc_past _ _ _ (by simp <;> omega), World.cell?_alloc_at _ _ _ _ (by simp)]; rfl) | (rw [World.cell?_alloc_past _ _ _ (by simp <;> omega), World.cell?_alloc_past _ _ _ (by simp <;> omega), World.cell?_alloc_at _ _ _ _ (by simp)]; rfl)
  have a3 : ((w.alloc (.cells #[.int .i64 x.rest, .int .i64 x.prio, .int .i64 x.ex, .string x.id] 98)).alloc (.cells #[.int .i64 y.rest, .int .i64 y.prio, .int .i64 y.ex, .string y.id] 98)).cell? ⟨w.heap.size, 3, none⟩ = some (.string x.id) := by first | (simp; done) | (rw [World.cell?_alloc_at _ _ _ _ (by simp)]; rfl) | (rw [World.cell?_alloc_past _ _ _ (by simp <;> omega), World.cell?_alloc_at _ _ _ _ (by simp)]; rfl) | (rw [World.cell?_alloc_past _ _ _ (by simp <;> omega), World.cell?_alloc_past _ _ _ (by simp <;> omega), World.cell?_alloc_at _ _ _ _ (by simp)]; rfl)
  have b0 : ((w.alloc (.cells #[.int .i64 x.rest, .int .i64 x.prio, .int .i64 x.ex, .string x.id] 98)).alloc (.cells #[.int .i64 y.rest, .int .i64 y.prio, .int .i64 y.ex, .string y.id] 98)).cell? ⟨w.heap.size + 1, 0, none⟩ = some (.int .i64 y.rest) := by first | (simp; done) | (rw [World.cell?_alloc_at _ _ _ _ (by simp)]; rfl) | (rw [World.cell?_alloc_past _ _ _ (by simp <;> omega), World.cell?_alloc_at _ _ _ _ (by simp)]; rfl) | (rw [World.cell?_alloc_past _ _ _ (by simp <;> omega), World.cell?_alloc_past _ _ _ (by simp <;> omega), World.cell?_alloc_at _ _ _ _ (by simp)]; rfl)
  have b1 : ((w.alloc (.cells #[.int .i64 x.rest, .int .i64 x.prio, .int .i64 x.ex, .string x.id] 98)).alloc (.cells #[.int .i64 y.rest, .int .i64 y.prio, .int .i64 y.ex, .string y.id] 98)).cell? ⟨w.heap.size + 1, 1, none⟩ = some (.int .i64 y.prio) := by first | (simp; done) | (rw [World.cell?_alloc_at _ _ _ _ (by simp)]; rfl) | (rw [World.cell?_alloc_past _ _ _ (by simp <;> omega), World.cell?_alloc_at _ _ _ _ (by simp)]; rfl) | (rw [World.cell?_alloc_past _ _ _ (by simp <;> omega), World.cell?_alloc_past _ _ _ (by simp <;> omega), World.cell?_alloc_at _ _ _ _ (by simp)]; rfl)
  have b2 : ((w.alloc (.cells #[.int .i64 x.rest, .int .i64 x.prio, .int .i64 x.ex, .string x.id] 98)).alloc (.cells #[.int .i64 y.rest, .int .i64 y.prio, .int .i64 y.ex, .string y.id] 98)).cell? ⟨w.heap.size + 1, 2, none⟩ = some (.int .i64 y.ex) := by first | (simp; done) | (rw [World.cell?_alloc_at _ _ _ _ (by simp)]; rfl) | (rw [World.cell?_alloc_past _ _ _ (by simp <;> omega), World.cell?_alloc_at _ _ _ _ (by simp)]; rfl) | (rw [World.cell?_alloc_past _ _ _ (by simp <;> omega), World.cell?_alloc_past _ _ _ (by simp <;> omega), World.cell?_alloc_at _ _ _ _ (by simp)]; rfl)
  have b3 : ((w.alloc (.cells #[.int .i64 x.rest, .int .i64 x.prio, .int .i64 x.ex, .string x.id] 98)).alloc (.cells #[.int .i64 y.rest, .int .i64 y.prio, .int .i64 y.ex, .string y.id] 98)).cell? ⟨w.heap.size + 1, 3, none⟩ = some (.string y.id) := by first | (simp; done) | (rw [World.cell?_alloc_at _ _ _ _ (by simp)]; rfl) | (rw [World.cell?_alloc_past _ _ _ (by simp <;> omega), World.cell?_alloc_at _ _ _ _ (by simp)]; rfl) | (rw [World.cell?_alloc_past _ _ _ (by simp <;> omega), World.cell?_alloc_past _ _ _ (by simp <;> omega), World.cell?_alloc_at _ _ _ _ (by simp)]; rfl)
  have hb2 := (by repeat (first | exact hbel | refine belAlloc ?_ _ | refine belDrew ?_ | refine belSet ?_ _ _ (by simp)) : Below w.heap.size w ((w.alloc (.cells #[.int .i64 x.rest, .int .i64 x.prio, .int .i64 x.ex, .string x.id] 98)).alloc (.cells #[.int .i64 y.rest, .int .i64 y.prio, .int .i64 y.ex, .string y.id] 98)))
  replace hw := belStep hw hb2
  clear hb2 hbel
  generalize (w.alloc (.cells #[.int .i64 x.rest, .int .i64 x.prio, .int .i64 x.ex, .string x.id] 98)).alloc (.cells #[.int .i64 y.rest, .int .i64 y.prio, .int .i64 y.ex, .string y.id] 98) = W1 at *
  replace a0 := keep a0
  replace a1 := keep a1
  replace a2 := keep a2
  replace a3 := keep a3
  replace b0 := keep b0
  replace b1 := keep b1
  replace b2 := keep b2
  replace b3 := keep b3
  have hbel : Below W1.heap.size W1 W1 := Below.refl _ _
  skip
  have a0g := fun u (h : GW W1 u) => a0 u h.below
  have a1g := fun u (h : GW W1 u) => a1 u h.below
  have a2g := fun u (h : GW W1 u) => a2 u h.below
  have a3g := fun u (h : GW W1 u) => a3 u h.below
  have b0g := fun u (h : GW W1 u) => b0 u h.below
  have b1g := fun u (h : GW W1 u) => b1 u h.below
  have b2g := fun u (h : GW W1 u) => b2 u h.below
  have b3g := fun u (h : GW W1 u) => b3 u h.below
  clear a0 a1 a2 a3 b0 b1 b2 b3 hw hbel
  refine wp_region_held_drew (S := (fun u => GW W1 u)) (by kernel_rfl) (by exact (show GW W1 _ from by repeat (first | assumption | exact GW.refl _ | refine GW.drew ?_ | refine GW.alloc ?_ _))) (fun hHeld => ?_)
  refine wpAnyH_take (i := 0) (oi := ?oi_1) (v := ?v_1) ?hi_1 (by kernel_rfl) ?hf_1 ?hr_1 ?hQ_1 (Or.inl ⟨?hw_1, ?hy_1⟩) (by assumption) ?rest_1
  case hi_1 => ((simp only [List.getElem?_toArray, List.getElem?_cons_succ, List.getElem?_cons_zero]); rfl)
  case hf_1 => kernel_rfl
  case hr_1 => kernel_rfl
  case hQ_1 => exact fun _ _ _ h => h
  case hw_1 => rfl
  case hy_1 => ((intro w hSw; (try dsimp only at hSw); go_simp); all_goals (with_reducible rfl))
  try simp only [Act.put, List.setIfInBounds_toArray, List.set_cons_zero, List.set_cons_succ]
  refine wpAnyH_take (i := 1) (oi := ?oi_2) (v := ?v_2) ?hi_2 (by kernel_rfl) ?hf_2 ?hr_2 ?hQ_2 (Or.inl ⟨?hw_2, ?hy_2⟩) (by assumption) ?rest_2
  case hi_2 => ((simp only [List.getElem?_toArray, List.getElem?_cons_succ, List.getElem?_cons_zero]); rfl)
  case hf_2 => kernel_rfl
  case hr_2 => kernel_rfl
  case hQ_2 => exact fun _ _ _ h => h
  case hw_2 => rfl
  case hy_2 => ((intro w hSw; (try dsimp only at hSw); go_simp); all_goals (with_reducible rfl))
  try simp only [Act.put, List.setIfInBounds_toArray, List.set_cons_zero, List.set_cons_succ]
  refine wpAnyH_take (i := 2) (oi := ?oi_3) (v := ?v_3) ?hi_3 (by kernel_rfl) ?hf_3 ?hr_3 ?hQ_3 (Or.inl ⟨?hw_3, ?hy_3⟩) (by assumption) ?rest_3
  case hi_3 => ((simp only [List.getElem?_toArray, List.getElem?_cons_succ, List.getElem?_cons_zero]); rfl)
  case hf_3 => kernel_rfl
  case hr_3 => kernel_rfl
  case hQ_3 => exact fun _ _ _ h => h
  case hw_3 => rfl
  case hy_3 => ((intro w hSw; (try dsimp only at hSw); go_simp); all_goals (with_reducible rfl))
  try simp only [Act.put, List.setIfInBounds_toArray, List.set_cons_zero, List.set_cons_succ]
  refine wpAnyH_take (i := 3) (oi := ?oi_4) (v := ?v_4) ?hi_4 (by kernel_rfl) ?hf_4 ?hr_4 ?hQ_4 (Or.inl ⟨?hw_4, ?hy_4⟩) (by assumption) ?rest_4
  case hi_4 => ((simp only [List.getElem?_toArray, List.getElem?_cons_succ, List.getElem?_cons_zero]); rfl)
  case hf_4 => kernel_rfl
  case hr_4 => kernel_rfl
  case hQ_4 => exact fun _ _ _ h => h
  case hw_4 => rfl
  case hy_4 => ((intro w hSw; (try dsimp only at hSw); go_simp); all_goals (with_reducible rfl))
  try simp only [Act.put, List.setIfInBounds_toArray, List.set_cons_zero, List.set_cons_succ]
  refine wpAnyH_take (i := 5) (oi := ?oi_5) (v := ?v_5) ?hi_5 (by kernel_rfl) ?hf_5 ?hr_5 ?hQ_5 (Or.inl ⟨?hw_5, ?hy_5⟩) (by assumption) ?rest_5
  case hi_5 => ((simp only [List.getElem?_toArray, List.getElem?_cons_succ, List.getElem?_cons_zero]); rfl)
  case hf_5 => kernel_rfl
  case hr_5 => kernel_rfl
  case hQ_5 => exact fun _ _ _ h => h
  case hw_5 => rfl
  case hy_5 => ((intro w hSw; (try dsimp only at hSw); go_simp); all_goals (with_reducible rfl))
  try simp only [Act.put, List.setIfInBounds_toArray, List.set_cons_zero, List.set_cons_succ]
  refine wpAnyH_take (i := 6) (oi := ?oi_6) (v := ?v_6) ?hi_6 (by kernel_rfl) ?hf_6 ?hr_6 ?hQ_6 (Or.inl ⟨?hw_6, ?hy_6⟩) (by assumption) ?rest_6
  case hi_6 => ((simp only [List.getElem?_toArray, List.getElem?_cons_succ, List.getElem?_cons_zero]); rfl)
  case hf_6 => kernel_rfl
  case hr_6 => kernel_rfl
  case hQ_6 => exact fun _ _ _ h => h
  case hw_6 => rfl
  case hy_6 => ((intro w hSw; (try dsimp only at hSw); go_simp); all_goals (with_reducible rfl))
  try simp only [Act.put, List.setIfInBounds_toArray, List.set_cons_zero, List.set_cons_succ]
  refine wpAnyH_take (i := 7) (oi := ?oi_7) (v := ?v_7) ?hi_7 (by kernel_rfl) ?hf_7 ?hr_7 ?hQ_7 (Or.inl ⟨?hw_7, ?hy_7⟩) (by assumption) ?rest_7
  case hi_7 => ((simp only [List.getElem?_toArray, List.getElem?_cons_succ, List.getElem?_cons_zero]); rfl)
  case hf_7 => kernel_rfl
  case hr_7 => kernel_rfl
  case hQ_7 => exact fun _ _ _ h => h
  case hw_7 => rfl
  case hy_7 => ((intro w hSw; (try dsimp only at hSw); go_simp); all_goals (with_reducible rfl))
  try simp only [Act.put, List.setIfInBounds_toArray, List.set_cons_zero, List.set_cons_succ]
  refine wpAnyH_take (i := 8) (oi := ?oi_8) (v := ?v_8) ?hi_8 (by kernel_rfl) ?hf_8 ?hr_8 ?hQ_8 (Or.inl ⟨?hw_8, ?hy_8⟩) (by assumption) ?rest_8
  case hi_8 => ((simp only [List.getElem?_toArray, List.getElem?_cons_succ, List.getElem?_cons_zero]); rfl)
  case hf_8 => kernel_rfl
  case hr_8 => kernel_rfl
  case hQ_8 => exact fun _ _ _ h => h
  case hw_8 => rfl
  case hy_8 => ((intro w hSw; (try dsimp only at hSw); go_simp); all_goals (with_reducible rfl))
  try simp only [Act.put, List.setIfInBounds_toArray, List.set_cons_zero, List.set_cons_succ]
  refine wpAnyH_take (i := 10) (oi := ?oi_9) (v := ?v_9) ?hi_9 (by kernel_rfl) ?hf_9 ?hr_9 ?hQ_9 (Or.inl ⟨?hw_9, ?hy_9⟩) (by assumption) ?rest_9
  case hi_9 => ((simp only [List.getElem?_toArray, List.getElem?_cons_succ, List.getElem?_cons_zero]); rfl)
  case hf_9 => kernel_rfl
  case hr_9 => kernel_rfl
  case hQ_9 => exact fun _ _ _ h => h
  case hw_9 => rfl
  case hy_9 => ((intro w hSw; (try dsimp only at hSw); go_simp); all_goals (with_reducible rfl))
  try simp only [Act.put, List.setIfInBounds_toArray, List.set_cons_zero, List.set_cons_succ]
  refine wpAnyH_take (i := 11) (oi := ?oi_10) (v := ?v_10) ?hi_10 (by kernel_rfl) ?hf_10 ?hr_10 ?hQ_10 (Or.inl ⟨?hw_10, ?hy_10⟩) (by assumption) ?rest_10
  case hi_10 => ((simp only [List.getElem?_toArray, List.getElem?_cons_succ, List.getElem?_cons_zero]); rfl)
  case hf_10 => kernel_rfl
  case hr_10 => kernel_rfl
  case hQ_10 => exact fun _ _ _ h => h
  case hw_10 => rfl
  case hy_10 => ((intro w hSw; (try dsimp only at hSw); go_simp); all_goals (with_reducible rfl))
  try simp only [Act.put, List.setIfInBounds_toArray, List.set_cons_zero, List.set_cons_succ]
  refine wpAnyH_take (i := 12) (oi := ?oi_11) (v := ?v_11) ?hi_11 (by kernel_rfl) ?hf_11 ?hr_11 ?hQ_11 (Or.inl ⟨?hw_11, ?hy_11⟩) (by assumption) ?rest_11
  case hi_11 => ((simp only [List.getElem?_toArray, List.getElem?_cons_succ, List.getElem?_cons_zero]); rfl)
  case hf_11 => kernel_rfl
  case hr_11 => kernel_rfl
  case hQ_11 => exact fun _ _ _ h => h
  case hw_11 => rfl
  case hy_11 => ((intro w hSw; (try dsimp only at hSw); go_simp); all_goals (with_reducible rfl))
  try simp only [Act.put, List.setIfInBounds_toArray, List.set_cons_zero, List.set_cons_succ]
  refine wpAnyH_take (i := 13) (oi := ?oi_12) (v := ?v_12) ?hi_12 (by kernel_rfl) ?hf_12 ?hr_12 ?hQ_12 (Or.inl ⟨?hw_12, ?hy_12⟩) (by assumption) ?rest_12
  case hi_12 => ((simp only [List.getElem?_toArray, List.getElem?_cons_succ, List.getElem?_cons_zero]); rfl)
  case hf_12 => kernel_rfl
  case hr_12 => kernel_rfl
  case hQ_12 => exact fun _ _ _ h => h
  case hw_12 => rfl
  case hy_12 => ((intro w hSw; (try dsimp only at hSw); go_simp); all_goals (with_reducible rfl))
  try simp only [Act.put, List.setIfInBounds_toArray, List.set_cons_zero, List.set_cons_succ]
  refine wpAnyH_take (i := 15) (oi := ?oi_13) (v := ?v_13) ?hi_13 (by kernel_rfl) ?hf_13 ?hr_13 ?hQ_13 (Or.inl ⟨?hw_13, ?hy_13⟩) (by assumption) ?rest_13
  case hi_13 => ((simp only [List.getElem?_toArray, List.getElem?_cons_succ, List.getElem?_cons_zero]); rfl)
  case hf_13 => kernel_rfl
  case hr_13 => kernel_rfl
  case hQ_13 => exact fun _ _ _ h => h
  case hw_13 => rfl
  case hy_13 => ((intro w hSw; (try dsimp only at hSw); go_simp); all_goals (with_reducible rfl))
  try simp only [Act.put, List.setIfInBounds_toArray, List.set_cons_zero, List.set_cons_succ]
  refine wpAnyH_take (i := 16) (oi := ?oi_14) (v := ?v_14) ?hi_14 (by kernel_rfl) ?hf_14 ?hr_14 ?hQ_14 (Or.inl ⟨?hw_14, ?hy_14⟩) (by assumption) ?rest_14
  case hi_14 => ((simp only [List.getElem?_toArray, List.getElem?_cons_succ, List.getElem?_cons_zero]); rfl)
  case hf_14 => kernel_rfl
  case hr_14 => kernel_rfl
  case hQ_14 => exact fun _ _ _ h => h
  case hw_14 => rfl
  case hy_14 => ((intro w hSw; (try dsimp only at hSw); go_simp); all_goals (with_reducible rfl))
  try simp only [Act.put, List.setIfInBounds_toArray, List.set_cons_zero, List.set_cons_succ]
  refine wpAnyH_take (i := 17) (oi := ?oi_15) (v := ?v_15) ?hi_15 (by kernel_rfl) ?hf_15 ?hr_15 ?hQ_15 (Or.inl ⟨?hw_15, ?hy_15⟩) (by assumption) ?rest_15
  case hi_15 => ((simp only [List.getElem?_toArray, List.getElem?_cons_succ, List.getElem?_cons_zero]); rfl)
  case hf_15 => kernel_rfl
  case hr_15 => kernel_rfl
  case hQ_15 => exact fun _ _ _ h => h
  case hw_15 => rfl
  case hy_15 => ((intro w hSw; (try dsimp only at hSw); go_simp); all_goals (with_reducible rfl))
  try simp only [Act.put, List.setIfInBounds_toArray, List.set_cons_zero, List.set_cons_succ]
  refine wpAnyH_take (i := 18) (oi := ?oi_16) (v := ?v_16) ?hi_16 (by kernel_rfl) ?hf_16 ?hr_16 ?hQ_16 (Or.inl ⟨?hw_16, ?hy_16⟩) (by assumption) ?rest_16
  case hi_16 => ((simp only [List.getElem?_toArray, List.getElem?_cons_succ, List.getElem?_cons_zero]); rfl)
  case hf_16 => kernel_rfl
  case hr_16 => kernel_rfl
  case hQ_16 => exact fun _ _ _ h => h
  case hw_16 => rfl
  case hy_16 => ((intro w hSw; (try dsimp only at hSw); go_simp); all_goals (with_reducible rfl))
  try simp only [Act.put, List.setIfInBounds_toArray, List.set_cons_zero, List.set_cons_succ]
  refine wpAnyH_ready (rs := [4]) (by kernel_rfl) (by simp) ?_
  refine AllReadyH.cons (o := ?o1_17) ?hi_17 (fun K hK => ?rest_17) AllReadyH.nil
  case hi_17 => ((simp only [List.getElem?_toArray, List.getElem?_cons_succ, List.getElem?_cons_zero]); rfl)
  go_simp
  (first | (go_at_call 68; (with_reducible refine (C1.out _).mono ?_); rintro e w2 ⟨rfl, rfl⟩) | (go_at_call 68; (with_reducible refine (C2.out _).mono ?_); rintro e w2 ⟨rfl, rfl⟩) | (go_at_call 68; (with_reducible refine (C3.out _).mono ?_); rintro e w2 ⟨rfl, rfl⟩) | (go_at_call 69; (with_reducible refine (C4.out _).mono ?_); rintro e w2 ⟨rfl, rfl⟩) | (go_at_call 67; (with_reducible refine (cmp_Or4 c1 c2 c3 c4 _ _ I1.out I2.out I3.out I4.out (by simp) (by simp) (by simp) (by simp)).mono ?_); rintro e w2 ⟨rfl, rfl⟩))
  try go_simp
  refine hK.out _ _ (by exact (show GW W1 _ from by repeat (first | assumption | exact GW.refl _ | refine GW.drew ?_ | refine GW.alloc ?_ _))) (fun hHeld => ?_)
  clear hK K
  try simp only [Act.put, List.setIfInBounds_toArray, List.set_cons_zero, List.set_cons_succ]
  refine wpAnyH_ready (rs := [9]) (by kernel_rfl) (by simp) ?_
  refine AllReadyH.cons (o := ?o1_18) ?hi_18 (fun K hK => ?rest_18) AllReadyH.nil
  case hi_18 => ((simp only [List.getElem?_toArray, List.getElem?_cons_succ, List.getElem?_cons_zero]); rfl)
  go_simp
  (first | (go_at_call 68; (with_reducible refine (C1.out _).mono ?_); rintro e w2 ⟨rfl, rfl⟩) | (go_at_call 68; (with_reducible refine (C2.out _).mono ?_); rintro e w2 ⟨rfl, rfl⟩) | (go_at_call 68; (with_reducible refine (C3.out _).mono ?_); rintro e w2 ⟨rfl, rfl⟩) | (go_at_call 69; (with_reducible refine (C4.out _).mono ?_); rintro e w2 ⟨rfl, rfl⟩) | (go_at_call 67; (with_reducible refine (cmp_Or4 c1 c2 c3 c4 _ _ I1.out I2.out I3.out I4.out (by simp) (by simp) (by simp) (by simp)).mono ?_); rintro e w2 ⟨rfl, rfl⟩))
  try go_simp
  refine hK.out _ _ (by exact (show GW W1 _ from by repeat (first | assumption | exact GW.refl _ | refine GW.drew ?_ | refine GW.alloc ?_ _))) (fun hHeld => ?_)
  clear hK K
  try simp only [Act.put, List.setIfInBounds_toArray, List.set_cons_zero, List.set_cons_succ]
  refine wpAnyH_ready (rs := [14]) (by kernel_rfl) (by simp) ?_
  refine AllReadyH.cons (o := ?o1_19) ?hi_19 (fun K hK => ?rest_19) AllReadyH.nil
  case hi_19 => ((simp only [List.getElem?_toArray, List.getElem?_cons_succ, List.getElem?_cons_zero]); rfl)
  go_simp
  (first | (go_at_call 68; (with_reducible refine (C1.out _).mono ?_); rintro e w2 ⟨rfl, rfl⟩) | (go_at_call 68; (with_reducible refine (C2.out _).mono ?_); rintro e w2 ⟨rfl, rfl⟩) | (go_at_call 68; (with_reducible refine (C3.out _).mono ?_); rintro e w2 ⟨rfl, rfl⟩) | (go_at_call 69; (with_reducible refine (C4.out _).mono ?_); rintro e w2 ⟨rfl, rfl⟩) | (go_at_call 67; (with_reducible refine (cmp_Or4 c1 c2 c3 c4 _ _ I1.out I2.out I3.out I4.out (by simp) (by simp) (by simp) (by simp)).mono ?_); rintro e w2 ⟨rfl, rfl⟩))
  try go_simp
  refine hK.out _ _ (by exact (show GW W1 _ from by repeat (first | assumption | exact GW.refl _ | refine GW.drew ?_ | refine GW.alloc ?_ _))) (fun hHeld => ?_)
  clear hK K
  try simp only [Act.put, List.setIfInBounds_toArray, List.set_cons_zero, List.set_cons_succ]
  refine wpAnyH_ready (rs := [19]) (by kernel_rfl) (by simp) ?_
  refine AllReadyH.cons (o := ?o1_20) ?hi_20 (fun K hK => ?rest_20) AllReadyH.nil
  case hi_20 => ((simp only [List.getElem?_toArray, List.getElem?_cons_succ, List.getElem?_cons_zero]); rfl)
  go_simp
  (first | (go_at_call 68; (with_reducible refine (C1.out _).mono ?_); rintro e w2 ⟨rfl, rfl⟩) | (go_at_call 68; (with_reducible refine (C2.out _).mono ?_); rintro e w2 ⟨rfl, rfl⟩) | (go_at_call 68; (with_reducible refine (C3.out _).mono ?_); rintro e w2 ⟨rfl, rfl⟩) | (go_at_call 69; (with_reducible refine (C4.out _).mono ?_); rintro e w2 ⟨rfl, rfl⟩) | (go_at_call 67; (with_reducible refine (cmp_Or4 c1 c2 c3 c4 _ _ I1.out I2.out I3.out I4.out (by simp) (by simp) (by simp) (by simp)).mono ?_); rintro e w2 ⟨rfl, rfl⟩))
  try go_simp
  refine hK.out _ _ (by exact (show GW W1 _ from by repeat (first | assumption | exact GW.refl _ | refine GW.drew ?_ | refine GW.alloc ?_ _))) (fun hHeld => ?_)
  clear hK K
  try simp only [Act.put, List.setIfInBounds_toArray, List.set_cons_zero, List.set_cons_succ]
  refine wpAnyH_ready (rs := [20]) (by kernel_rfl) (by simp) ?_
  refine AllReadyH.cons (o := ?o1_21) ?hi_21 (fun K hK => ?rest_21) AllReadyH.nil
  case hi_21 => ((simp only [List.getElem?_toArray, List.getElem?_cons_succ, List.getElem?_cons_zero]); rfl)
  go_simp
  refine hK.out _ _ (by exact (show GW W1 _ from by repeat (first | assumption | exact GW.refl _ | refine GW.drew ?_ | refine GW.alloc ?_ _))) (fun hHeld => ?_)
  clear hK K
  try simp only [Act.put, List.setIfInBounds_toArray, List.set_cons_zero, List.set_cons_succ]
  refine wpAnyH_ready (rs := [21]) (by kernel_rfl) (by simp) ?_
  refine AllReadyH.cons (o := ?o1_22) ?hi_22 (fun K hK => ?rest_22) AllReadyH.nil
  case hi_22 => ((simp only [List.getElem?_toArray, List.getElem?_cons_succ, List.getElem?_cons_zero]); rfl)
  go_simp
  (first | (go_at_call 68; (with_reducible refine (C1.out _).mono ?_); rintro e w2 ⟨rfl, rfl⟩) | (go_at_call 68; (with_reducible refine (C2.out _).mono ?_); rintro e w2 ⟨rfl, rfl⟩) | (go_at_call 68; (with_reducible refine (C3.out _).mono ?_); rintro e w2 ⟨rfl, rfl⟩) | (go_at_call 69; (with_reducible refine (C4.out _).mono ?_); rintro e w2 ⟨rfl, rfl⟩) | (go_at_call 67; (with_reducible refine (cmp_Or4 c1 c2 c3 c4 _ _ I1.out I2.out I3.out I4.out (by simp) (by simp) (by simp) (by simp)).mono ?_); rintro e w2 ⟨rfl, rfl⟩))
  try go_simp
  refine hK.out _ _ (by exact (show GW W1 _ from by repeat (first | assumption | exact GW.refl _ | refine GW.drew ?_ | refine GW.alloc ?_ _))) (fun hHeld => ?_)
  clear hK K
  try simp only [Act.put, List.setIfInBounds_toArray, List.set_cons_zero, List.set_cons_succ]
  refine wpAnyH_take (i := 22) (oi := ?oi_23) (v := ?v_23) ?hi_23 (by kernel_rfl) ?hf_23 ?hr_23 ?hQ_23 (Or.inl ⟨?hw_23, ?hy_23⟩) (by assumption) ?rest_23
  case hi_23 => ((simp only [List.getElem?_toArray, List.getElem?_cons_succ, List.getElem?_cons_zero]); rfl)
  case hf_23 => kernel_rfl
  case hr_23 => kernel_rfl
  case hQ_23 => exact fun _ _ _ h => h
  case hw_23 => rfl
  case hy_23 => ((intro w hSw; (try dsimp only at hSw); go_simp); all_goals (with_reducible rfl))
  try simp only [Act.put, List.setIfInBounds_toArray, List.set_cons_zero, List.set_cons_succ]
  refine wpAnyH_done (by kernel_rfl) ?_ _
  go_wp2
  go_ret
  exact ⟨by rw [HD.out] <;> rfl, HG.out.trans hHeld⟩
set_option maxRecDepth 100000 in
set_option maxHeartbeats 16000000 in
theorem rk_Ahead (g : Nat) (G : Int) (p q : PodV) (t x0 x1 x2 : Int) (a : Option Addr) (len cap : Nat) (U : List UseV) (w : World) (hg : g < 3) (hG : G = g) (hp : p.ok) (hpr : rightB p = true) (hq : q.ok) (hqr : rightB q = true) (hU : ∀ u ∈ U, UseOK u) (hl : U.length = len) (hR : Row w a len cap 4 (U.flatMap UseV.cells)) :
    Calls Try.prog 41 #[.int .i64 G, .agg #[.string p.id, .int .i64 p.prio, .bool p.crit, .int .i64 p.r0, .int .i64 p.r1, .int .i64 p.r2, .int .i64 p.l0, .int .i64 p.l1, .int .i64 p.l2, .string p.img, .int .i64 p.size], .agg #[.string q.id, .int .i64 q.prio, .bool q.crit, .int .i64 q.r0, .int .i64 q.r1, .int .i64 q.r2, .int .i64 q.l0, .int .i64 q.l1, .int .i64 q.l2, .string q.img, .int .i64 q.size], .agg #[.int .i64 t, .int .i64 x0, .int .i64 x1, .int .i64 x2, .slice a len cap]] w fun e w' => e = .returned (.bool (aheadB g p q U)) ∧ Below w.heap.size w w' := by
  have hw : Below w.heap.size w w := Below.refl _ _
  have hbel := hw
  have HR := Lib.hid hR
  clear hR
  subst hl
  have CP := Lib.hid (fun u (hu : Below w.heap.size w u) => rk_keyOf g G p t x0 x1 x2 a U.length cap U u hg hG hp hpr hU rfl (HR.out.later hu))
  have CQ := Lib.hid (fun u (hu : Below w.heap.size w u) => rk_keyOf g G q t x0 x1 x2 a U.length cap U u hg hG hq hqr hU rfl (HR.out.later hu))
  have CC := Lib.hid (fun u => rk_compare (keyF g p U) (keyF g q U) u)
  have HA := Lib.hid (show aheadB g p q U = decide (cfK (keyF g p U) (keyF g q U) < 0) from rfl)
  obtain ⟨kp, hkp⟩ : ∃ k, keyF g p U = k := ⟨_, rfl⟩
  obtain ⟨kq, hkq⟩ : ∃ k, keyF g q U = k := ⟨_, rfl⟩
  rw [hkp] at CP CC HA
  rw [hkq] at CQ CC HA
  clear hkp hkq hp hpr hq hqr hU hG hg
  unfold KeyV.v at CP CQ CC
  obtain ⟨c, hc⟩ : ∃ c, cfK kp kq = c := ⟨_, rfl⟩
  rw [hc] at CC HA
  clear hc
  go_enter Try.func41, Try.ntmps41
  go_upto_region 1 with fail
  have pp0 : (((w.alloc (.cells #[.string p.id, .int .i64 p.prio, .bool p.crit, .int .i64 p.r0, .int .i64 p.r1, .int .i64 p.r2, .int .i64 p.l0, .int .i64 p.l1, .int .i64 p.l2, .string p.img, .int .i64 p.size] 62)).alloc (.cells #[.string q.id, .int .i64 q.prio, .bool q.crit, .int .i64 q.r0, .int .i64 q.r1, .int .i64 q.r2, .int .i64 q.l0, .int .i64 q.l1, .int .i64 q.l2, .string q.img, .int .i64 q.size] 62)).alloc (.cells #[.int .i64 t, .int .i64 x0, .int .i64 x1, .int .i64 x2, .slice a U.length cap] 32)).cell? ⟨w.heap.size, 0, none⟩ = some (.string p.id) := by first | (simp; done) | (rw [World.cell?_alloc_at _ _ _ _ (by simp)]; rfl) | (rw [World.cell?_alloc_past _ _ _ (by simp <;> omega), World.cell?_alloc_at _ _ _ _ (by simp)]; rfl) | (rw [World.cell?_alloc_past _ _ _ (by simp <;> omega), World.cell?_alloc_past _ _ _ (by simp <;> omega), World.cell?_alloc_at _ _ _ _ (by simp)]; rfl)
  have pp1 : (((w.alloc (.cells #[.string p.id, .int .i64 p.prio, .bool p.crit, .int .i64 p.r0, .int .i64 p.r1, .int .i64 p.r2, .int .i64 p.l0, .int .i64 p.l1, .int .i64 p.l2, .string p.img, .int .i64 p.size] 62)).alloc (.cells #[.string q.id, .int .i64 q.prio, .bool q.crit, .int .i64 q.r0, .int .i64 q.r1, .int .i64 q.r2, .int .i64 q.l0, .int .i64 q.l1, .int .i64 q.l2, .string q.img, .int .i64 q.size] 62)).alloc (.cells #[.int .i64 t, .int .i64 x0, .int .i64 x1, .int .i64 x2, .slice a U.length cap] 32)).cell? ⟨w.heap.size, 1, none⟩ = some (.int .i64 p.prio) := by first | (simp; done) | (rw [World.cell?_alloc_at _ _ _ _ (by simp)]; rfl) | (rw [World.cell?_alloc_past _ _ _ (by simp <;> omega), World.cell?_alloc_at _ _ _ _ (by simp)]; rfl) | (rw [World.cell?_alloc_past _ _ _ (by simp <;> omega), World.cell?_alloc_past _ _ _ (by simp <;> omega), World.cell?_alloc_at _ _ _ _ (by simp)]; rfl)
  have pp2 : (((w.alloc (.cells #[.string p.id, .int .i64 p.prio, .bool p.crit, .int .i64 p.r0, .int .i64 p.r1, .int .i64 p.r2, .int .i64 p.l0, .int .i64 p.l1, .int .i64 p.l2, .string p.img, .int .i64 p.size] 62)).alloc (.cells #[.string q.id, .int .i64 q.prio, .bool q.crit, .int .i64 q.r0, .int .i64 q.r1, .int .i64 q.r2, .int .i64 q.l0, .int .i64 q.l1, .int .i64 q.l2, .string q.img, .int .i64 q.size] 62)).alloc (.cells #[.int .i64 t, .int .i64 x0, .int .i64 x1, .int .i64 x2, .slice a U.length cap] 32)).cell? ⟨w.heap.size, 2, none⟩ = some (.bool p.crit) := by first | (simp; done) | (rw [World.cell?_alloc_at _ _ _ _ (by simp)]; rfl) | (rw [World.cell?_alloc_past _ _ _ (by simp <;> omega), World.cell?_alloc_at _ _ _ _ (by simp)]; rfl) | (rw [World.cell?_alloc_past _ _ _ (by simp <;> omega), World.cell?_alloc_past _ _ _ (by simp <;> omega), World.cell?_alloc_at _ _ _ _ (by simp)]; rfl)
  have pp3 : (((w.alloc (.cells #[.string p.id, .int .i64 p.prio, .bool p.crit, .int .i64 p.r0, .int .i64 p.r1, .int .i64 p.r2, .int .i64 p.l0, .int .i64 p.l1, .int .i64 p.l2, .string p.img, .int .i64 p.size] 62)).alloc (.cells #[.string q.id, .int .i64 q.prio, .bool q.crit, .int .i64 q.r0, .int .i64 q.r1, .int .i64 q.r2, .int .i64 q.l0, .int .i64 q.l1, .int .i64 q.l2, .string q.img, .int .i64 q.size] 62)).alloc (.cells #[.int .i64 t, .int .i64 x0, .int .i64 x1, .int .i64 x2, .slice a U.length cap] 32)).cell? ⟨w.heap.size, 3, none⟩ = some (.int .i64 p.r0) := by first | (simp; done) | (rw [World.cell?_alloc_at _ _ _ _ (by simp)]; rfl) | (rw [World.cell?_alloc_past _ _ _ (by simp <;> omega), World.cell?_alloc_at _ _ _ _ (by simp)]; rfl) | (rw [World.cell?_alloc_past _ _ _ (by simp <;> omega), World.cell?_alloc_past _ _ _ (by simp <;> omega), World.cell?_alloc_at _ _ _ _ (by simp)]; rfl)
  have pp4 : (((w.alloc (.cells #[.string p.id, .int .i64 p.prio, .bool p.crit, .int .i64 p.r0, .int .i64 p.r1, .int .i64 p.r2, .int .i64 p.l0, .int .i64 p.l1, .int .i64 p.l2, .string p.img, .int .i64 p.size] 62)).alloc (.cells #[.string q.id, .int .i64 q.prio, .bool q.crit, .int .i64 q.r0, .int .i64 q.r1, .int .i64 q.r2, .int .i64 q.l0, .int .i64 q.l1, .int .i64 q.l2, .string q.img, .int .i64 q.size] 62)).alloc (.cells #[.int .i64 t, .int .i64 x0, .int .i64 x1, .int .i64 x2, .slice a U.length cap] 32)).cell? ⟨w.heap.size, 4, none⟩ = some (.int .i64 p.r1) := by first | (simp; done) | (rw [World.cell?_alloc_at _ _ _ _ (by simp)]; rfl) | (rw [World.cell?_alloc_past _ _ _ (by simp <;> omega), World.cell?_alloc_at _ _ _ _ (by simp)]; rfl) | (rw [World.cell?_alloc_past _ _ _ (by simp <;> omega), World.cell?_alloc_past _ _ _ (by simp <;> omega), World.cell?_alloc_at _ _ _ _ (by simp)]; rfl)
  have pp5 : (((w.alloc (.cells #[.string p.id, .int .i64 p.prio, .bool p.crit, .int .i64 p.r0, .int .i64 p.r1, .int .i64 p.r2, .int .i64 p.l0, .int .i64 p.l1, .int .i64 p.l2, .string p.img, .int .i64 p.size] 62)).alloc (.cells #[.string q.id, .int .i64 q.prio, .bool q.crit, .int .i64 q.r0, .int .i64 q.r1, .int .i64 q.r2, .int .i64 q.l0, .int .i64 q.l1, .int .i64 q.l2, .string q.img, .int .i64 q.size] 62)).alloc (.cells #[.int .i64 t, .int .i64 x0, .int .i64 x1, .int .i64 x2, .slice a U.length cap] 32)).cell? ⟨w.heap.size, 5, none⟩ = some (.int .i64 p.r2) := by first | (simp; done) | (rw [World.cell?_alloc_at _ _ _ _ (by simp)]; rfl) | (rw [World.cell?_alloc_past _ _ _ (by simp <;> omega), World.cell?_alloc_at _ _ _ _ (by simp)]; rfl) | (rw [World.cell?_alloc_past _ _ _ (by simp <;> omega), World.cell?_alloc_past _ _ _ (by simp <;> omega), World.cell?_alloc_at _ _ _ _ (by simp)]; rfl)
  have pp6 : (((w.alloc (.cells #[.string p.id, .int .i64 p.prio, .bool p.crit, .int .i64 p.r0, .int .i64 p.r1, .int .i64 p.r2, .int .i64 p.l0, .int .i64 p.l1, .int .i64 p.l2, .string p.img, .int .i64 p.size] 62)).alloc (.cells #[.string q.id, .int .i64 q.prio, .bool q.crit, .int .i64 q.r0, .int .i64 q.r1, .int .i64 q.r2, .int .i64 q.l0, .int .i64 q.l1, .int .i64 q.l2, .string q.img, .int .i64 q.size] 62)).alloc (.cells #[.int .i64 t, .int .i64 x0, .int .i64 x1, .int .i64 x2, .slice a U.length cap] 32)).cell? ⟨w.heap.size, 6, none⟩ = some (.int .i64 p.l0) := by first | (simp; done) | (rw [World.cell?_alloc_at _ _ _ _ (by simp)]; rfl) | (rw [World.cell?_alloc_past _ _ _ (by simp <;> omega), World.cell?_alloc_at _ _ _ _ (by simp)]; rfl) | (rw [World.cell?_alloc_past _ _ _ (by simp <;> omega), World.cell?_alloc_past _ _ _ (by simp <;> omega), World.cell?_alloc_at _ _ _ _ (by simp)]; rfl)
  have pp7 : (((w.alloc (.cells #[.string p.id, .int .i64 p.prio, .bool p.crit, .int .i64 p.r0, .int .i64 p.r1, .int .i64 p.r2, .int .i64 p.l0, .int .i64 p.l1, .int .i64 p.l2, .string p.img, .int .i64 p.size] 62)).alloc (.cells #[.string q.id, .int .i64 q.prio, .bool q.crit, .int .i64 q.r0, .int .i64 q.r1, .int .i64 q.r2, .int .i64 q.l0, .int .i64 q.l1, .int .i64 q.l2, .string q.img, .int .i64 q.size] 62)).alloc (.cells #[.int .i64 t, .int .i64 x0, .int .i64 x1, .int .i64 x2, .slice a U.length cap] 32)).cell? ⟨w.heap.size, 7, none⟩ = some (.int .i64 p.l1) := by first | (simp; done) | (rw [World.cell?_alloc_at _ _ _ _ (by simp)]; rfl) | (rw [World.cell?_alloc_past _ _ _ (by simp <;> omega), World.cell?_alloc_at _ _ _ _ (by simp)]; rfl) | (rw [World.cell?_alloc_past _ _ _ (by simp <;> omega), World.cell?_alloc_past _ _ _ (by simp <;> omega), World.cell?_alloc_at _ _ _ _ (by simp)]; rfl)
  have pp8 : (((w.alloc (.cells #[.string p.id, .int .i64 p.prio, .bool p.crit, .int .i64 p.r0, .int .i64 p.r1, .int .i64 p.r2, .int .i64 p.l0, .int .i64 p.l1, .int .i64 p.l2, .string p.img, .int .i64 p.size] 62)).alloc (.cells #[.string q.id, .int .i64 q.prio, .bool q.crit, .int .i64 q.r0, .int .i64 q.r1, .int .i64 q.r2, .int .i64 q.l0, .int .i64 q.l1, .int .i64 q.l2, .string q.img, .int .i64 q.size] 62)).alloc (.cells #[.int .i64 t, .int .i64 x0, .int .i64 x1, .int .i64 x2, .slice a U.length cap] 32)).cell? ⟨w.heap.size, 8, none⟩ = some (.int .i64 p.l2) := by first | (simp; done) | (rw [World.cell?_alloc_at _ _ _ _ (by simp)]; rfl) | (rw [World.cell?_alloc_past _ _ _ (by simp <;> omega), World.cell?_alloc_at _ _ _ _ (by simp)]; rfl) | (rw [World.cell?_alloc_past _ _ _ (by simp <;> omega), World.cell?_alloc_past _ _ _ (by simp <;> omega), World.cell?_alloc_at _ _ _ _ (by simp)]; rfl)
  have pp9 : (((w.alloc (.cells #[.string p.id, .int .i64 p.prio, .bool p.crit, .int .i64 p.r0, .int .i64 p.r1, .int .i64 p.r2, .int .i64 p.l0, .int .i64 p.l1, .int .i64 p.l2, .string p.img, .int .i64 p.size] 62)).alloc (.cells #[.string q.id, .int .i64 q.prio, .bool q.crit, .int .i64 q.r0, .int .i64 q.r1, .int .i64 q.r2, .int .i64 q.l0, .int .i64 q.l1, .int .i64 q.l2, .string q.img, .int .i64 q.size] 62)).alloc (.cells #[.int .i64 t, .int .i64 x0, .int .i64 x1, .int .i64 x2, .slice a U.length cap] 32)).cell? ⟨w.heap.size, 9, none⟩ = some (.string p.img) := by first | (simp; done) | (rw [World.cell?_alloc_at _ _ _ _ (by simp)]; rfl) | (rw [World.cell?_alloc_past _ _ _ (by simp <;> omega), World.cell?_alloc_at _ _ _ _ (by simp)]; rfl) | (rw [World.cell?_alloc_past _ _ _ (by simp <;> omega), World.cell?_alloc_past _ _ _ (by simp <;> omega), World.cell?_alloc_at _ _ _ _ (by simp)]; rfl)
  have pp10 : (((w.alloc (.cells #[.string p.id, .int .i64 p.prio, .bool p.crit, .int .i64 p.r0, .int .i64 p.r1, .int .i64 p.r2, .int .i64 p.l0, .int .i64 p.l1, .int .i64 p.l2, .string p.img, .int .i64 p.size] 62)).alloc (.cells #[.string q.id, .int .i64 q.prio, .bool q.crit, .int .i64 q.r0, .int .i64 q.r1, .int .i64 q.r2, .int .i64 q.l0, .int .i64 q.l1, .int .i64 q.l2, .string q.img, .int .i64 q.size] 62)).alloc (.cells #[.int .i64 t, .int .i64 x0, .int .i64 x1, .int .i64 x2, .slice a U.length cap] 32)).cell? ⟨w.heap.size, 10, none⟩ = some (.int .i64 p.size) := by first | (simp; done) | (rw [World.cell?_alloc_at _ _ _ _ (by simp)]; rfl) | (rw [World.cell?_alloc_past _ _ _ (by simp <;> omega), World.cell?_alloc_at _ _ _ _ (by simp)]; rfl) | (rw [World.cell?_alloc_past _ _ _ (by simp <;> omega), World.cell?_alloc_past _ _ _ (by simp <;> omega), World.cell?_alloc_at _ _ _ _ (by simp)]; rfl)
  have qq0 : (((w.alloc (.cells #[.string p.id, .int .i64 p.prio, .bool p.crit, .int .i64 p.r0, .int .i64 p.r1, .int .i64 p.r2, .int .i64 p.l0, .int .i64 p.l1, .int .i64 p.l2, .string p.img, .int .i64 p.size] 62)).alloc (.cells #[.string q.id, .int .i64 q.prio, .bool q.crit, .int .i64 q.r0, .int .i64 q.r1, .int .i64 q.r2, .int .i64 q.l0, .int .i64 q.l1, .int .i64 q.l2, .string q.img, .int .i64 q.size] 62)).alloc (.cells #[.int .i64 t, .int .i64 x0, .int .i64 x1, .int .i64 x2, .slice a U.length cap] 32)).cell? ⟨w.heap.size + 1, 0, none⟩ = some (.string q.id) := by first | (simp; done) | (rw [World.cell?_alloc_at _ _ _ _ (by simp)]; rfl) | (rw [World.cell?_alloc_past _ _ _ (by simp <;> omega), World.cell?_alloc_at _ _ _ _ (by simp)]; rfl) | (rw [World.cell?_alloc_past _ _ _ (by simp <;> omega), World.cell?_alloc_past _ _ _ (by simp <;> omega), World.cell?_alloc_at _ _ _ _ (by simp)]; rfl)
  have qq1 : (((w.alloc (.cells #[.string p.id, .int .i64 p.prio, .bool p.crit, .int .i64 p.r0, .int .i64 p.r1, .int .i64 p.r2, .int .i64 p.l0, .int .i64 p.l1, .int .i64 p.l2, .string p.img, .int .i64 p.size] 62)).alloc (.cells #[.string q.id, .int .i64 q.prio, .bool q.crit, .int .i64 q.r0, .int .i64 q.r1, .int .i64 q.r2, .int .i64 q.l0, .int .i64 q.l1, .int .i64 q.l2, .string q.img, .int .i64 q.size] 62)).alloc (.cells #[.int .i64 t, .int .i64 x0, .int .i64 x1, .int .i64 x2, .slice a U.length cap] 32)).cell? ⟨w.heap.size + 1, 1, none⟩ = some (.int .i64 q.prio) := by first | (simp; done) | (rw [World.cell?_alloc_at _ _ _ _ (by simp)]; rfl) | (rw [World.cell?_alloc_past _ _ _ (by simp <;> omega), World.cell?_alloc_at _ _ _ _ (by simp)]; rfl) | (rw [World.cell?_alloc_past _ _ _ (by simp <;> omega), World.cell?_alloc_past _ _ _ (by simp <;> omega), World.cell?_alloc_at _ _ _ _ (by simp)]; rfl)
  have qq2 : (((w.alloc (.cells #[.string p.id, .int .i64 p.prio, .bool p.crit, .int .i64 p.r0, .int .i64 p.r1, .int .i64 p.r2, .int .i64 p.l0, .int .i64 p.l1, .int .i64 p.l2, .string p.img, .int .i64 p.size] 62)).alloc (.cells #[.string q.id, .int .i64 q.prio, .bool q.crit, .int .i64 q.r0, .int .i64 q.r1, .int .i64 q.r2, .int .i64 q.l0, .int .i64 q.l1, .int .i64 q.l2, .string q.img, .int .i64 q.size] 62)).alloc (.cells #[.int .i64 t, .int .i64 x0, .int .i64 x1, .int .i64 x2, .slice a U.length cap] 32)).cell? ⟨w.heap.size + 1, 2, none⟩ = some (.bool q.crit) := by first | (simp; done) | (rw [World.cell?_alloc_at _ _ _ _ (by simp)]; rfl) | (rw [World.cell?_alloc_past _ _ _ (by simp <;> omega), World.cell?_alloc_at _ _ _ _ (by simp)]; rfl) | (rw [World.cell?_alloc_past _ _ _ (by simp <;> omega), World.cell?_alloc_past _ _ _ (by simp <;> omega), World.cell?_alloc_at _ _ _ _ (by simp)]; rfl)
  have qq3 : (((w.alloc (.cells #[.string p.id, .int .i64 p.prio, .bool p.crit, .int .i64 p.r0, .int .i64 p.r1, .int .i64 p.r2, .int .i64 p.l0, .int .i64 p.l1, .int .i64 p.l2, .string p.img, .int .i64 p.size] 62)).alloc (.cells #[.string q.id, .int .i64 q.prio, .bool q.crit, .int .i64 q.r0, .int .i64 q.r1, .int .i64 q.r2, .int .i64 q.l0, .int .i64 q.l1, .int .i64 q.l2, .string q.img, .int .i64 q.size] 62)).alloc (.cells #[.int .i64 t, .int .i64 x0, .int .i64 x1, .int .i64 x2, .slice a U.length cap] 32)).cell? ⟨w.heap.size + 1, 3, none⟩ = some (.int .i64 q.r0) := by first | (simp; done) | (rw [World.cell?_alloc_at _ _ _ _ (by simp)]; rfl) | (rw [World.cell?_alloc_past _ _ _ (by simp <;> omega), World.cell?_alloc_at _ _ _ _ (by simp)]; rfl) | (rw [World.cell?_alloc_past _ _ _ (by simp <;> omega), World.cell?_alloc_past _ _ _ (by simp <;> omega), World.cell?_alloc_at _ _ _ _ (by simp)]; rfl)
  have qq4 : (((w.alloc (.cells #[.string p.id, .int .i64 p.prio, .bool p.crit, .int .i64 p.r0, .int .i64 p.r1, .int .i64 p.r2, .int .i64 p.l0, .int .i64 p.l1, .int .i64 p.l2, .string p.img, .int .i64 p.size] 62)).alloc (.cells #[.string q.id, .int .i64 q.prio, .bool q.crit, .int .i64 q.r0, .int .i64 q.r1, .int .i64 q.r2, .int .i64 q.l0, .int .i64 q.l1, .int .i64 q.l2, .string q.img, .int .i64 q.size] 62)).alloc (.cells #[.int .i64 t, .int .i64 x0, .int .i64 x1, .int .i64 x2, .slice a U.length cap] 32)).cell? ⟨w.heap.size + 1, 4, none⟩ = some (.int .i64 q.r1) := by first | (simp; done) | (rw [World.cell?_alloc_at _ _ _ _ (by simp)]; rfl) | (rw [World.cell?_alloc_past _ _ _ (by simp <;> omega), World.cell?_alloc_at _ _ _ _ (by simp)]; rfl) | (rw [World.cell?_alloc_past _ _ _ (by simp <;> omega), World.cell?_alloc_past _ _ _ (by simp <;> omega), World.cell?_alloc_at _ _ _ _ (by simp)]; rfl)
  have qq5 : (((w.alloc (.cells #[.string p.id, .int .i64 p.prio, .bool p.crit, .int .i64 p.r0, .int .i64 p.r1, .int .i64 p.r2, .int .i64 p.l0, .int .i64 p.l1, .int .i64 p.l2, .string p.img, .int .i64 p.size] 62)).alloc (.cells #[.string q.id, .int .i64 q.prio, .bool q.crit, .int .i64 q.r0, .int .i64 q.r1, .int .i64 q.r2, .int .i64 q.l0, .int .i64 q.l1, .int .i64 q.l2, .string q.img, .int .i64 q.size] 62)).alloc (.cells #[.int .i64 t, .int .i64 x0, .int .i64 x1, .int .i64 x2, .slice a U.length cap] 32)).cell? ⟨w.heap.size + 1, 5, none⟩ = some (.int .i64 q.r2) := by first | (simp; done) | (rw [World.cell?_alloc_at _ _ _ _ (by simp)]; rfl) | (rw [World.cell?_alloc_past _ _ _ (by simp <;> omega), World.cell?_alloc_at _ _ _ _ (by simp)]; rfl) | (rw [World.cell?_alloc_past _ _ _ (by simp <;> omega), World.cell?_alloc_past _ _ _ (by simp <;> omega), World.cell?_alloc_at _ _ _ _ (by simp)]; rfl)
  have qq6 : (((w.alloc (.cells #[.string p.id, .int .i64 p.prio, .bool p.crit, .int .i64 p.r0, .int .i64 p.r1, .int .i64 p.r2, .int .i64 p.l0, .int .i64 p.l1, .int .i64 p.l2, .string p.img, .int .i64 p.size] 62)).alloc (.cells #[.string q.id, .int .i64 q.prio, .bool q.crit, .int .i64 q.r0, .int .i64 q.r1, .int .i64 q.r2, .int .i64 q.l0, .int .i64 q.l1, .int .i64 q.l2, .string q.img, .int .i64 q.size] 62)).alloc (.cells #[.int .i64 t, .int .i64 x0, .int .i64 x1, .int .i64 x2, .slice a U.length cap] 32)).cell? ⟨w.heap.size + 1, 6, none⟩ = some (.int .i64 q.l0) := by first | (simp; done) | (rw [World.cell?_alloc_at _ _ _ _ (by simp)]; rfl) | (rw [World.cell?_alloc_past _ _ _ (by simp <;> omega), World.cell?_alloc_at _ _ _ _ (by simp)]; rfl) | (rw [World.cell?_alloc_past _ _ _ (by simp <;> omega), World.cell?_alloc_past _ _ _ (by simp <;> omega), World.cell?_alloc_at _ _ _ _ (by simp)]; rfl)
  have qq7 : (((w.alloc (.cells #[.string p.id, .int .i64 p.prio, .bool p.crit, .int .i64 p.r0, .int .i64 p.r1, .int .i64 p.r2, .int .i64 p.l0, .int .i64 p.l1, .int .i64 p.l2, .string p.img, .int .i64 p.size] 62)).alloc (.cells #[.string q.id, .int .i64 q.prio, .bool q.crit, .int .i64 q.r0, .int .i64 q.r1, .int .i64 q.r2, .int .i64 q.l0, .int .i64 q.l1, .int .i64 q.l2, .string q.img, .int .i64 q.size] 62)).alloc (.cells #[.int .i64 t, .int .i64 x0, .int .i64 x1, .int .i64 x2, .slice a U.length cap] 32)).cell? ⟨w.heap.size + 1, 7, none⟩ = some (.int .i64 q.l1) := by first | (simp; done) | (rw [World.cell?_alloc_at _ _ _ _ (by simp)]; rfl) | (rw [World.cell?_alloc_past _ _ _ (by simp <;> omega), World.cell?_alloc_at _ _ _ _ (by simp)]; rfl) | (rw [World.cell?_alloc_past _ _ _ (by simp <;> omega), World.cell?_alloc_past _ _ _ (by simp <;> omega), World.cell?_alloc_at _ _ _ _ (by simp)]; rfl)
  have qq8 : (((w.alloc (.cells #[.string p.id, .int .i64 p.prio, .bool p.crit, .int .i64 p.r0, .int .i64 p.r1, .int .i64 p.r2, .int .i64 p.l0, .int .i64 p.l1, .int .i64 p.l2, .string p.img, .int .i64 p.size] 62)).alloc (.cells #[.string q.id, .int .i64 q.prio, .bool q.crit, .int .i64 q.r0, .int .i64 q.r1, .int .i64 q.r2, .int .i64 q.l0, .int .i64 q.l1, .int .i64 q.l2, .string q.img, .int .i64 q.size] 62)).alloc (.cells #[.int .i64 t, .int .i64 x0, .int .i64 x1, .int .i64 x2, .slice a U.length cap] 32)).cell? ⟨w.heap.size + 1, 8, none⟩ = some (.int .i64 q.l2) := by first | (simp; done) | (rw [World.cell?_alloc_at _ _ _ _ (by simp)]; rfl) | (rw [World.cell?_alloc_past _ _ _ (by simp <;> omega), World.cell?_alloc_at _ _ _ _ (by simp)]; rfl) | (rw [World.cell?_alloc_past _ _ _ (by simp <;> omega), World.cell?_alloc_past _ _ _ (by simp <;> omega), World.cell?_alloc_at _ _ _ _ (by simp)]; rfl)
  have qq9 : (((w.alloc (.cells #[.string p.id, .int .i64 p.prio, .bool p.crit, .int .i64 p.r0, .int .i64 p.r1, .int .i64 p.r2, .int .i64 p.l0, .int .i64 p.l1, .int .i64 p.l2, .string p.img, .int .i64 p.size] 62)).alloc (.cells #[.string q.id, .int .i64 q.prio, .bool q.crit, .int .i64 q.r0, .int .i64 q.r1, .int .i64 q.r2, .int .i64 q.l0, .int .i64 q.l1, .int .i64 q.l2, .string q.img, .int .i64 q.size] 62)).alloc (.cells #[.int .i64 t, .int .i64 x0, .int .i64 x1, .int .i64 x2, .slice a U.length cap] 32)).cell? ⟨w.heap.size + 1, 9, none⟩ = some (.string q.img) := by first | (simp; done) | (rw [World.cell?_alloc_at _ _ _ _ (by simp)]; rfl) | (rw [World.cell?_alloc_past _ _ _ (by simp <;> omega), World.cell?_alloc_at _ _ _ _ (by simp)]; rfl) | (rw [World.cell?_alloc_past _ _ _ (by simp <;> omega), World.cell?_alloc_past _ _ _ (by simp <;> omega), World.cell?_alloc_at _ _ _ _ (by simp)]; rfl)
  have qq10 : (((w.alloc (.cells #[.string p.id, .int .i64 p.prio, .bool p.crit, .int .i64 p.r0, .int .i64 p.r1, .int .i64 p.r2, .int .i64 p.l0, .int .i64 p.l1, .int .i64 p.l2, .string p.img, .int .i64 p.size] 62)).alloc (.cells #[.string q.id, .int .i64 q.prio, .bool q.crit, .int .i64 q.r0, .int .i64 q.r1, .int .i64 q.r2, .int .i64 q.l0, .int .i64 q.l1, .int .i64 q.l2, .string q.img, .int .i64 q.size] 62)).alloc (.cells #[.int .i64 t, .int .i64 x0, .int .i64 x1, .int .i64 x2, .slice a U.length cap] 32)).cell? ⟨w.heap.size + 1, 10, none⟩ = some (.int .i64 q.size) := by first | (simp; done) | (rw [World.cell?_alloc_at _ _ _ _ (by simp)]; rfl) | (rw [World.cell?_alloc_past _ _ _ (by simp <;> omega), World.cell?_alloc_at _ _ _ _ (by simp)]; rfl) | (rw [World.cell?_alloc_past _ _ _ (by simp <;> omega), World.cell?_alloc_past _ _ _ (by simp <;> omega), World.cell?_alloc_at _ _ _ _ (by simp)]; rfl)
  have sp0 : (((w.alloc (.cells #[.string p.id, .int .i64 p.prio, .bool p.crit, .int .i64 p.r0, .int .i64 p.r1, .int .i64 p.r2, .int .i64 p.l0, .int .i64 p.l1, .int .i64 p.l2, .string p.img, .int .i64 p.size] 62)).alloc (.cells #[.string q.id, .int .i64 q.prio, .bool q.crit, .int .i64 q.r0, .int .i64 q.r1, .int .i64 q.r2, .int .i64 q.l0, .int .i64 q.l1, .int .i64 q.l2, .string q.img, .int .i64 q.size] 62)).alloc (.cells #[.int .i64 t, .int .i64 x0, .int .i64 x1, .int .i64 x2, .slice a U.length cap] 32)).cell? ⟨w.heap.size + 2, 0, none⟩ = some (.int .i64 t) := by first | (simp; done) | (rw [World.cell?_alloc_at _ _ _ _ (by simp)]; rfl) | (rw [World.cell?_alloc_past _ _ _ (by simp <;> omega), World.cell?_alloc_at _ _ _ _ (by simp)]; rfl) | (rw [World.cell?_alloc_past _ _ _ (by simp <;> omega), World.cell?_alloc_past _ _ _ (by simp <;> omega), World.cell?_alloc_at _ _ _ _ (by simp)]; rfl)
  have sp1 : (((w.alloc (.cells #[.string p.id, .int .i64 p.prio, .bool p.crit, .int .i64 p.r0, .int .i64 p.r1, .int .i64 p.r2, .int .i64 p.l0, .int .i64 p.l1, .int .i64 p.l2, .string p.img, .int .i64 p.size] 62)).alloc (.cells #[.string q.id, .int .i64 q.prio, .bool q.crit, .int .i64 q.r0, .int .i64 q.r1, .int .i64 q.r2, .int .i64 q.l0, .int .i64 q.l1, .int .i64 q.l2, .string q.img, .int .i64 q.size] 62)).alloc (.cells #[.int .i64 t, .int .i64 x0, .int .i64 x1, .int .i64 x2, .slice a U.length cap] 32)).cell? ⟨w.heap.size + 2, 1, none⟩ = some (.int .i64 x0) := by first | (simp; done) | (rw [World.cell?_alloc_at _ _ _ _ (by simp)]; rfl) | (rw [World.cell?_alloc_past _ _ _ (by simp <;> omega), World.cell?_alloc_at _ _ _ _ (by simp)]; rfl) | (rw [World.cell?_alloc_past _ _ _ (by simp <;> omega), World.cell?_alloc_past _ _ _ (by simp <;> omega), World.cell?_alloc_at _ _ _ _ (by simp)]; rfl)
  have sp2 : (((w.alloc (.cells #[.string p.id, .int .i64 p.prio, .bool p.crit, .int .i64 p.r0, .int .i64 p.r1, .int .i64 p.r2, .int .i64 p.l0, .int .i64 p.l1, .int .i64 p.l2, .string p.img, .int .i64 p.size] 62)).alloc (.cells #[.string q.id, .int .i64 q.prio, .bool q.crit, .int .i64 q.r0, .int .i64 q.r1, .int .i64 q.r2, .int .i64 q.l0, .int .i64 q.l1, .int .i64 q.l2, .string q.img, .int .i64 q.size] 62)).alloc (.cells #[.int .i64 t, .int .i64 x0, .int .i64 x1, .int .i64 x2, .slice a U.length cap] 32)).cell? ⟨w.heap.size + 2, 2, none⟩ = some (.int .i64 x1) := by first | (simp; done) | (rw [World.cell?_alloc_at _ _ _ _ (by simp)]; rfl) | (rw [World.cell?_alloc_past _ _ _ (by simp <;> omega), World.cell?_alloc_at _ _ _ _ (by simp)]; rfl) | (rw [World.cell?_alloc_past _ _ _ (by simp <;> omega), World.cell?_alloc_past _ _ _ (by simp <;> omega), World.cell?_alloc_at _ _ _ _ (by simp)]; rfl)
  have sp3 : (((w.alloc (.cells #[.string p.id, .int .i64 p.prio, .bool p.crit, .int .i64 p.r0, .int .i64 p.r1, .int .i64 p.r2, .int .i64 p.l0, .int .i64 p.l1, .int .i64 p.l2, .string p.img, .int .i64 p.size] 62)).alloc (.cells #[.string q.id, .int .i64 q.prio, .bool q.crit, .int .i64 q.r0, .int .i64 q.r1, .int .i64 q.r2, .int .i64 q.l0, .int .i64 q.l1, .int .i64 q.l2, .string q.img, .int .i64 q.size] 62)).alloc (.cells #[.int .i64 t, .int .i64 x0, .int .i64 x1, .int .i64 x2, .slice a U.length cap] 32)).cell? ⟨w.heap.size + 2, 3, none⟩ = some (.int .i64 x2) := by first | (simp; done) | (rw [World.cell?_alloc_at _ _ _ _ (by simp)]; rfl) | (rw [World.cell?_alloc_past _ _ _ (by simp <;> omega), World.cell?_alloc_at _ _ _ _ (by simp)]; rfl) | (rw [World.cell?_alloc_past _ _ _ (by simp <;> omega), World.cell?_alloc_past _ _ _ (by simp <;> omega), World.cell?_alloc_at _ _ _ _ (by simp)]; rfl)
  have sp4 : (((w.alloc (.cells #[.string p.id, .int .i64 p.prio, .bool p.crit, .int .i64 p.r0, .int .i64 p.r1, .int .i64 p.r2, .int .i64 p.l0, .int .i64 p.l1, .int .i64 p.l2, .string p.img, .int .i64 p.size] 62)).alloc (.cells #[.string q.id, .int .i64 q.prio, .bool q.crit, .int .i64 q.r0, .int .i64 q.r1, .int .i64 q.r2, .int .i64 q.l0, .int .i64 q.l1, .int .i64 q.l2, .string q.img, .int .i64 q.size] 62)).alloc (.cells #[.int .i64 t, .int .i64 x0, .int .i64 x1, .int .i64 x2, .slice a U.length cap] 32)).cell? ⟨w.heap.size + 2, 4, none⟩ = some (.slice a U.length cap) := by first | (simp; done) | (rw [World.cell?_alloc_at _ _ _ _ (by simp)]; rfl) | (rw [World.cell?_alloc_past _ _ _ (by simp <;> omega), World.cell?_alloc_at _ _ _ _ (by simp)]; rfl) | (rw [World.cell?_alloc_past _ _ _ (by simp <;> omega), World.cell?_alloc_past _ _ _ (by simp <;> omega), World.cell?_alloc_at _ _ _ _ (by simp)]; rfl)
  have hb2 := (by repeat (first | exact hbel | refine belAlloc ?_ _ | refine belDrew ?_ | refine belSet ?_ _ _ (by simp)) : Below w.heap.size w (((w.alloc (.cells #[.string p.id, .int .i64 p.prio, .bool p.crit, .int .i64 p.r0, .int .i64 p.r1, .int .i64 p.r2, .int .i64 p.l0, .int .i64 p.l1, .int .i64 p.l2, .string p.img, .int .i64 p.size] 62)).alloc (.cells #[.string q.id, .int .i64 q.prio, .bool q.crit, .int .i64 q.r0, .int .i64 q.r1, .int .i64 q.r2, .int .i64 q.l0, .int .i64 q.l1, .int .i64 q.l2, .string q.img, .int .i64 q.size] 62)).alloc (.cells #[.int .i64 t, .int .i64 x0, .int .i64 x1, .int .i64 x2, .slice a U.length cap] 32)))
  replace hw := belStep hw hb2
  clear hb2 hbel
  generalize ((w.alloc (.cells #[.string p.id, .int .i64 p.prio, .bool p.crit, .int .i64 p.r0, .int .i64 p.r1, .int .i64 p.r2, .int .i64 p.l0, .int .i64 p.l1, .int .i64 p.l2, .string p.img, .int .i64 p.size] 62)).alloc (.cells #[.string q.id, .int .i64 q.prio, .bool q.crit, .int .i64 q.r0, .int .i64 q.r1, .int .i64 q.r2, .int .i64 q.l0, .int .i64 q.l1, .int .i64 q.l2, .string q.img, .int .i64 q.size] 62)).alloc (.cells #[.int .i64 t, .int .i64 x0, .int .i64 x1, .int .i64 x2, .slice a U.length cap] 32) = W1 at *
  replace pp0 := keep pp0
  replace pp1 := keep pp1
  replace pp2 := keep pp2
  replace pp3 := keep pp3
  replace pp4 := keep pp4
  replace pp5 := keep pp5
  replace pp6 := keep pp6
  replace pp7 := keep pp7
  replace pp8 := keep pp8
  replace pp9 := keep pp9
  replace pp10 := keep pp10
  replace qq0 := keep qq0
  replace qq1 := keep qq1
  replace qq2 := keep qq2
  replace qq3 := keep qq3
  replace qq4 := keep qq4
  replace qq5 := keep qq5
  replace qq6 := keep qq6
  replace qq7 := keep qq7
  replace qq8 := keep qq8
  replace qq9 := keep qq9
  replace qq10 := keep qq10
  replace sp0 := keep sp0
  replace sp1 := keep sp1
  replace sp2 := keep sp2
  replace sp3 := keep sp3
  replace sp4 := keep sp4
  have hbel : Below W1.heap.size W1 W1 := Below.refl _ _
  skip
  clear hbel
  refine wp_region_held_drew (S := (fun u => Below W1.heap.size W1 u)) (by kernel_rfl) (by exact (show Below W1.heap.size W1 _ from by repeat (first | assumption | exact Below.refl _ _ | refine belDrew ?_ | refine belAlloc ?_ _ | refine belStep ?_ (by assumption)))) (fun hHeld => ?_)
  refine wpAnyH_take (i := 0) (oi := ?oi_24) (v := ?v_24) ?hi_24 (by kernel_rfl) ?hf_24 ?hr_24 ?hQ_24 (Or.inl ⟨?hw_24, ?hy_24⟩) (by assumption) ?rest_24
  case hi_24 => ((simp only [List.getElem?_toArray, List.getElem?_cons_succ, List.getElem?_cons_zero]); rfl)
  case hf_24 => kernel_rfl
  case hr_24 => kernel_rfl
  case hQ_24 => exact fun _ _ _ h => h
  case hw_24 => rfl
  case hy_24 => ((intro w hSw; (try dsimp only at hSw); go_simp); all_goals (with_reducible rfl))
  try simp only [Act.put, List.setIfInBounds_toArray, List.set_cons_zero, List.set_cons_succ]
  refine wpAnyH_take (i := 1) (oi := ?oi_25) (v := ?v_25) ?hi_25 (by kernel_rfl) ?hf_25 ?hr_25 ?hQ_25 (Or.inl ⟨?hw_25, ?hy_25⟩) (by assumption) ?rest_25
  case hi_25 => ((simp only [List.getElem?_toArray, List.getElem?_cons_succ, List.getElem?_cons_zero]); rfl)
  case hf_25 => kernel_rfl
  case hr_25 => kernel_rfl
  case hQ_25 => exact fun _ _ _ h => h
  case hw_25 => rfl
  case hy_25 => ((intro w hSw; (try dsimp only at hSw); go_simp); all_goals (with_reducible rfl))
  try simp only [Act.put, List.setIfInBounds_toArray, List.set_cons_zero, List.set_cons_succ]
  refine wpAnyH_take (i := 2) (oi := ?oi_26) (v := ?v_26) ?hi_26 (by kernel_rfl) ?hf_26 ?hr_26 ?hQ_26 (Or.inl ⟨?hw_26, ?hy_26⟩) (by assumption) ?rest_26
  case hi_26 => ((simp only [List.getElem?_toArray, List.getElem?_cons_succ, List.getElem?_cons_zero]); rfl)
  case hf_26 => kernel_rfl
  case hr_26 => kernel_rfl
  case hQ_26 => exact fun _ _ _ h => h
  case hw_26 => rfl
  case hy_26 => ((intro w hSw; (try dsimp only at hSw); go_simp); all_goals (with_reducible rfl))
  try simp only [Act.put, List.setIfInBounds_toArray, List.set_cons_zero, List.set_cons_succ]
  refine wpAnyH_take (i := 4) (oi := ?oi_27) (v := ?v_27) ?hi_27 (by kernel_rfl) ?hf_27 ?hr_27 ?hQ_27 (Or.inl ⟨?hw_27, ?hy_27⟩) (by assumption) ?rest_27
  case hi_27 => ((simp only [List.getElem?_toArray, List.getElem?_cons_succ, List.getElem?_cons_zero]); rfl)
  case hf_27 => kernel_rfl
  case hr_27 => kernel_rfl
  case hQ_27 => exact fun _ _ _ h => h
  case hw_27 => rfl
  case hy_27 => ((intro w hSw; (try dsimp only at hSw); go_simp); all_goals (with_reducible rfl))
  try simp only [Act.put, List.setIfInBounds_toArray, List.set_cons_zero, List.set_cons_succ]
  refine wpAnyH_take (i := 5) (oi := ?oi_28) (v := ?v_28) ?hi_28 (by kernel_rfl) ?hf_28 ?hr_28 ?hQ_28 (Or.inl ⟨?hw_28, ?hy_28⟩) (by assumption) ?rest_28
  case hi_28 => ((simp only [List.getElem?_toArray, List.getElem?_cons_succ, List.getElem?_cons_zero]); rfl)
  case hf_28 => kernel_rfl
  case hr_28 => kernel_rfl
  case hQ_28 => exact fun _ _ _ h => h
  case hw_28 => rfl
  case hy_28 => ((intro w hSw; (try dsimp only at hSw); go_simp); all_goals (with_reducible rfl))
  try simp only [Act.put, List.setIfInBounds_toArray, List.set_cons_zero, List.set_cons_succ]
  refine wpAnyH_take (i := 6) (oi := ?oi_29) (v := ?v_29) ?hi_29 (by kernel_rfl) ?hf_29 ?hr_29 ?hQ_29 (Or.inl ⟨?hw_29, ?hy_29⟩) (by assumption) ?rest_29
  case hi_29 => ((simp only [List.getElem?_toArray, List.getElem?_cons_succ, List.getElem?_cons_zero]); rfl)
  case hf_29 => kernel_rfl
  case hr_29 => kernel_rfl
  case hQ_29 => exact fun _ _ _ h => h
  case hw_29 => rfl
  case hy_29 => ((intro w hSw; (try dsimp only at hSw); go_simp); all_goals (with_reducible rfl))
  try simp only [Act.put, List.setIfInBounds_toArray, List.set_cons_zero, List.set_cons_succ]
  refine wpAnyH_ready (rs := [3]) (by kernel_rfl) (by simp) ?_
  refine AllReadyH.cons (o := ?o1_30) ?hi_30 (fun K hK => ?rest_30) AllReadyH.nil
  case hi_30 => ((simp only [List.getElem?_toArray, List.getElem?_cons_succ, List.getElem?_cons_zero]); rfl)
  go_simp
  (first | (go_at_call 60; (with_reducible refine (CP.out _ (belStep hw hHeld)).mono ?_); rintro e wq ⟨rfl, hbq⟩) | (go_at_call 60; (with_reducible refine (CQ.out _ (belStep hw hHeld)).mono ?_); rintro e wq ⟨rfl, hbq⟩) | (go_at_call 59; (with_reducible refine (CC.out _).mono ?_); rintro e wq ⟨rfl, hgq⟩; have hbq := GW.below hgq))
  try go_simp
  refine hK.out _ _ (by exact (show Below W1.heap.size W1 _ from by repeat (first | assumption | exact Below.refl _ _ | refine belDrew ?_ | refine belAlloc ?_ _ | refine belStep ?_ (by assumption)))) (fun hHeld => ?_)
  clear hK K
  try simp only [Act.put, List.setIfInBounds_toArray, List.set_cons_zero, List.set_cons_succ]
  refine wpAnyH_ready (rs := [7]) (by kernel_rfl) (by simp) ?_
  refine AllReadyH.cons (o := ?o1_31) ?hi_31 (fun K hK => ?rest_31) AllReadyH.nil
  case hi_31 => ((simp only [List.getElem?_toArray, List.getElem?_cons_succ, List.getElem?_cons_zero]); rfl)
  go_simp
  (first | (go_at_call 60; (with_reducible refine (CP.out _ (belStep hw hHeld)).mono ?_); rintro e wq ⟨rfl, hbq⟩) | (go_at_call 60; (with_reducible refine (CQ.out _ (belStep hw hHeld)).mono ?_); rintro e wq ⟨rfl, hbq⟩) | (go_at_call 59; (with_reducible refine (CC.out _).mono ?_); rintro e wq ⟨rfl, hgq⟩; have hbq := GW.below hgq))
  try go_simp
  refine hK.out _ _ (by exact (show Below W1.heap.size W1 _ from by repeat (first | assumption | exact Below.refl _ _ | refine belDrew ?_ | refine belAlloc ?_ _ | refine belStep ?_ (by assumption)))) (fun hHeld => ?_)
  clear hK K
  try simp only [Act.put, List.setIfInBounds_toArray, List.set_cons_zero, List.set_cons_succ]
  refine wpAnyH_ready (rs := [8]) (by kernel_rfl) (by simp) ?_
  refine AllReadyH.cons (o := ?o1_32) ?hi_32 (fun K hK => ?rest_32) AllReadyH.nil
  case hi_32 => ((simp only [List.getElem?_toArray, List.getElem?_cons_succ, List.getElem?_cons_zero]); rfl)
  go_simp
  (first | (go_at_call 60; (with_reducible refine (CP.out _ (belStep hw hHeld)).mono ?_); rintro e wq ⟨rfl, hbq⟩) | (go_at_call 60; (with_reducible refine (CQ.out _ (belStep hw hHeld)).mono ?_); rintro e wq ⟨rfl, hbq⟩) | (go_at_call 59; (with_reducible refine (CC.out _).mono ?_); rintro e wq ⟨rfl, hgq⟩; have hbq := GW.below hgq))
  try go_simp
  refine hK.out _ _ (by exact (show Below W1.heap.size W1 _ from by repeat (first | assumption | exact Below.refl _ _ | refine belDrew ?_ | refine belAlloc ?_ _ | refine belStep ?_ (by assumption)))) (fun hHeld => ?_)
  clear hK K
  try simp only [Act.put, List.setIfInBounds_toArray, List.set_cons_zero, List.set_cons_succ]
  refine wpAnyH_take (i := 9) (oi := ?oi_33) (v := ?v_33) ?hi_33 (by kernel_rfl) ?hf_33 ?hr_33 ?hQ_33 (Or.inl ⟨?hw_33, ?hy_33⟩) (by assumption) ?rest_33
  case hi_33 => ((simp only [List.getElem?_toArray, List.getElem?_cons_succ, List.getElem?_cons_zero]); rfl)
  case hf_33 => kernel_rfl
  case hr_33 => kernel_rfl
  case hQ_33 => exact fun _ _ _ h => h
  case hw_33 => rfl
  case hy_33 => ((intro w hSw; (try dsimp only at hSw); go_simp); all_goals (with_reducible rfl))
  try simp only [Act.put, List.setIfInBounds_toArray, List.set_cons_zero, List.set_cons_succ]
  refine wpAnyH_take (i := 10) (oi := ?oi_34) (v := ?v_34) ?hi_34 (by kernel_rfl) ?hf_34 ?hr_34 ?hQ_34 (Or.inl ⟨?hw_34, ?hy_34⟩) (by assumption) ?rest_34
  case hi_34 => ((simp only [List.getElem?_toArray, List.getElem?_cons_succ, List.getElem?_cons_zero]); rfl)
  case hf_34 => kernel_rfl
  case hr_34 => kernel_rfl
  case hQ_34 => exact fun _ _ _ h => h
  case hw_34 => rfl
  case hy_34 => ((intro w hSw; (try dsimp only at hSw); go_simp); all_goals (with_reducible rfl))
  try simp only [Act.put, List.setIfInBounds_toArray, List.set_cons_zero, List.set_cons_succ]
  refine wpAnyH_done (by kernel_rfl) ?_ _
  go_wp2
  go_ret
  exact ⟨by rw [HA.out] <;> rfl, belStep hw hHeld⟩
end Go.Proofs.Ytcgpmihjodolmaa
