
/- The order of images: contracts. -/
import Derived.Test.YtampkolkbjmmkaaImMath
import Derived.Test.YtampkolkbjmmkaaShelfS
import Derived.Test.YtampkolkbjmmkaaApp
namespace Go.Proofs.Ytampkolkbjmmkaa
open Go.RowKit Go.Sort Go.Lib
set_option linter.unusedVariables false
set_option linter.unusedSimpArgs false
def cfI (x y : ImgV) : Int := orL [cI x.last y.last, cI y.size x.size, cS x.name y.name]
theorem cfI_eq : cfI = fun x y => orZ (cI x.last y.last) (orZ (cI y.size x.size) (cS x.name y.name)) := by
  funext x y
  show orZ _ (orZ _ (orZ _ 0)) = _
  congr 2
  unfold orZ
  split <;> simp_all
theorem ord_cfI : Ord3 cfI := cfI_eq ▸ (ordI ImgV.last).or ((ordIr ImgV.size).or (ordS ImgV.name))
theorem swo_cfI : Go.Sort.SWO (ltOf cfI) := ord_cfI.swo
theorem cfI_zero {x y : ImgV} (h : cfI x y = 0) : x.name.toList = y.name.toList ∧ x.size = y.size ∧ x.last = y.last := by
  rw [cfI_eq] at h
  simp only [orZ] at h
  by_cases h1 : cI x.last y.last = 0
  · by_cases h2 : cI y.size x.size = 0
    · rw [h1] at h; simp only [beq_self_eq_true, if_true] at h
      rw [h2] at h; simp only [beq_self_eq_true, if_true] at h
      exact ⟨cS_zero.1 h, (cI_zero.1 h2).symm, cI_zero.1 h1⟩
    · rw [h1] at h; simp only [beq_self_eq_true, if_true] at h
      rw [if_neg (by simpa using h2)] at h; exact absurd h h2
  · rw [if_neg (by simpa using h1)] at h; exact absurd h h1
theorem img_ext {x y : ImgV} (h1 : x.name.toList = y.name.toList) (h2 : x.size = y.size) (h3 : x.last = y.last) : x = y := by
  cases x; cases y
  simp only at h1 h2 h3
  rw [str_extG h1, h2, h3]
theorem tied_cfI (L : List ImgV) : Tied (ltOf cfI) L := fun x _ y _ h1 h2 => by
  obtain ⟨e1, e2, e3⟩ := cfI_zero (ord_cfI.tie h1 h2)
  exact img_ext e1 e2 e3
def ImgV.v (x : ImgV) : Value := .agg #[.string x.name, .int .i64 x.size, .int .i64 x.last]
theorem cI_inI (a b : Int) : InI (cI a b) := by unfold cI InI; omega
theorem cS_inI (a b : ByteArray) : InI (cS a b) := by unfold cS InI; split <;> (try split) <;> omega
theorem cmp_Or3 (a b c : Int) (M : Nat) (w : World) (ha : InI a) (hb : InI b) (hc : InI c) (h0 : w.cell? ⟨M, 0, none⟩ = some (.int .i64 a)) (h1 : w.cell? ⟨M, 1, none⟩ = some (.int .i64 b)) (h2 : w.cell? ⟨M, 2, none⟩ = some (.int .i64 c)) :
    Calls Try.prog 61 #[.slice (some ⟨M, 0, none⟩) 3 3] w fun e w' => e = .returned (.int .i64 (orL [a, b, c])) ∧ w = w' := by
  refine cmp_OrL _ 3 3 [a, b, c] w ⟨⟨rfl, Nat.le_refl _, by unfold maxLen; omega, (fun h => by cases h), .inr ⟨M, 0, rfl, fun i hi => ?_⟩⟩, fun n hn => ?_⟩ (by omega)
  · rw [Nat.zero_add]
    match i, hi with
    | 0, _ => exact h0
    | 1, _ => exact h1
    | 2, _ => exact h2
  · simp only [List.mem_cons, List.not_mem_nil, or_false] at hn
    rcases hn with rfl | rfl | rfl
    · exact wfI64 ha.1 ha.2
    · exact wfI64 hb.1 hb.2
    · exact wfI64 hc.1 hc.2
set_option maxRecDepth 100000 in
set_option maxHeartbeats 16000000 in
theorem im_ahead (x y : ImgV) (w : World) :
    Calls Try.prog 97 #[x.v, y.v] w fun e w' => e = .returned (.int .i64 (cfI x y)) ∧ GW w w' := by
  unfold ImgV.v
  have C1 := Lib.hid (fun v => cmp_intI x.last y.last v)
  have C2 := Lib.hid (fun v => cmp_intI y.size x.size v)
  have C3 := Lib.hid (fun v => cmp_strS x.name y.name v)
  have hd : cfI x y = orL [cI x.last y.last, cI y.size x.size, cS x.name y.name] := rfl
  have I1 := Lib.hid (cI_inI x.last y.last)
  have I2 := Lib.hid (cI_inI y.size x.size)
  have I3 := Lib.hid (cS_inI x.name y.name)
  generalize cI x.last y.last = c1 at *
  generalize cI y.size x.size = c2 at *
  generalize cS x.name y.name = c3 at *
  generalize cfI x y = c at *
  have HD := Lib.hid hd
  clear hd
  have hw : Below w.heap.size w w := Below.refl _ _
  have hbel := hw
  have HG := Lib.hid (show GW w ((w.alloc (.cells #[.string x.name, .int .i64 x.size, .int .i64 x.last] 46)).alloc (.cells #[.string y.name, .int .i64 y.size, .int .i64 y.last] 46)) from ((GW.refl w).alloc _).alloc _)
  go_enter Try.func97, Try.ntmps97
  go_upto_region 1 with fail
  have a0 : ((w.alloc (.cells #[.string x.name, .int .i64 x.size, .int .i64 x.last] 46)).alloc (.cells #[.string y.name, .int .i64 y.size, .int .i64 y.last] 46)).cell? ⟨w.heap.size, 0, none⟩ = some (.string x.name) := by first | (simp; done) | (rw [World.cell?_alloc_at _ _ _ _ (by simp)]; rfl) | (rw [World.cell?_alloc_past _ _ _ (by simp <;> omega), World.cell?_alloc_at _ _ _ _ (by simp)]; rfl) | (rw [World.cell?_alloc_past _ _ _ (by simp <;> omega), World.cell?_alloc_past _ _ _ (by simp <;> omega), World.cell?_alloc_at _ _ _ _ (by simp)]; rfl)
  have a1 : ((w.alloc (.cells #[.string x.name, .int .i64 x.size, .int .i64 x.last] 46)).alloc (.cells #[.string y.name, .int .i64 y.size, .int .i64 y.last] 46)).cell? ⟨w.heap.size, 1, none⟩ = some (.int .i64 x.size) := by first | (simp; done) | (rw [World.cell?_alloc_at _ _ _ _ (by simp)]; rfl) | (rw [World.cell?_alloc_past _ _ _ (by simp <;> omega), World.cell?_alloc_at _ _ _ _ (by simp)]; rfl) | (rw [World.cell?_alloc_past _ _ _ (by simp <;> omega), World.cell?_alloc_past _ _ _ (by simp <;> omega), World.cell?_alloc_at _ _ _ _ (by simp)]; rfl)
  have a2 : ((w.alloc (.cells #[.string x.name, .int .i64 x.size, .int .i64 x.last] 46)).alloc (.cells #[.string y.name, .int .i64 y.size, .int .i64 y.last] 46)).cell? ⟨w.heap.size, 2, none⟩ = some (.int .i64 x.last) := by first | (simp; done) | (rw [World.cell?_alloc_at _ _ _ _ (by simp)]; rfl) | (rw [World.cell?_alloc_past _ _ _ (by simp <;> omega), World.cell?_alloc_at _ _ _ _ (by simp)]; rfl) | (rw [World.cell?_alloc_past _ _ _ (by simp <;> omega), World.cell?_alloc_past _ _ _ (by simp <;> omega), World.cell?_alloc_at _ _ _ _ (by simp)]; rfl)
  have b0 : ((w.alloc (.cells #[.string x.name, .int .i64 x.size, .int .i64 x.last] 46)).alloc (.cells #[.string y.name, .int .i64 y.size, .int .i64 y.last] 46)).cell? ⟨w.heap.size + 1, 0, none⟩ = some (.string y.name) := by first | (simp; done) | (rw [World.cell?_alloc_at _ _ _ _ (by simp)]; rfl) | (rw [World.cell?_alloc_past _ _ _ (by simp <;> omega), World.cell?_alloc_at _ _ _ _ (by simp)]; rfl) | (rw [World.cell?_alloc_past _ _ _ (by simp <;> omega), World.cell?_alloc_past _ _ _ (by simp <;> omega), World.cell?_alloc_at _ _ _ _ (by simp)]; rfl)
  have b1 : ((w.alloc (.cells #[.string x.name, .int .i64 x.size, .int .i64 x.last] 46)).alloc (.cells #[.string y.name, .int .i64 y.size, .int .i64 y.last] 46)).cell? ⟨w.heap.size + 1, 1, none⟩ = some (.int .i64 y.size) := by first | (simp; done) | (rw [World.cell?_alloc_at _ _ _ _ (by simp)]; rfl) | (rw [World.cell?_alloc_past _ _ _ (by simp <;> omega), World.cell?_alloc_at _ _ _ _ (by simp)]; rfl) | (rw [World.cell?_alloc_past _ _ _ (by simp <;> omega), World.cell?_alloc_past _ _ _ (by simp <;> omega), World.cell?_alloc_at _ _ _ _ (by simp)]; rfl)
  have b2 : ((w.alloc (.cells #[.string x.name, .int .i64 x.size, .int .i64 x.last] 46)).alloc (.cells #[.string y.name, .int .i64 y.size, .int .i64 y.last] 46)).cell? ⟨w.heap.size + 1, 2, none⟩ = some (.int .i64 y.last) := by first | (simp; done) | (rw [World.cell?_alloc_at _ _ _ _ (by simp)]; rfl) | (rw [World.cell?_alloc_past _ _ _ (by simp <;> omega), World.cell?_alloc_at _ _ _ _ (by simp)]; rfl) | (rw [World.cell?_alloc_past _ _ _ (by simp <;> omega), World.cell?_alloc_past _ _ _ (by simp <;> omega), World.cell?_alloc_at _ _ _ _ (by simp)]; rfl)
  have hb2 := (by repeat (first | exact hbel | refine belAlloc ?_ _ | refine belDrew ?_ | refine belSet ?_ _ _ (by simp)) : Below w.heap.size w ((w.alloc (.cells #[.string x.name, .int .i64 x.size, .int .i64 x.last] 46)).alloc (.cells #[.string y.name, .int .i64 y.size, .int .i64 y.last] 46)))
  replace hw := belStep hw hb2
  clear hb2 hbel
  generalize (w.alloc (.cells #[.string x.name, .int .i64 x.size, .int .i64 x.last] 46)).alloc (.cells #[.string y.name, .int .i64 y.size, .int .i64 y.last] 46) = W1 at *
  replace a0 := keep a0
  replace a1 := keep a1
  replace a2 := keep a2
  replace b0 := keep b0
  replace b1 := keep b1
  replace b2 := keep b2
  have hbel : Below W1.heap.size W1 W1 := Below.refl _ _
  skip
  have a0g := fun u (h : GW W1 u) => a0 u h.below
  have a1g := fun u (h : GW W1 u) => a1 u h.below
  have a2g := fun u (h : GW W1 u) => a2 u h.below
  have b0g := fun u (h : GW W1 u) => b0 u h.below
  have b1g := fun u (h : GW W1 u) => b1 u h.below
  have b2g := fun u (h : GW W1 u) => b2 u h.below
  clear a0 a1 a2 b0 b1 b2 hw hbel
  refine wp_region_held_drew (S := (fun u => GW W1 u)) (by kernel_rfl) (by exact (show GW W1 _ from by repeat (first | assumption | exact GW.refl _ | refine GW.drew ?_ | refine GW.alloc ?_ _))) (fun hHeld => ?_)
  refine wpAnyH_take (i := 0) (oi := ?oi_1) (v := ?v_1) ?hi_1 (by kernel_rfl) ?hf_1 ?hr_1 ?hQ_1 (Or.inl ⟨?hw_1, ?hy_1⟩) (by assumption) ?rest_1
  case hi_1 => ((simp only [List.getElem?_toArray, List.getElem?_cons_succ, List.getElem?_cons_zero]); rfl)
  case hf_1 => kernel_rfl
  case hr_1 => kernel_rfl
  case hQ_1 => exact fun _ _ _ h => h
  case hw_1 => rfl
  case hy_1 => ((intro w hSw; (try dsimp only at hSw); go_simp); all_goals (with_reducible rfl))
  try simp only [Act.put, List.setIfInBounds_toArray, List.set_cons_zero, List.set_cons_succ]
  refine wpAnyH_take (i := 1) (oi := ?oi_2) (v := ?v_2) ?hi_2 (by kernel_rfl) ?hf_2 ?hr_2 ?hQ_2 (Or.inl ⟨?hw_2, ?hy_2⟩) (by assumption) ?rest_2
  case hi_2 => ((simp only [List.getElem?_toArray, List.getElem?_cons_succ, List.getElem?_cons_zero]); rfl)
  case hf_2 => kernel_rfl
  case hr_2 => kernel_rfl
  case hQ_2 => exact fun _ _ _ h => h
  case hw_2 => rfl
  case hy_2 => ((intro w hSw; (try dsimp only at hSw); go_simp); all_goals (with_reducible rfl))
  try simp only [Act.put, List.setIfInBounds_toArray, List.set_cons_zero, List.set_cons_succ]
  refine wpAnyH_take (i := 2) (oi := ?oi_3) (v := ?v_3) ?hi_3 (by kernel_rfl) ?hf_3 ?hr_3 ?hQ_3 (Or.inl ⟨?hw_3, ?hy_3⟩) (by assumption) ?rest_3
  case hi_3 => ((simp only [List.getElem?_toArray, List.getElem?_cons_succ, List.getElem?_cons_zero]); rfl)
  case hf_3 => kernel_rfl
  case hr_3 => kernel_rfl
  case hQ_3 => exact fun _ _ _ h => h
  case hw_3 => rfl
  case hy_3 => ((intro w hSw; (try dsimp only at hSw); go_simp); all_goals (with_reducible rfl))
  try simp only [Act.put, List.setIfInBounds_toArray, List.set_cons_zero, List.set_cons_succ]
  refine wpAnyH_take (i := 3) (oi := ?oi_4) (v := ?v_4) ?hi_4 (by kernel_rfl) ?hf_4 ?hr_4 ?hQ_4 (Or.inl ⟨?hw_4, ?hy_4⟩) (by assumption) ?rest_4
  case hi_4 => ((simp only [List.getElem?_toArray, List.getElem?_cons_succ, List.getElem?_cons_zero]); rfl)
  case hf_4 => kernel_rfl
  case hr_4 => kernel_rfl
  case hQ_4 => exact fun _ _ _ h => h
  case hw_4 => rfl
  case hy_4 => ((intro w hSw; (try dsimp only at hSw); go_simp); all_goals (with_reducible rfl))
  try simp only [Act.put, List.setIfInBounds_toArray, List.set_cons_zero, List.set_cons_succ]
  refine wpAnyH_take (i := 5) (oi := ?oi_5) (v := ?v_5) ?hi_5 (by kernel_rfl) ?hf_5 ?hr_5 ?hQ_5 (Or.inl ⟨?hw_5, ?hy_5⟩) (by assumption) ?rest_5
  case hi_5 => ((simp only [List.getElem?_toArray, List.getElem?_cons_succ, List.getElem?_cons_zero]); rfl)
  case hf_5 => kernel_rfl
  case hr_5 => kernel_rfl
  case hQ_5 => exact fun _ _ _ h => h
  case hw_5 => rfl
  case hy_5 => ((intro w hSw; (try dsimp only at hSw); go_simp); all_goals (with_reducible rfl))
  try simp only [Act.put, List.setIfInBounds_toArray, List.set_cons_zero, List.set_cons_succ]
  refine wpAnyH_take (i := 6) (oi := ?oi_6) (v := ?v_6) ?hi_6 (by kernel_rfl) ?hf_6 ?hr_6 ?hQ_6 (Or.inl ⟨?hw_6, ?hy_6⟩) (by assumption) ?rest_6
  case hi_6 => ((simp only [List.getElem?_toArray, List.getElem?_cons_succ, List.getElem?_cons_zero]); rfl)
  case hf_6 => kernel_rfl
  case hr_6 => kernel_rfl
  case hQ_6 => exact fun _ _ _ h => h
  case hw_6 => rfl
  case hy_6 => ((intro w hSw; (try dsimp only at hSw); go_simp); all_goals (with_reducible rfl))
  try simp only [Act.put, List.setIfInBounds_toArray, List.set_cons_zero, List.set_cons_succ]
  refine wpAnyH_take (i := 7) (oi := ?oi_7) (v := ?v_7) ?hi_7 (by kernel_rfl) ?hf_7 ?hr_7 ?hQ_7 (Or.inl ⟨?hw_7, ?hy_7⟩) (by assumption) ?rest_7
  case hi_7 => ((simp only [List.getElem?_toArray, List.getElem?_cons_succ, List.getElem?_cons_zero]); rfl)
  case hf_7 => kernel_rfl
  case hr_7 => kernel_rfl
  case hQ_7 => exact fun _ _ _ h => h
  case hw_7 => rfl
  case hy_7 => ((intro w hSw; (try dsimp only at hSw); go_simp); all_goals (with_reducible rfl))
  try simp only [Act.put, List.setIfInBounds_toArray, List.set_cons_zero, List.set_cons_succ]
  refine wpAnyH_take (i := 8) (oi := ?oi_8) (v := ?v_8) ?hi_8 (by kernel_rfl) ?hf_8 ?hr_8 ?hQ_8 (Or.inl ⟨?hw_8, ?hy_8⟩) (by assumption) ?rest_8
  case hi_8 => ((simp only [List.getElem?_toArray, List.getElem?_cons_succ, List.getElem?_cons_zero]); rfl)
  case hf_8 => kernel_rfl
  case hr_8 => kernel_rfl
  case hQ_8 => exact fun _ _ _ h => h
  case hw_8 => rfl
  case hy_8 => ((intro w hSw; (try dsimp only at hSw); go_simp); all_goals (with_reducible rfl))
  try simp only [Act.put, List.setIfInBounds_toArray, List.set_cons_zero, List.set_cons_succ]
  refine wpAnyH_take (i := 10) (oi := ?oi_9) (v := ?v_9) ?hi_9 (by kernel_rfl) ?hf_9 ?hr_9 ?hQ_9 (Or.inl ⟨?hw_9, ?hy_9⟩) (by assumption) ?rest_9
  case hi_9 => ((simp only [List.getElem?_toArray, List.getElem?_cons_succ, List.getElem?_cons_zero]); rfl)
  case hf_9 => kernel_rfl
  case hr_9 => kernel_rfl
  case hQ_9 => exact fun _ _ _ h => h
  case hw_9 => rfl
  case hy_9 => ((intro w hSw; (try dsimp only at hSw); go_simp); all_goals (with_reducible rfl))
  try simp only [Act.put, List.setIfInBounds_toArray, List.set_cons_zero, List.set_cons_succ]
  refine wpAnyH_take (i := 11) (oi := ?oi_10) (v := ?v_10) ?hi_10 (by kernel_rfl) ?hf_10 ?hr_10 ?hQ_10 (Or.inl ⟨?hw_10, ?hy_10⟩) (by assumption) ?rest_10
  case hi_10 => ((simp only [List.getElem?_toArray, List.getElem?_cons_succ, List.getElem?_cons_zero]); rfl)
  case hf_10 => kernel_rfl
  case hr_10 => kernel_rfl
  case hQ_10 => exact fun _ _ _ h => h
  case hw_10 => rfl
  case hy_10 => ((intro w hSw; (try dsimp only at hSw); go_simp); all_goals (with_reducible rfl))
  try simp only [Act.put, List.setIfInBounds_toArray, List.set_cons_zero, List.set_cons_succ]
  refine wpAnyH_take (i := 12) (oi := ?oi_11) (v := ?v_11) ?hi_11 (by kernel_rfl) ?hf_11 ?hr_11 ?hQ_11 (Or.inl ⟨?hw_11, ?hy_11⟩) (by assumption) ?rest_11
  case hi_11 => ((simp only [List.getElem?_toArray, List.getElem?_cons_succ, List.getElem?_cons_zero]); rfl)
  case hf_11 => kernel_rfl
  case hr_11 => kernel_rfl
  case hQ_11 => exact fun _ _ _ h => h
  case hw_11 => rfl
  case hy_11 => ((intro w hSw; (try dsimp only at hSw); go_simp); all_goals (with_reducible rfl))
  try simp only [Act.put, List.setIfInBounds_toArray, List.set_cons_zero, List.set_cons_succ]
  refine wpAnyH_take (i := 13) (oi := ?oi_12) (v := ?v_12) ?hi_12 (by kernel_rfl) ?hf_12 ?hr_12 ?hQ_12 (Or.inl ⟨?hw_12, ?hy_12⟩) (by assumption) ?rest_12
  case hi_12 => ((simp only [List.getElem?_toArray, List.getElem?_cons_succ, List.getElem?_cons_zero]); rfl)
  case hf_12 => kernel_rfl
  case hr_12 => kernel_rfl
  case hQ_12 => exact fun _ _ _ h => h
  case hw_12 => rfl
  case hy_12 => ((intro w hSw; (try dsimp only at hSw); go_simp); all_goals (with_reducible rfl))
  try simp only [Act.put, List.setIfInBounds_toArray, List.set_cons_zero, List.set_cons_succ]
  refine wpAnyH_ready (rs := [4]) (by kernel_rfl) (by simp) ?_
  refine AllReadyH.cons (o := ?o1_13) ?hi_13 (fun K hK => ?rest_13) AllReadyH.nil
  case hi_13 => ((simp only [List.getElem?_toArray, List.getElem?_cons_succ, List.getElem?_cons_zero]); rfl)
  go_simp
  (first | (go_at_call 62; (with_reducible refine (C1.out _).mono ?_); rintro e w2 ⟨rfl, rfl⟩) | (go_at_call 62; (with_reducible refine (C2.out _).mono ?_); rintro e w2 ⟨rfl, rfl⟩) | (go_at_call 63; (with_reducible refine (C3.out _).mono ?_); rintro e w2 ⟨rfl, rfl⟩) | (go_at_call 61; (with_reducible refine (cmp_Or3 c1 c2 c3 _ _ I1.out I2.out I3.out (by simp) (by simp) (by simp)).mono ?_); rintro e w2 ⟨rfl, rfl⟩))
  try go_simp
  refine hK.out _ _ (by exact (show GW W1 _ from by repeat (first | assumption | exact GW.refl _ | refine GW.drew ?_ | refine GW.alloc ?_ _))) (fun hHeld => ?_)
  clear hK K
  try simp only [Act.put, List.setIfInBounds_toArray, List.set_cons_zero, List.set_cons_succ]
  refine wpAnyH_ready (rs := [9]) (by kernel_rfl) (by simp) ?_
  refine AllReadyH.cons (o := ?o1_14) ?hi_14 (fun K hK => ?rest_14) AllReadyH.nil
  case hi_14 => ((simp only [List.getElem?_toArray, List.getElem?_cons_succ, List.getElem?_cons_zero]); rfl)
  go_simp
  (first | (go_at_call 62; (with_reducible refine (C1.out _).mono ?_); rintro e w2 ⟨rfl, rfl⟩) | (go_at_call 62; (with_reducible refine (C2.out _).mono ?_); rintro e w2 ⟨rfl, rfl⟩) | (go_at_call 63; (with_reducible refine (C3.out _).mono ?_); rintro e w2 ⟨rfl, rfl⟩) | (go_at_call 61; (with_reducible refine (cmp_Or3 c1 c2 c3 _ _ I1.out I2.out I3.out (by simp) (by simp) (by simp)).mono ?_); rintro e w2 ⟨rfl, rfl⟩))
  try go_simp
  refine hK.out _ _ (by exact (show GW W1 _ from by repeat (first | assumption | exact GW.refl _ | refine GW.drew ?_ | refine GW.alloc ?_ _))) (fun hHeld => ?_)
  clear hK K
  try simp only [Act.put, List.setIfInBounds_toArray, List.set_cons_zero, List.set_cons_succ]
  refine wpAnyH_ready (rs := [14]) (by kernel_rfl) (by simp) ?_
  refine AllReadyH.cons (o := ?o1_15) ?hi_15 (fun K hK => ?rest_15) AllReadyH.nil
  case hi_15 => ((simp only [List.getElem?_toArray, List.getElem?_cons_succ, List.getElem?_cons_zero]); rfl)
  go_simp
  (first | (go_at_call 62; (with_reducible refine (C1.out _).mono ?_); rintro e w2 ⟨rfl, rfl⟩) | (go_at_call 62; (with_reducible refine (C2.out _).mono ?_); rintro e w2 ⟨rfl, rfl⟩) | (go_at_call 63; (with_reducible refine (C3.out _).mono ?_); rintro e w2 ⟨rfl, rfl⟩) | (go_at_call 61; (with_reducible refine (cmp_Or3 c1 c2 c3 _ _ I1.out I2.out I3.out (by simp) (by simp) (by simp)).mono ?_); rintro e w2 ⟨rfl, rfl⟩))
  try go_simp
  refine hK.out _ _ (by exact (show GW W1 _ from by repeat (first | assumption | exact GW.refl _ | refine GW.drew ?_ | refine GW.alloc ?_ _))) (fun hHeld => ?_)
  clear hK K
  try simp only [Act.put, List.setIfInBounds_toArray, List.set_cons_zero, List.set_cons_succ]
  refine wpAnyH_ready (rs := [15]) (by kernel_rfl) (by simp) ?_
  refine AllReadyH.cons (o := ?o1_16) ?hi_16 (fun K hK => ?rest_16) AllReadyH.nil
  case hi_16 => ((simp only [List.getElem?_toArray, List.getElem?_cons_succ, List.getElem?_cons_zero]); rfl)
  go_simp
  refine hK.out _ _ (by exact (show GW W1 _ from by repeat (first | assumption | exact GW.refl _ | refine GW.drew ?_ | refine GW.alloc ?_ _))) (fun hHeld => ?_)
  clear hK K
  try simp only [Act.put, List.setIfInBounds_toArray, List.set_cons_zero, List.set_cons_succ]
  refine wpAnyH_ready (rs := [16]) (by kernel_rfl) (by simp) ?_
  refine AllReadyH.cons (o := ?o1_17) ?hi_17 (fun K hK => ?rest_17) AllReadyH.nil
  case hi_17 => ((simp only [List.getElem?_toArray, List.getElem?_cons_succ, List.getElem?_cons_zero]); rfl)
  go_simp
  (first | (go_at_call 62; (with_reducible refine (C1.out _).mono ?_); rintro e w2 ⟨rfl, rfl⟩) | (go_at_call 62; (with_reducible refine (C2.out _).mono ?_); rintro e w2 ⟨rfl, rfl⟩) | (go_at_call 63; (with_reducible refine (C3.out _).mono ?_); rintro e w2 ⟨rfl, rfl⟩) | (go_at_call 61; (with_reducible refine (cmp_Or3 c1 c2 c3 _ _ I1.out I2.out I3.out (by simp) (by simp) (by simp)).mono ?_); rintro e w2 ⟨rfl, rfl⟩))
  try go_simp
  refine hK.out _ _ (by exact (show GW W1 _ from by repeat (first | assumption | exact GW.refl _ | refine GW.drew ?_ | refine GW.alloc ?_ _))) (fun hHeld => ?_)
  clear hK K
  try simp only [Act.put, List.setIfInBounds_toArray, List.set_cons_zero, List.set_cons_succ]
  refine wpAnyH_take (i := 17) (oi := ?oi_18) (v := ?v_18) ?hi_18 (by kernel_rfl) ?hf_18 ?hr_18 ?hQ_18 (Or.inl ⟨?hw_18, ?hy_18⟩) (by assumption) ?rest_18
  case hi_18 => ((simp only [List.getElem?_toArray, List.getElem?_cons_succ, List.getElem?_cons_zero]); rfl)
  case hf_18 => kernel_rfl
  case hr_18 => kernel_rfl
  case hQ_18 => exact fun _ _ _ h => h
  case hw_18 => rfl
  case hy_18 => ((intro w hSw; (try dsimp only at hSw); go_simp); all_goals (with_reducible rfl))
  try simp only [Act.put, List.setIfInBounds_toArray, List.set_cons_zero, List.set_cons_succ]
  refine wpAnyH_done (by kernel_rfl) ?_ _
  go_wp2
  go_ret
  exact ⟨by rw [HD.out] <;> rfl, HG.out.trans hHeld⟩
theorem sort_imgs {w : World} {B : Nat} {v : Value} {n : Nat} {L : List ImgV} (hd : Tied (ltOf cfI) L) (hl : L.length ≤ 100000) (h : OwnR w B 46 3 v n (L.flatMap ImgV.cells)) (hn : L.length = n) :
    Calls Try.prog 96 #[v, .func (.func 97) #[] #[]] w fun e w' => e = .returned (.tuple #[]) ∧ OwnR w' B 46 3 v n ((sortBy (ltOf cfI) L).flatMap ImgV.cells) ∧ w.grownBy w' v.ownBlock := by
  rcases own_sort ImgV.cells 3 ImgV.cells_len h hn with ⟨rfl, h0⟩ | ⟨g, cap, rfl, hB, hg, hH, hO, hG⟩
  · subst h0
    have hnil : L = [] := List.eq_nil_of_length_eq_zero hn
    subst hnil
    refine (Try.slices_SortFunc_none_f96 (α := ImgV) none 0 (.func (.func 97) #[] #[]) w).mono ?_
    rintro e w' ⟨rfl, rfl⟩
    exact ⟨rfl, by rw [show sortBy (ltOf cfI) [] = [] from sortBy_nil]; exact h, ⟨rfl, rfl, rfl, Nat.le_refl _, fun _ _ _ => rfl⟩⟩
  · have eg : ∀ args w, (callFunc 97 args).run Try.prog w = .ok (.enter 97 args) w := enters_of Try.func97 (by kernel_rfl) rfl
    have hc := Try.slices_SortFunc_f96 3 Try.isAgg46 Try.sizeOf46 ImgV.cells ImgV.cells_len (fun x => img_one x) cfI (swo_cfI) 97 #[] g 0 cap L.toArray w eg (fun _ _ _ _ x y => (im_ahead x y _).mono fun _ _ ⟨h1, h2⟩ => ⟨h1, h2⟩) hH hg (by simp; omega)
    rw [show L.toArray.size = n by simpa using hn] at hc
    refine hc.mono ?_
    rintro e w' ⟨rfl, d', m, os, hp, hs, rfl⟩
    have hsz : d'.size = n := by have := hp.1; simpa [hn] using this
    have hperm : d'.toList.Perm L := by
      have h3 := hp.2.2
      rw [← hn, show L.length = L.toArray.size by simp, Array.extract_size, show L.toArray.size = d'.size by simp [hsz, hn], Array.extract_size] at h3
      exact h3
    have hpw : d'.toList.Pairwise (fun x y => ltOf cfI y x = false) := by
      rw [List.pairwise_iff_getElem]
      intro i j hi hj hij
      have hi' : i < d'.size := by simpa using hi
      have hj' : j < d'.size := by simpa using hj
      have := hs i j (Nat.zero_le _) hij (by omega)
      rw [getElem!_pos d' j hj', getElem!_pos d' i hi'] at this
      simpa using this
    have he : d'.toList = sortBy (ltOf cfI) L := sortBy_unique (swo_cfI) hd hperm hpw
    have hda : d' = (sortBy (ltOf cfI) L).toArray := by rw [← he]
    subst hda
    exact ⟨rfl, hO m (sortBy (ltOf cfI) L) os (by rw [show (sortBy (ltOf cfI) L).length = L.length from sortBy_len _ _]; exact hn), hG m _ os⟩
end Go.Proofs.Ytampkolkbjmmkaa
