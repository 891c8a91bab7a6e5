/- QuantOrder holds for every number, digit, units, byte and place. No conditions but that the library's tables lie as its own text lays them. -/
import Derived.Test.YtiaemcejgjobiaaDoorQuantLaws
namespace Go.Proofs.YtiaemcejgjobiaaDoor.quantOrder
open Go.ChangeShapes Go.WideShapes Go.ChangeAt Go.RowKit
open Go.ChangeMaps (open_string shut_string)
set_option linter.unusedVariables false
set_option linter.unusedSimpArgs false

set_option maxRecDepth 100000 in
set_option maxHeartbeats 8000000 in
theorem walk (n d i j c a : Int) (W : World) (ht : Tab W) (hn : 0 ≤ n ∧ n ≤ 4294967295) (hd : 0 ≤ d ∧ d ≤ 255) (hi : 0 ≤ i ∧ i ≤ 255) (hj : 0 ≤ j ∧ j ≤ 255) (hc : 0 ≤ c ∧ c ≤ 255) (ha : 0 ≤ a ∧ a ≤ 255) : Calls Tryd.prog 7 #[.int .u32 n, .int .u8 d, .int .u8 i, .int .u8 j, .int .u8 c, .int .u8 a] W fun e w' => e = .returned (.bool true) ∧ Below W.heap.size W w' := by
  have hbel : Below W.heap.size W W := Below.refl _ _
  have CA := Lib.hid (fun v (hv : Below W.heap.size W v) => awake05 v (ht.later hv))
  clear ht
  obtain ⟨hn1, hn2⟩ := hn
  obtain ⟨hd1, hd2⟩ := hd
  obtain ⟨hi1, hi2⟩ := hi
  obtain ⟨hj1, hj2⟩ := hj
  obtain ⟨hc1, hc2⟩ := hc
  obtain ⟨ha1, ha2⟩ := ha
  obtain ⟨dn, hdn⟩ : ∃ t : Nat, (d % 10) = t := ⟨(d % 10).toNat, by omega⟩
  obtain ⟨qi, hqi⟩ : ∃ t : Nat, (i % 8) = t := ⟨(i % 8).toNat, by omega⟩
  obtain ⟨qj, hqj⟩ : ∃ t : Nat, (j % 8) = t := ⟨(j % 8).toNat, by omega⟩
  have hdn10 : dn < 10 := by omega
  have hqi8 : qi < 8 := by omega
  have hqj8 : qj < 8 := by omega
  have hbi := unitP_bd qi hqi8
  have CD := Lib.hid (fun v => Digits_any n hn1 (by omega) v)
  have CE := Lib.hid (fun v => Digits_any (dn : Int) (by omega) (by omega) v)
  have R1 := fun v => read_dd n.toNat (by omega) qi hqi8 v
  have R2 := fun v => read_ddd n.toNat dn (by omega) hdn10 qi hqi8 v
  have R3 := fun v => read_dd n.toNat (by omega) qj hqj8 v
  have hxy := satMul_le2 n ((10 * n.toNat + dn : Nat) : Int) (unitP qi) hn1 (by omega) (by omega)
  have hzx := fun (h : qi ≤ qj) => satMul_le n (unitP qj) (unitP qi) hn1 (by have := unitP_bd qj hqj8; omega) (unitP_anti h hqj8)
  rw [Int.toNat_of_nonneg hn1] at R1 R3
  have hz := ddB_size n.toNat (by omega)
  have hzd := ddB_size dn (by omega)
  have z3 := nmB_size qi
  have z4 := nmB_size qj
  obtain ⟨L, hL⟩ : ∃ L, (ddB n.toNat).size = L := ⟨_, rfl⟩
  obtain ⟨k, hk⟩ : ∃ k : Nat, a % ((L : Int) + 1) = k := ⟨(a % ((L : Int) + 1)).toNat, by have := Int.emod_nonneg a (show ((L : Int) + 1) ≠ 0 by omega); omega⟩
  have hkL : k ≤ L := by have := Int.emod_lt_of_pos a (show 0 < ((L : Int) + 1) by omega); omega
  have HO := fun (h : odd c) v => read_odd n.toNat (by omega) c h k (by omega) v
  rw [Int.toNat_natCast] at CE
  generalize satMul n (unitP qi) = x at *
  generalize satMul n (unitP qj) = z at *
  generalize satMul ((10 * n.toNat + dn : Nat) : Int) (unitP qi) = y at *
  generalize ddB n.toNat = s at *
  generalize ddB dn = t at *
  have H1 := Lib.hid R1
  have H2 := Lib.hid R2
  have H3 := Lib.hid R3
  simp only [hL] at HO
  have HO := Lib.hid HO
  have HL := Lib.hid hL
  clear R1 R2 R3
  have hdt : d.tmod 10 = (dn : Int) := by rw [Int.tmod_eq_emod_of_nonneg hd1]; exact hdn
  have hit : i.tmod 8 = (qi : Int) := by rw [Int.tmod_eq_emod_of_nonneg hi1]; exact hqi
  have w1 : IntKind.u8.wrap (dn : Int) = (dn : Int) := IntWalk.u8_in _ (by omega)
  have w2 : IntKind.i64.wrap (dn : Int) = (dn : Int) := IntWalk.i64_in _ (by omega)
  have w3 : IntKind.u8.wrap (qi : Int) = (qi : Int) := IntWalk.u8_in _ (by omega)
  have w4 : IntKind.i64.wrap (qi : Int) = (qi : Int) := IntWalk.i64_in _ (by omega)
  have HW := Lib.hid (And.intro hdt (And.intro hit (And.intro w1 (And.intro w2 (And.intro w3 w4)))))
  clear hdt hit w1 w2 w3 w4
  go_enter Tryd.func7, Tryd.ntmps7
  go_upto_region 6 with (first | (go_at_call 12; (with_reducible refine (CA.out _ hbel).mono ?_); rintro e w1 ⟨rfl, hb1⟩; replace hbel := belStep hbel hb1; clear hb1) | (go_at_call 19; (with_reducible refine (quant_Units _).mono ?_); rintro e w2 ⟨rfl, hb2, hbel2⟩; replace hbel := belStep hbel hbel2; clear hbel2; have x0 := keep (hb2.cell (nmC_at hqi8)); have y0 := keep (hb2.cell (nmC_at hqj8)); have hw := hbel; clear hbel; have hbel : Below w2.heap.size w2 w2 := Below.refl _ _; clear hb2; generalize w1.heap.size = M1 at *) | (go_at_call 21; (with_reducible refine (CD.out _).mono ?_); rintro e w1 ⟨rfl, hb1⟩; replace hbel := belStep hbel hb1; clear hb1) | (go_at_call 13; (with_reducible refine (H1.out _).mono ?_); rintro e w1 ⟨rfl, hb1⟩; replace hbel := belStep hbel hb1; clear hb1))
  obtain ⟨hdt, hit, w1', w2', w3', w4'⟩ := HW.out
  have hqi8i : (qi : Int) < 8 := by omega
  have ct1 : ¬ 9223372036854775807 < L + t.size := by omega
  have ct2 : ¬ 9223372036854775807 < L + t.size + (nmB qi).size := by omega
  have ct3 : ¬ 9223372036854775807 < L + (t.size + (nmB qi).size) := by omega
  have kk := fun d os => belStep hbel (below_regrown _ d os)
  refine wp_region_quiet_below (by kernel_rfl) (by kernel_rfl) ?_
  repeat ((with_reducible refine wpQuiet_step (fun K hK => ?_)); go_simp; (try (rw [if_neg]; rotate_left; · decide)); first | ((with_reducible refine hK _ ?_); clear hK K) | (apply Exists.intro; refine ⟨fun _ => ?_, hK _ ?_⟩; (first | (go_at_call 21; with_reducible exact Calls.regrown_of (CE.out _)) | (go_at_call 13; with_reducible exact Calls.regrown_of (H2.out _))); clear hK K))
  refine wpQuiet_nil (fun w1 hw1 => ?_)
  replace hbel := belStep hbel (bel_of_class hw1)
  clear hw1 kk
  clear hdt hit w1' w2' w3' w4' ct1 ct2 ct3
  have hcond : ((qi : Int) ≤ (qj : Int) ∧ z ≤ x) ∨ ¬ (qi : Int) ≤ (qj : Int) := by
    rcases Nat.lt_or_ge qj qi with q | q
    · exact .inr (by omega)
    · exact .inl ⟨by omega, hzx q⟩
  have hcases : ((48 ≤ c ∧ c ≤ 57) ∨ (57 < c ∧ 65 ≤ c ∧ c ≤ 90) ∨ (90 < c ∧ 97 ≤ c ∧ c ≤ 122)) ∨ (odd c ∧ (c < 48 ∨ (57 < c ∧ c < 65) ∨ (90 < c ∧ c < 97) ∨ 122 < c)) := by unfold odd; omega
  clear hzx
  go_upto_region 8 with (first | (go_at_call 13; (with_reducible refine (H3.out _).mono ?_); rintro e w1 ⟨rfl, hb1⟩; replace hbel := belStep hbel hb1; clear hb1))
  rcases hcond with ⟨g1, g2⟩ | g1
  · go_upto_region 10 with fail
    rcases hcases with (⟨g3, g4⟩ | ⟨g3, g4, g5⟩ | ⟨g3, g4, g5⟩) | ⟨hodd, hx⟩
    · go_wp2
      go_ret
      exact ⟨rfl, belStep hw hbel⟩
    · go_wp2
      go_ret
      exact ⟨rfl, belStep hw hbel⟩
    · go_wp2
      go_ret
      exact ⟨rfl, belStep hw hbel⟩
    · have HR := Lib.hid (HO.out hodd)
      have hk1 : (k : Int) ≤ (L : Int) := by omega
      have hsc := Lib.hid (show (strOfNums [c]).size = 1 from rfl)
      have ct1 : ¬ 9223372036854775807 < k + (strOfNums [c]).size := by rw [hsc.out]; omega
      have ct2 : ¬ 9223372036854775807 < k + (strOfNums [c]).size + (L - k) := by rw [hsc.out]; omega
      have hcv : ∀ u : World, (convert 37 9 (.slice (some ⟨u.heap.size, 0, none⟩) 1 1)).run Tryd.prog (u.alloc (.cells #[.int .u8 c] 5)).drew = .ok (.string (strOfNums [c])) (u.alloc (.cells #[.int .u8 c] 5)).drew := fun u => conv_str (Ints.later (hb := belDrew (Below.refl _ _)) <| ints_new (k := .u8) u [c] 5 (0, 0) (by unfold maxLen; simp) (fun m hm => by simp at hm; subst hm; exact WalkArith.wf_u8 ⟨by omega, by omega⟩))
      rcases hx with g3 | ⟨g3, g4⟩ | ⟨g3, g4⟩ | g3
      · go_upto_region 13 with fail
        refine wp_region_held_drew (S := (fun w' => True)) (by kernel_rfl) (by exact trivial) (fun hHeld => ?_)
        refine wpAnyH_take (i := 0) (oi := ?oi_1) (v := ?v_1) ?hi_1 (by kernel_rfl) ?hf_1 ?hr_1 ?hQ_1 (Or.inl ⟨?hw_1, ?hy_1⟩) (by assumption) ?rest_1
        case hi_1 => ((simp only [List.getElem?_toArray, List.getElem?_cons_succ, List.getElem?_cons_zero]); rfl)
        case hf_1 => kernel_rfl
        case hr_1 => kernel_rfl
        case hQ_1 => exact fun _ _ _ h => h
        case hw_1 => rfl
        case hy_1 => ((intro w hSw; (try dsimp only at hSw); go_simp); all_goals (with_reducible rfl))
        try simp only [Act.put, List.setIfInBounds_toArray, List.set_cons_zero, List.set_cons_succ]
        refine wpAnyH_take (i := 1) (oi := ?oi_2) (v := ?v_2) ?hi_2 (by kernel_rfl) ?hf_2 ?hr_2 ?hQ_2 (Or.inl ⟨?hw_2, ?hy_2⟩) (by assumption) ?rest_2
        case hi_2 => ((simp only [List.getElem?_toArray, List.getElem?_cons_succ, List.getElem?_cons_zero]); rfl)
        case hf_2 => kernel_rfl
        case hr_2 => kernel_rfl
        case hQ_2 => exact fun _ _ _ h => h
        case hw_2 => rfl
        case hy_2 => ((intro w hSw; (try dsimp only at hSw); go_simp); all_goals (with_reducible rfl))
        try simp only [Act.put, List.setIfInBounds_toArray, List.set_cons_zero, List.set_cons_succ]
        refine wpAnyH_take (i := 2) (oi := ?oi_3) (v := ?v_3) ?hi_3 (by kernel_rfl) ?hf_3 ?hr_3 ?hQ_3 (Or.inl ⟨?hw_3, ?hy_3⟩) (by assumption) ?rest_3
        case hi_3 => ((simp only [List.getElem?_toArray, List.getElem?_cons_succ, List.getElem?_cons_zero]); rfl)
        case hf_3 => kernel_rfl
        case hr_3 => kernel_rfl
        case hQ_3 => exact fun _ _ _ h => h
        case hw_3 => rfl
        case hy_3 => ((intro w hSw; (try dsimp only at hSw); go_simp); all_goals (with_reducible rfl))
        try simp only [Act.put, List.setIfInBounds_toArray, List.set_cons_zero, List.set_cons_succ]
        refine wpAnyH_take (i := 3) (oi := ?oi_4) (v := ?v_4) ?hi_4 (by kernel_rfl) ?hf_4 ?hr_4 ?hQ_4 (Or.inl ⟨?hw_4, ?hy_4⟩) (by assumption) ?rest_4
        case hi_4 => ((simp only [List.getElem?_toArray, List.getElem?_cons_succ, List.getElem?_cons_zero]); rfl)
        case hf_4 => kernel_rfl
        case hr_4 => kernel_rfl
        case hQ_4 => exact fun _ _ _ h => h
        case hw_4 => rfl
        case hy_4 => ((intro w hSw; (try dsimp only at hSw); go_simp); all_goals (with_reducible rfl))
        try simp only [Act.put, List.setIfInBounds_toArray, List.set_cons_zero, List.set_cons_succ]
        refine wpAnyH_take (i := 7) (oi := ?oi_5) (v := ?v_5) ?hi_5 (by kernel_rfl) ?hf_5 ?hr_5 ?hQ_5 (Or.inl ⟨?hw_5, ?hy_5⟩) (by assumption) ?rest_5
        case hi_5 => ((simp only [List.getElem?_toArray, List.getElem?_cons_succ, List.getElem?_cons_zero]); rfl)
        case hf_5 => kernel_rfl
        case hr_5 => kernel_rfl
        case hQ_5 => exact fun _ _ _ h => h
        case hw_5 => rfl
        case hy_5 => ((intro w hSw; (try dsimp only at hSw); go_simp); all_goals (with_reducible rfl))
        try simp only [Act.put, List.setIfInBounds_toArray, List.set_cons_zero, List.set_cons_succ]
        refine wpAnyH_take (i := 8) (oi := ?oi_6) (v := ?v_6) ?hi_6 (by kernel_rfl) ?hf_6 ?hr_6 ?hQ_6 (Or.inl ⟨?hw_6, ?hy_6⟩) (by assumption) ?rest_6
        case hi_6 => ((simp only [List.getElem?_toArray, List.getElem?_cons_succ, List.getElem?_cons_zero]); rfl)
        case hf_6 => kernel_rfl
        case hr_6 => kernel_rfl
        case hQ_6 => exact fun _ _ _ h => h
        case hw_6 => rfl
        case hy_6 => ((intro w hSw; (try dsimp only at hSw); go_simp); all_goals (with_reducible rfl))
        try simp only [Act.put, List.setIfInBounds_toArray, List.set_cons_zero, List.set_cons_succ]
        refine wpAnyH_take (i := 9) (oi := ?oi_7) (v := ?v_7) ?hi_7 (by kernel_rfl) ?hf_7 ?hr_7 ?hQ_7 (Or.inl ⟨?hw_7, ?hy_7⟩) (by assumption) ?rest_7
        case hi_7 => ((simp only [List.getElem?_toArray, List.getElem?_cons_succ, List.getElem?_cons_zero]); rfl)
        case hf_7 => kernel_rfl
        case hr_7 => kernel_rfl
        case hQ_7 => exact fun _ _ _ h => h
        case hw_7 => rfl
        case hy_7 => ((intro w hSw; (try dsimp only at hSw); go_simp); all_goals (with_reducible rfl))
        try simp only [Act.put, List.setIfInBounds_toArray, List.set_cons_zero, List.set_cons_succ]
        refine wpAnyH_ready (rs := [4]) (by kernel_rfl) (by simp) ?_
        refine AllReadyH.cons (o := ?o1_8) ?hi_8 (fun K hK => ?rest_8) AllReadyH.nil
        case hi_8 => ((simp only [List.getElem?_toArray, List.getElem?_cons_succ, List.getElem?_cons_zero]); rfl)
        go_simp
        refine hK.out _ _ (by exact trivial) (fun hHeld => ?_)
        clear hK K
        try simp only [Act.put, List.setIfInBounds_toArray, List.set_cons_zero, List.set_cons_succ]
        refine wpAnyH_ready (rs := [5]) (by kernel_rfl) (by simp) ?_
        refine AllReadyH.cons (o := ?o1_9) ?hi_9 (fun K hK => ?rest_9) AllReadyH.nil
        case hi_9 => ((simp only [List.getElem?_toArray, List.getElem?_cons_succ, List.getElem?_cons_zero]); rfl)
        go_simp
        refine hK.out _ _ (by exact trivial) (fun hHeld => ?_)
        clear hK K
        try simp only [Act.put, List.setIfInBounds_toArray, List.set_cons_zero, List.set_cons_succ]
        refine wpAnyH_take (i := 6) (oi := ?oi_10) (v := ?v_10) ?hi_10 (by kernel_rfl) ?hf_10 ?hr_10 ?hQ_10 (Or.inl ⟨?hw_10, ?hy_10⟩) (by assumption) ?rest_10
        case hi_10 => ((simp only [List.getElem?_toArray, List.getElem?_cons_succ, List.getElem?_cons_zero]); rfl)
        case hf_10 => kernel_rfl
        case hr_10 => kernel_rfl
        case hQ_10 => exact fun _ _ _ h => h
        case hw_10 => rfl
        case hy_10 => ((intro w hSw; (try dsimp only at hSw); go_simp); all_goals (with_reducible rfl))
        try simp only [Act.put, List.setIfInBounds_toArray, List.set_cons_zero, List.set_cons_succ]
        refine wpAnyH_take (i := 10) (oi := ?oi_11) (v := ?v_11) ?hi_11 (by kernel_rfl) ?hf_11 ?hr_11 ?hQ_11 (Or.inl ⟨?hw_11, ?hy_11⟩) (by assumption) ?rest_11
        case hi_11 => ((simp only [List.getElem?_toArray, List.getElem?_cons_succ, List.getElem?_cons_zero]); rfl)
        case hf_11 => kernel_rfl
        case hr_11 => kernel_rfl
        case hQ_11 => exact fun _ _ _ h => h
        case hw_11 => rfl
        case hy_11 => ((intro w hSw; (try dsimp only at hSw); go_simp); all_goals (with_reducible rfl))
        try simp only [Act.put, List.setIfInBounds_toArray, List.set_cons_zero, List.set_cons_succ]
        refine wpAnyH_ready (rs := [11]) (by kernel_rfl) (by simp) ?_
        refine AllReadyH.cons (o := ?o1_12) ?hi_12 (fun K hK => ?rest_12) AllReadyH.nil
        case hi_12 => ((simp only [List.getElem?_toArray, List.getElem?_cons_succ, List.getElem?_cons_zero]); rfl)
        go_simp
        ((go_at_call 13; (with_reducible refine (HR.out _).mono ?_); rintro e w6 ⟨rfl, hb6⟩))
        try go_simp
        refine hK.out _ _ (by exact trivial) (fun hHeld => ?_)
        clear hK K
        try simp only [Act.put, List.setIfInBounds_toArray, List.set_cons_zero, List.set_cons_succ]
        refine wpAnyH_take (i := 12) (oi := ?oi_13) (v := ?v_13) ?hi_13 (by kernel_rfl) ?hf_13 ?hr_13 ?hQ_13 (Or.inl ⟨?hw_13, ?hy_13⟩) (by assumption) ?rest_13
        case hi_13 => ((simp only [List.getElem?_toArray, List.getElem?_cons_succ, List.getElem?_cons_zero]); rfl)
        case hf_13 => kernel_rfl
        case hr_13 => kernel_rfl
        case hQ_13 => exact fun _ _ _ h => h
        case hw_13 => rfl
        case hy_13 => ((intro w hSw; (try dsimp only at hSw); go_simp); all_goals (with_reducible rfl))
        try simp only [Act.put, List.setIfInBounds_toArray, List.set_cons_zero, List.set_cons_succ]
        refine wpAnyH_take (i := 13) (oi := ?oi_14) (v := ?v_14) ?hi_14 (by kernel_rfl) ?hf_14 ?hr_14 ?hQ_14 (Or.inl ⟨?hw_14, ?hy_14⟩) (by assumption) ?rest_14
        case hi_14 => ((simp only [List.getElem?_toArray, List.getElem?_cons_succ, List.getElem?_cons_zero]); rfl)
        case hf_14 => kernel_rfl
        case hr_14 => kernel_rfl
        case hQ_14 => exact fun _ _ _ h => h
        case hw_14 => rfl
        case hy_14 => ((intro w hSw; (try dsimp only at hSw); go_simp); all_goals (with_reducible rfl))
        try simp only [Act.put, List.setIfInBounds_toArray, List.set_cons_zero, List.set_cons_succ]
        refine wpAnyH_take (i := 14) (oi := ?oi_15) (v := ?v_15) ?hi_15 (by kernel_rfl) ?hf_15 ?hr_15 ?hQ_15 (Or.inl ⟨?hw_15, ?hy_15⟩) (by assumption) ?rest_15
        case hi_15 => ((simp only [List.getElem?_toArray, List.getElem?_cons_succ, List.getElem?_cons_zero]); rfl)
        case hf_15 => kernel_rfl
        case hr_15 => kernel_rfl
        case hQ_15 => exact fun _ _ _ h => h
        case hw_15 => rfl
        case hy_15 => ((intro w hSw; (try dsimp only at hSw); go_simp); all_goals (with_reducible rfl))
        try simp only [Act.put, List.setIfInBounds_toArray, List.set_cons_zero, List.set_cons_succ]
        refine wpAnyH_take (i := 15) (oi := ?oi_16) (v := ?v_16) ?hi_16 (by kernel_rfl) ?hf_16 ?hr_16 ?hQ_16 (Or.inl ⟨?hw_16, ?hy_16⟩) (by assumption) ?rest_16
        case hi_16 => ((simp only [List.getElem?_toArray, List.getElem?_cons_succ, List.getElem?_cons_zero]); rfl)
        case hf_16 => kernel_rfl
        case hr_16 => kernel_rfl
        case hQ_16 => exact fun _ _ _ h => h
        case hw_16 => rfl
        case hy_16 => ((intro w hSw; (try dsimp only at hSw); go_simp); all_goals (with_reducible rfl))
        try simp only [Act.put, List.setIfInBounds_toArray, List.set_cons_zero, List.set_cons_succ]
        refine wpAnyH_take (i := 16) (oi := ?oi_17) (v := ?v_17) ?hi_17 (by kernel_rfl) ?hf_17 ?hr_17 ?hQ_17 (Or.inl ⟨?hw_17, ?hy_17⟩) (by assumption) ?rest_17
        case hi_17 => ((simp only [List.getElem?_toArray, List.getElem?_cons_succ, List.getElem?_cons_zero]); rfl)
        case hf_17 => kernel_rfl
        case hr_17 => kernel_rfl
        case hQ_17 => exact fun _ _ _ h => h
        case hw_17 => rfl
        case hy_17 => ((intro w hSw; (try dsimp only at hSw); go_simp); all_goals (with_reducible rfl))
        try simp only [Act.put, List.setIfInBounds_toArray, List.set_cons_zero, List.set_cons_succ]
        refine wpAnyH_done (by kernel_rfl) ?_ _
        go_wp2
        go_ret
        exact ⟨rfl, belStep hw (by repeat (first | assumption | exact Below.refl _ _ | refine belAlloc ?_ _ | refine belDrew ?_ | refine belStep ?_ (by assumption)))⟩
      · go_upto_region 13 with fail
        refine wp_region_held_drew (S := (fun w' => True)) (by kernel_rfl) (by exact trivial) (fun hHeld => ?_)
        refine wpAnyH_take (i := 0) (oi := ?oi_18) (v := ?v_18) ?hi_18 (by kernel_rfl) ?hf_18 ?hr_18 ?hQ_18 (Or.inl ⟨?hw_18, ?hy_18⟩) (by assumption) ?rest_18
        case hi_18 => ((simp only [List.getElem?_toArray, List.getElem?_cons_succ, List.getElem?_cons_zero]); rfl)
        case hf_18 => kernel_rfl
        case hr_18 => kernel_rfl
        case hQ_18 => exact fun _ _ _ h => h
        case hw_18 => rfl
        case hy_18 => ((intro w hSw; (try dsimp only at hSw); go_simp); all_goals (with_reducible rfl))
        try simp only [Act.put, List.setIfInBounds_toArray, List.set_cons_zero, List.set_cons_succ]
        refine wpAnyH_take (i := 1) (oi := ?oi_19) (v := ?v_19) ?hi_19 (by kernel_rfl) ?hf_19 ?hr_19 ?hQ_19 (Or.inl ⟨?hw_19, ?hy_19⟩) (by assumption) ?rest_19
        case hi_19 => ((simp only [List.getElem?_toArray, List.getElem?_cons_succ, List.getElem?_cons_zero]); rfl)
        case hf_19 => kernel_rfl
        case hr_19 => kernel_rfl
        case hQ_19 => exact fun _ _ _ h => h
        case hw_19 => rfl
        case hy_19 => ((intro w hSw; (try dsimp only at hSw); go_simp); all_goals (with_reducible rfl))
        try simp only [Act.put, List.setIfInBounds_toArray, List.set_cons_zero, List.set_cons_succ]
        refine wpAnyH_take (i := 2) (oi := ?oi_20) (v := ?v_20) ?hi_20 (by kernel_rfl) ?hf_20 ?hr_20 ?hQ_20 (Or.inl ⟨?hw_20, ?hy_20⟩) (by assumption) ?rest_20
        case hi_20 => ((simp only [List.getElem?_toArray, List.getElem?_cons_succ, List.getElem?_cons_zero]); rfl)
        case hf_20 => kernel_rfl
        case hr_20 => kernel_rfl
        case hQ_20 => exact fun _ _ _ h => h
        case hw_20 => rfl
        case hy_20 => ((intro w hSw; (try dsimp only at hSw); go_simp); all_goals (with_reducible rfl))
        try simp only [Act.put, List.setIfInBounds_toArray, List.set_cons_zero, List.set_cons_succ]
        refine wpAnyH_take (i := 3) (oi := ?oi_21) (v := ?v_21) ?hi_21 (by kernel_rfl) ?hf_21 ?hr_21 ?hQ_21 (Or.inl ⟨?hw_21, ?hy_21⟩) (by assumption) ?rest_21
        case hi_21 => ((simp only [List.getElem?_toArray, List.getElem?_cons_succ, List.getElem?_cons_zero]); rfl)
        case hf_21 => kernel_rfl
        case hr_21 => kernel_rfl
        case hQ_21 => exact fun _ _ _ h => h
        case hw_21 => rfl
        case hy_21 => ((intro w hSw; (try dsimp only at hSw); go_simp); all_goals (with_reducible rfl))
        try simp only [Act.put, List.setIfInBounds_toArray, List.set_cons_zero, List.set_cons_succ]
        refine wpAnyH_take (i := 7) (oi := ?oi_22) (v := ?v_22) ?hi_22 (by kernel_rfl) ?hf_22 ?hr_22 ?hQ_22 (Or.inl ⟨?hw_22, ?hy_22⟩) (by assumption) ?rest_22
        case hi_22 => ((simp only [List.getElem?_toArray, List.getElem?_cons_succ, List.getElem?_cons_zero]); rfl)
        case hf_22 => kernel_rfl
        case hr_22 => kernel_rfl
        case hQ_22 => exact fun _ _ _ h => h
        case hw_22 => rfl
        case hy_22 => ((intro w hSw; (try dsimp only at hSw); go_simp); all_goals (with_reducible rfl))
        try simp only [Act.put, List.setIfInBounds_toArray, List.set_cons_zero, List.set_cons_succ]
        refine wpAnyH_take (i := 8) (oi := ?oi_23) (v := ?v_23) ?hi_23 (by kernel_rfl) ?hf_23 ?hr_23 ?hQ_23 (Or.inl ⟨?hw_23, ?hy_23⟩) (by assumption) ?rest_23
        case hi_23 => ((simp only [List.getElem?_toArray, List.getElem?_cons_succ, List.getElem?_cons_zero]); rfl)
        case hf_23 => kernel_rfl
        case hr_23 => kernel_rfl
        case hQ_23 => exact fun _ _ _ h => h
        case hw_23 => rfl
        case hy_23 => ((intro w hSw; (try dsimp only at hSw); go_simp); all_goals (with_reducible rfl))
        try simp only [Act.put, List.setIfInBounds_toArray, List.set_cons_zero, List.set_cons_succ]
        refine wpAnyH_take (i := 9) (oi := ?oi_24) (v := ?v_24) ?hi_24 (by kernel_rfl) ?hf_24 ?hr_24 ?hQ_24 (Or.inl ⟨?hw_24, ?hy_24⟩) (by assumption) ?rest_24
        case hi_24 => ((simp only [List.getElem?_toArray, List.getElem?_cons_succ, List.getElem?_cons_zero]); rfl)
        case hf_24 => kernel_rfl
        case hr_24 => kernel_rfl
        case hQ_24 => exact fun _ _ _ h => h
        case hw_24 => rfl
        case hy_24 => ((intro w hSw; (try dsimp only at hSw); go_simp); all_goals (with_reducible rfl))
        try simp only [Act.put, List.setIfInBounds_toArray, List.set_cons_zero, List.set_cons_succ]
        refine wpAnyH_ready (rs := [4]) (by kernel_rfl) (by simp) ?_
        refine AllReadyH.cons (o := ?o1_25) ?hi_25 (fun K hK => ?rest_25) AllReadyH.nil
        case hi_25 => ((simp only [List.getElem?_toArray, List.getElem?_cons_succ, List.getElem?_cons_zero]); rfl)
        go_simp
        refine hK.out _ _ (by exact trivial) (fun hHeld => ?_)
        clear hK K
        try simp only [Act.put, List.setIfInBounds_toArray, List.set_cons_zero, List.set_cons_succ]
        refine wpAnyH_ready (rs := [5]) (by kernel_rfl) (by simp) ?_
        refine AllReadyH.cons (o := ?o1_26) ?hi_26 (fun K hK => ?rest_26) AllReadyH.nil
        case hi_26 => ((simp only [List.getElem?_toArray, List.getElem?_cons_succ, List.getElem?_cons_zero]); rfl)
        go_simp
        refine hK.out _ _ (by exact trivial) (fun hHeld => ?_)
        clear hK K
        try simp only [Act.put, List.setIfInBounds_toArray, List.set_cons_zero, List.set_cons_succ]
        refine wpAnyH_take (i := 6) (oi := ?oi_27) (v := ?v_27) ?hi_27 (by kernel_rfl) ?hf_27 ?hr_27 ?hQ_27 (Or.inl ⟨?hw_27, ?hy_27⟩) (by assumption) ?rest_27
        case hi_27 => ((simp only [List.getElem?_toArray, List.getElem?_cons_succ, List.getElem?_cons_zero]); rfl)
        case hf_27 => kernel_rfl
        case hr_27 => kernel_rfl
        case hQ_27 => exact fun _ _ _ h => h
        case hw_27 => rfl
        case hy_27 => ((intro w hSw; (try dsimp only at hSw); go_simp); all_goals (with_reducible rfl))
        try simp only [Act.put, List.setIfInBounds_toArray, List.set_cons_zero, List.set_cons_succ]
        refine wpAnyH_take (i := 10) (oi := ?oi_28) (v := ?v_28) ?hi_28 (by kernel_rfl) ?hf_28 ?hr_28 ?hQ_28 (Or.inl ⟨?hw_28, ?hy_28⟩) (by assumption) ?rest_28
        case hi_28 => ((simp only [List.getElem?_toArray, List.getElem?_cons_succ, List.getElem?_cons_zero]); rfl)
        case hf_28 => kernel_rfl
        case hr_28 => kernel_rfl
        case hQ_28 => exact fun _ _ _ h => h
        case hw_28 => rfl
        case hy_28 => ((intro w hSw; (try dsimp only at hSw); go_simp); all_goals (with_reducible rfl))
        try simp only [Act.put, List.setIfInBounds_toArray, List.set_cons_zero, List.set_cons_succ]
        refine wpAnyH_ready (rs := [11]) (by kernel_rfl) (by simp) ?_
        refine AllReadyH.cons (o := ?o1_29) ?hi_29 (fun K hK => ?rest_29) AllReadyH.nil
        case hi_29 => ((simp only [List.getElem?_toArray, List.getElem?_cons_succ, List.getElem?_cons_zero]); rfl)
        go_simp
        ((go_at_call 13; (with_reducible refine (HR.out _).mono ?_); rintro e w6 ⟨rfl, hb6⟩))
        try go_simp
        refine hK.out _ _ (by exact trivial) (fun hHeld => ?_)
        clear hK K
        try simp only [Act.put, List.setIfInBounds_toArray, List.set_cons_zero, List.set_cons_succ]
        refine wpAnyH_take (i := 12) (oi := ?oi_30) (v := ?v_30) ?hi_30 (by kernel_rfl) ?hf_30 ?hr_30 ?hQ_30 (Or.inl ⟨?hw_30, ?hy_30⟩) (by assumption) ?rest_30
        case hi_30 => ((simp only [List.getElem?_toArray, List.getElem?_cons_succ, List.getElem?_cons_zero]); rfl)
        case hf_30 => kernel_rfl
        case hr_30 => kernel_rfl
        case hQ_30 => exact fun _ _ _ h => h
        case hw_30 => rfl
        case hy_30 => ((intro w hSw; (try dsimp only at hSw); go_simp); all_goals (with_reducible rfl))
        try simp only [Act.put, List.setIfInBounds_toArray, List.set_cons_zero, List.set_cons_succ]
        refine wpAnyH_take (i := 13) (oi := ?oi_31) (v := ?v_31) ?hi_31 (by kernel_rfl) ?hf_31 ?hr_31 ?hQ_31 (Or.inl ⟨?hw_31, ?hy_31⟩) (by assumption) ?rest_31
        case hi_31 => ((simp only [List.getElem?_toArray, List.getElem?_cons_succ, List.getElem?_cons_zero]); rfl)
        case hf_31 => kernel_rfl
        case hr_31 => kernel_rfl
        case hQ_31 => exact fun _ _ _ h => h
        case hw_31 => rfl
        case hy_31 => ((intro w hSw; (try dsimp only at hSw); go_simp); all_goals (with_reducible rfl))
        try simp only [Act.put, List.setIfInBounds_toArray, List.set_cons_zero, List.set_cons_succ]
        refine wpAnyH_take (i := 14) (oi := ?oi_32) (v := ?v_32) ?hi_32 (by kernel_rfl) ?hf_32 ?hr_32 ?hQ_32 (Or.inl ⟨?hw_32, ?hy_32⟩) (by assumption) ?rest_32
        case hi_32 => ((simp only [List.getElem?_toArray, List.getElem?_cons_succ, List.getElem?_cons_zero]); rfl)
        case hf_32 => kernel_rfl
        case hr_32 => kernel_rfl
        case hQ_32 => exact fun _ _ _ h => h
        case hw_32 => rfl
        case hy_32 => ((intro w hSw; (try dsimp only at hSw); go_simp); all_goals (with_reducible rfl))
        try simp only [Act.put, List.setIfInBounds_toArray, List.set_cons_zero, List.set_cons_succ]
        refine wpAnyH_take (i := 15) (oi := ?oi_33) (v := ?v_33) ?hi_33 (by kernel_rfl) ?hf_33 ?hr_33 ?hQ_33 (Or.inl ⟨?hw_33, ?hy_33⟩) (by assumption) ?rest_33
        case hi_33 => ((simp only [List.getElem?_toArray, List.getElem?_cons_succ, List.getElem?_cons_zero]); rfl)
        case hf_33 => kernel_rfl
        case hr_33 => kernel_rfl
        case hQ_33 => exact fun _ _ _ h => h
        case hw_33 => rfl
        case hy_33 => ((intro w hSw; (try dsimp only at hSw); go_simp); all_goals (with_reducible rfl))
        try simp only [Act.put, List.setIfInBounds_toArray, List.set_cons_zero, List.set_cons_succ]
        refine wpAnyH_take (i := 16) (oi := ?oi_34) (v := ?v_34) ?hi_34 (by kernel_rfl) ?hf_34 ?hr_34 ?hQ_34 (Or.inl ⟨?hw_34, ?hy_34⟩) (by assumption) ?rest_34
        case hi_34 => ((simp only [List.getElem?_toArray, List.getElem?_cons_succ, List.getElem?_cons_zero]); rfl)
        case hf_34 => kernel_rfl
        case hr_34 => kernel_rfl
        case hQ_34 => exact fun _ _ _ h => h
        case hw_34 => rfl
        case hy_34 => ((intro w hSw; (try dsimp only at hSw); go_simp); all_goals (with_reducible rfl))
        try simp only [Act.put, List.setIfInBounds_toArray, List.set_cons_zero, List.set_cons_succ]
        refine wpAnyH_done (by kernel_rfl) ?_ _
        go_wp2
        go_ret
        exact ⟨rfl, belStep hw (by repeat (first | assumption | exact Below.refl _ _ | refine belAlloc ?_ _ | refine belDrew ?_ | refine belStep ?_ (by assumption)))⟩
      · go_upto_region 13 with fail
        refine wp_region_held_drew (S := (fun w' => True)) (by kernel_rfl) (by exact trivial) (fun hHeld => ?_)
        refine wpAnyH_take (i := 0) (oi := ?oi_35) (v := ?v_35) ?hi_35 (by kernel_rfl) ?hf_35 ?hr_35 ?hQ_35 (Or.inl ⟨?hw_35, ?hy_35⟩) (by assumption) ?rest_35
        case hi_35 => ((simp only [List.getElem?_toArray, List.getElem?_cons_succ, List.getElem?_cons_zero]); rfl)
        case hf_35 => kernel_rfl
        case hr_35 => kernel_rfl
        case hQ_35 => exact fun _ _ _ h => h
        case hw_35 => rfl
        case hy_35 => ((intro w hSw; (try dsimp only at hSw); go_simp); all_goals (with_reducible rfl))
        try simp only [Act.put, List.setIfInBounds_toArray, List.set_cons_zero, List.set_cons_succ]
        refine wpAnyH_take (i := 1) (oi := ?oi_36) (v := ?v_36) ?hi_36 (by kernel_rfl) ?hf_36 ?hr_36 ?hQ_36 (Or.inl ⟨?hw_36, ?hy_36⟩) (by assumption) ?rest_36
        case hi_36 => ((simp only [List.getElem?_toArray, List.getElem?_cons_succ, List.getElem?_cons_zero]); rfl)
        case hf_36 => kernel_rfl
        case hr_36 => kernel_rfl
        case hQ_36 => exact fun _ _ _ h => h
        case hw_36 => rfl
        case hy_36 => ((intro w hSw; (try dsimp only at hSw); go_simp); all_goals (with_reducible rfl))
        try simp only [Act.put, List.setIfInBounds_toArray, List.set_cons_zero, List.set_cons_succ]
        refine wpAnyH_take (i := 2) (oi := ?oi_37) (v := ?v_37) ?hi_37 (by kernel_rfl) ?hf_37 ?hr_37 ?hQ_37 (Or.inl ⟨?hw_37, ?hy_37⟩) (by assumption) ?rest_37
        case hi_37 => ((simp only [List.getElem?_toArray, List.getElem?_cons_succ, List.getElem?_cons_zero]); rfl)
        case hf_37 => kernel_rfl
        case hr_37 => kernel_rfl
        case hQ_37 => exact fun _ _ _ h => h
        case hw_37 => rfl
        case hy_37 => ((intro w hSw; (try dsimp only at hSw); go_simp); all_goals (with_reducible rfl))
        try simp only [Act.put, List.setIfInBounds_toArray, List.set_cons_zero, List.set_cons_succ]
        refine wpAnyH_take (i := 3) (oi := ?oi_38) (v := ?v_38) ?hi_38 (by kernel_rfl) ?hf_38 ?hr_38 ?hQ_38 (Or.inl ⟨?hw_38, ?hy_38⟩) (by assumption) ?rest_38
        case hi_38 => ((simp only [List.getElem?_toArray, List.getElem?_cons_succ, List.getElem?_cons_zero]); rfl)
        case hf_38 => kernel_rfl
        case hr_38 => kernel_rfl
        case hQ_38 => exact fun _ _ _ h => h
        case hw_38 => rfl
        case hy_38 => ((intro w hSw; (try dsimp only at hSw); go_simp); all_goals (with_reducible rfl))
        try simp only [Act.put, List.setIfInBounds_toArray, List.set_cons_zero, List.set_cons_succ]
        refine wpAnyH_take (i := 7) (oi := ?oi_39) (v := ?v_39) ?hi_39 (by kernel_rfl) ?hf_39 ?hr_39 ?hQ_39 (Or.inl ⟨?hw_39, ?hy_39⟩) (by assumption) ?rest_39
        case hi_39 => ((simp only [List.getElem?_toArray, List.getElem?_cons_succ, List.getElem?_cons_zero]); rfl)
        case hf_39 => kernel_rfl
        case hr_39 => kernel_rfl
        case hQ_39 => exact fun _ _ _ h => h
        case hw_39 => rfl
        case hy_39 => ((intro w hSw; (try dsimp only at hSw); go_simp); all_goals (with_reducible rfl))
        try simp only [Act.put, List.setIfInBounds_toArray, List.set_cons_zero, List.set_cons_succ]
        refine wpAnyH_take (i := 8) (oi := ?oi_40) (v := ?v_40) ?hi_40 (by kernel_rfl) ?hf_40 ?hr_40 ?hQ_40 (Or.inl ⟨?hw_40, ?hy_40⟩) (by assumption) ?rest_40
        case hi_40 => ((simp only [List.getElem?_toArray, List.getElem?_cons_succ, List.getElem?_cons_zero]); rfl)
        case hf_40 => kernel_rfl
        case hr_40 => kernel_rfl
        case hQ_40 => exact fun _ _ _ h => h
        case hw_40 => rfl
        case hy_40 => ((intro w hSw; (try dsimp only at hSw); go_simp); all_goals (with_reducible rfl))
        try simp only [Act.put, List.setIfInBounds_toArray, List.set_cons_zero, List.set_cons_succ]
        refine wpAnyH_take (i := 9) (oi := ?oi_41) (v := ?v_41) ?hi_41 (by kernel_rfl) ?hf_41 ?hr_41 ?hQ_41 (Or.inl ⟨?hw_41, ?hy_41⟩) (by assumption) ?rest_41
        case hi_41 => ((simp only [List.getElem?_toArray, List.getElem?_cons_succ, List.getElem?_cons_zero]); rfl)
        case hf_41 => kernel_rfl
        case hr_41 => kernel_rfl
        case hQ_41 => exact fun _ _ _ h => h
        case hw_41 => rfl
        case hy_41 => ((intro w hSw; (try dsimp only at hSw); go_simp); all_goals (with_reducible rfl))
        try simp only [Act.put, List.setIfInBounds_toArray, List.set_cons_zero, List.set_cons_succ]
        refine wpAnyH_ready (rs := [4]) (by kernel_rfl) (by simp) ?_
        refine AllReadyH.cons (o := ?o1_42) ?hi_42 (fun K hK => ?rest_42) AllReadyH.nil
        case hi_42 => ((simp only [List.getElem?_toArray, List.getElem?_cons_succ, List.getElem?_cons_zero]); rfl)
        go_simp
        refine hK.out _ _ (by exact trivial) (fun hHeld => ?_)
        clear hK K
        try simp only [Act.put, List.setIfInBounds_toArray, List.set_cons_zero, List.set_cons_succ]
        refine wpAnyH_ready (rs := [5]) (by kernel_rfl) (by simp) ?_
        refine AllReadyH.cons (o := ?o1_43) ?hi_43 (fun K hK => ?rest_43) AllReadyH.nil
        case hi_43 => ((simp only [List.getElem?_toArray, List.getElem?_cons_succ, List.getElem?_cons_zero]); rfl)
        go_simp
        refine hK.out _ _ (by exact trivial) (fun hHeld => ?_)
        clear hK K
        try simp only [Act.put, List.setIfInBounds_toArray, List.set_cons_zero, List.set_cons_succ]
        refine wpAnyH_take (i := 6) (oi := ?oi_44) (v := ?v_44) ?hi_44 (by kernel_rfl) ?hf_44 ?hr_44 ?hQ_44 (Or.inl ⟨?hw_44, ?hy_44⟩) (by assumption) ?rest_44
        case hi_44 => ((simp only [List.getElem?_toArray, List.getElem?_cons_succ, List.getElem?_cons_zero]); rfl)
        case hf_44 => kernel_rfl
        case hr_44 => kernel_rfl
        case hQ_44 => exact fun _ _ _ h => h
        case hw_44 => rfl
        case hy_44 => ((intro w hSw; (try dsimp only at hSw); go_simp); all_goals (with_reducible rfl))
        try simp only [Act.put, List.setIfInBounds_toArray, List.set_cons_zero, List.set_cons_succ]
        refine wpAnyH_take (i := 10) (oi := ?oi_45) (v := ?v_45) ?hi_45 (by kernel_rfl) ?hf_45 ?hr_45 ?hQ_45 (Or.inl ⟨?hw_45, ?hy_45⟩) (by assumption) ?rest_45
        case hi_45 => ((simp only [List.getElem?_toArray, List.getElem?_cons_succ, List.getElem?_cons_zero]); rfl)
        case hf_45 => kernel_rfl
        case hr_45 => kernel_rfl
        case hQ_45 => exact fun _ _ _ h => h
        case hw_45 => rfl
        case hy_45 => ((intro w hSw; (try dsimp only at hSw); go_simp); all_goals (with_reducible rfl))
        try simp only [Act.put, List.setIfInBounds_toArray, List.set_cons_zero, List.set_cons_succ]
        refine wpAnyH_ready (rs := [11]) (by kernel_rfl) (by simp) ?_
        refine AllReadyH.cons (o := ?o1_46) ?hi_46 (fun K hK => ?rest_46) AllReadyH.nil
        case hi_46 => ((simp only [List.getElem?_toArray, List.getElem?_cons_succ, List.getElem?_cons_zero]); rfl)
        go_simp
        ((go_at_call 13; (with_reducible refine (HR.out _).mono ?_); rintro e w6 ⟨rfl, hb6⟩))
        try go_simp
        refine hK.out _ _ (by exact trivial) (fun hHeld => ?_)
        clear hK K
        try simp only [Act.put, List.setIfInBounds_toArray, List.set_cons_zero, List.set_cons_succ]
        refine wpAnyH_take (i := 12) (oi := ?oi_47) (v := ?v_47) ?hi_47 (by kernel_rfl) ?hf_47 ?hr_47 ?hQ_47 (Or.inl ⟨?hw_47, ?hy_47⟩) (by assumption) ?rest_47
        case hi_47 => ((simp only [List.getElem?_toArray, List.getElem?_cons_succ, List.getElem?_cons_zero]); rfl)
        case hf_47 => kernel_rfl
        case hr_47 => kernel_rfl
        case hQ_47 => exact fun _ _ _ h => h
        case hw_47 => rfl
        case hy_47 => ((intro w hSw; (try dsimp only at hSw); go_simp); all_goals (with_reducible rfl))
        try simp only [Act.put, List.setIfInBounds_toArray, List.set_cons_zero, List.set_cons_succ]
        refine wpAnyH_take (i := 13) (oi := ?oi_48) (v := ?v_48) ?hi_48 (by kernel_rfl) ?hf_48 ?hr_48 ?hQ_48 (Or.inl ⟨?hw_48, ?hy_48⟩) (by assumption) ?rest_48
        case hi_48 => ((simp only [List.getElem?_toArray, List.getElem?_cons_succ, List.getElem?_cons_zero]); rfl)
        case hf_48 => kernel_rfl
        case hr_48 => kernel_rfl
        case hQ_48 => exact fun _ _ _ h => h
        case hw_48 => rfl
        case hy_48 => ((intro w hSw; (try dsimp only at hSw); go_simp); all_goals (with_reducible rfl))
        try simp only [Act.put, List.setIfInBounds_toArray, List.set_cons_zero, List.set_cons_succ]
        refine wpAnyH_take (i := 14) (oi := ?oi_49) (v := ?v_49) ?hi_49 (by kernel_rfl) ?hf_49 ?hr_49 ?hQ_49 (Or.inl ⟨?hw_49, ?hy_49⟩) (by assumption) ?rest_49
        case hi_49 => ((simp only [List.getElem?_toArray, List.getElem?_cons_succ, List.getElem?_cons_zero]); rfl)
        case hf_49 => kernel_rfl
        case hr_49 => kernel_rfl
        case hQ_49 => exact fun _ _ _ h => h
        case hw_49 => rfl
        case hy_49 => ((intro w hSw; (try dsimp only at hSw); go_simp); all_goals (with_reducible rfl))
        try simp only [Act.put, List.setIfInBounds_toArray, List.set_cons_zero, List.set_cons_succ]
        refine wpAnyH_take (i := 15) (oi := ?oi_50) (v := ?v_50) ?hi_50 (by kernel_rfl) ?hf_50 ?hr_50 ?hQ_50 (Or.inl ⟨?hw_50, ?hy_50⟩) (by assumption) ?rest_50
        case hi_50 => ((simp only [List.getElem?_toArray, List.getElem?_cons_succ, List.getElem?_cons_zero]); rfl)
        case hf_50 => kernel_rfl
        case hr_50 => kernel_rfl
        case hQ_50 => exact fun _ _ _ h => h
        case hw_50 => rfl
        case hy_50 => ((intro w hSw; (try dsimp only at hSw); go_simp); all_goals (with_reducible rfl))
        try simp only [Act.put, List.setIfInBounds_toArray, List.set_cons_zero, List.set_cons_succ]
        refine wpAnyH_take (i := 16) (oi := ?oi_51) (v := ?v_51) ?hi_51 (by kernel_rfl) ?hf_51 ?hr_51 ?hQ_51 (Or.inl ⟨?hw_51, ?hy_51⟩) (by assumption) ?rest_51
        case hi_51 => ((simp only [List.getElem?_toArray, List.getElem?_cons_succ, List.getElem?_cons_zero]); rfl)
        case hf_51 => kernel_rfl
        case hr_51 => kernel_rfl
        case hQ_51 => exact fun _ _ _ h => h
        case hw_51 => rfl
        case hy_51 => ((intro w hSw; (try dsimp only at hSw); go_simp); all_goals (with_reducible rfl))
        try simp only [Act.put, List.setIfInBounds_toArray, List.set_cons_zero, List.set_cons_succ]
        refine wpAnyH_done (by kernel_rfl) ?_ _
        go_wp2
        go_ret
        exact ⟨rfl, belStep hw (by repeat (first | assumption | exact Below.refl _ _ | refine belAlloc ?_ _ | refine belDrew ?_ | refine belStep ?_ (by assumption)))⟩
      · go_upto_region 13 with fail
        refine wp_region_held_drew (S := (fun w' => True)) (by kernel_rfl) (by exact trivial) (fun hHeld => ?_)
        refine wpAnyH_take (i := 0) (oi := ?oi_52) (v := ?v_52) ?hi_52 (by kernel_rfl) ?hf_52 ?hr_52 ?hQ_52 (Or.inl ⟨?hw_52, ?hy_52⟩) (by assumption) ?rest_52
        case hi_52 => ((simp only [List.getElem?_toArray, List.getElem?_cons_succ, List.getElem?_cons_zero]); rfl)
        case hf_52 => kernel_rfl
        case hr_52 => kernel_rfl
        case hQ_52 => exact fun _ _ _ h => h
        case hw_52 => rfl
        case hy_52 => ((intro w hSw; (try dsimp only at hSw); go_simp); all_goals (with_reducible rfl))
        try simp only [Act.put, List.setIfInBounds_toArray, List.set_cons_zero, List.set_cons_succ]
        refine wpAnyH_take (i := 1) (oi := ?oi_53) (v := ?v_53) ?hi_53 (by kernel_rfl) ?hf_53 ?hr_53 ?hQ_53 (Or.inl ⟨?hw_53, ?hy_53⟩) (by assumption) ?rest_53
        case hi_53 => ((simp only [List.getElem?_toArray, List.getElem?_cons_succ, List.getElem?_cons_zero]); rfl)
        case hf_53 => kernel_rfl
        case hr_53 => kernel_rfl
        case hQ_53 => exact fun _ _ _ h => h
        case hw_53 => rfl
        case hy_53 => ((intro w hSw; (try dsimp only at hSw); go_simp); all_goals (with_reducible rfl))
        try simp only [Act.put, List.setIfInBounds_toArray, List.set_cons_zero, List.set_cons_succ]
        refine wpAnyH_take (i := 2) (oi := ?oi_54) (v := ?v_54) ?hi_54 (by kernel_rfl) ?hf_54 ?hr_54 ?hQ_54 (Or.inl ⟨?hw_54, ?hy_54⟩) (by assumption) ?rest_54
        case hi_54 => ((simp only [List.getElem?_toArray, List.getElem?_cons_succ, List.getElem?_cons_zero]); rfl)
        case hf_54 => kernel_rfl
        case hr_54 => kernel_rfl
        case hQ_54 => exact fun _ _ _ h => h
        case hw_54 => rfl
        case hy_54 => ((intro w hSw; (try dsimp only at hSw); go_simp); all_goals (with_reducible rfl))
        try simp only [Act.put, List.setIfInBounds_toArray, List.set_cons_zero, List.set_cons_succ]
        refine wpAnyH_take (i := 3) (oi := ?oi_55) (v := ?v_55) ?hi_55 (by kernel_rfl) ?hf_55 ?hr_55 ?hQ_55 (Or.inl ⟨?hw_55, ?hy_55⟩) (by assumption) ?rest_55
        case hi_55 => ((simp only [List.getElem?_toArray, List.getElem?_cons_succ, List.getElem?_cons_zero]); rfl)
        case hf_55 => kernel_rfl
        case hr_55 => kernel_rfl
        case hQ_55 => exact fun _ _ _ h => h
        case hw_55 => rfl
        case hy_55 => ((intro w hSw; (try dsimp only at hSw); go_simp); all_goals (with_reducible rfl))
        try simp only [Act.put, List.setIfInBounds_toArray, List.set_cons_zero, List.set_cons_succ]
        refine wpAnyH_take (i := 7) (oi := ?oi_56) (v := ?v_56) ?hi_56 (by kernel_rfl) ?hf_56 ?hr_56 ?hQ_56 (Or.inl ⟨?hw_56, ?hy_56⟩) (by assumption) ?rest_56
        case hi_56 => ((simp only [List.getElem?_toArray, List.getElem?_cons_succ, List.getElem?_cons_zero]); rfl)
        case hf_56 => kernel_rfl
        case hr_56 => kernel_rfl
        case hQ_56 => exact fun _ _ _ h => h
        case hw_56 => rfl
        case hy_56 => ((intro w hSw; (try dsimp only at hSw); go_simp); all_goals (with_reducible rfl))
        try simp only [Act.put, List.setIfInBounds_toArray, List.set_cons_zero, List.set_cons_succ]
        refine wpAnyH_take (i := 8) (oi := ?oi_57) (v := ?v_57) ?hi_57 (by kernel_rfl) ?hf_57 ?hr_57 ?hQ_57 (Or.inl ⟨?hw_57, ?hy_57⟩) (by assumption) ?rest_57
        case hi_57 => ((simp only [List.getElem?_toArray, List.getElem?_cons_succ, List.getElem?_cons_zero]); rfl)
        case hf_57 => kernel_rfl
        case hr_57 => kernel_rfl
        case hQ_57 => exact fun _ _ _ h => h
        case hw_57 => rfl
        case hy_57 => ((intro w hSw; (try dsimp only at hSw); go_simp); all_goals (with_reducible rfl))
        try simp only [Act.put, List.setIfInBounds_toArray, List.set_cons_zero, List.set_cons_succ]
        refine wpAnyH_take (i := 9) (oi := ?oi_58) (v := ?v_58) ?hi_58 (by kernel_rfl) ?hf_58 ?hr_58 ?hQ_58 (Or.inl ⟨?hw_58, ?hy_58⟩) (by assumption) ?rest_58
        case hi_58 => ((simp only [List.getElem?_toArray, List.getElem?_cons_succ, List.getElem?_cons_zero]); rfl)
        case hf_58 => kernel_rfl
        case hr_58 => kernel_rfl
        case hQ_58 => exact fun _ _ _ h => h
        case hw_58 => rfl
        case hy_58 => ((intro w hSw; (try dsimp only at hSw); go_simp); all_goals (with_reducible rfl))
        try simp only [Act.put, List.setIfInBounds_toArray, List.set_cons_zero, List.set_cons_succ]
        refine wpAnyH_ready (rs := [4]) (by kernel_rfl) (by simp) ?_
        refine AllReadyH.cons (o := ?o1_59) ?hi_59 (fun K hK => ?rest_59) AllReadyH.nil
        case hi_59 => ((simp only [List.getElem?_toArray, List.getElem?_cons_succ, List.getElem?_cons_zero]); rfl)
        go_simp
        refine hK.out _ _ (by exact trivial) (fun hHeld => ?_)
        clear hK K
        try simp only [Act.put, List.setIfInBounds_toArray, List.set_cons_zero, List.set_cons_succ]
        refine wpAnyH_ready (rs := [5]) (by kernel_rfl) (by simp) ?_
        refine AllReadyH.cons (o := ?o1_60) ?hi_60 (fun K hK => ?rest_60) AllReadyH.nil
        case hi_60 => ((simp only [List.getElem?_toArray, List.getElem?_cons_succ, List.getElem?_cons_zero]); rfl)
        go_simp
        refine hK.out _ _ (by exact trivial) (fun hHeld => ?_)
        clear hK K
        try simp only [Act.put, List.setIfInBounds_toArray, List.set_cons_zero, List.set_cons_succ]
        refine wpAnyH_take (i := 6) (oi := ?oi_61) (v := ?v_61) ?hi_61 (by kernel_rfl) ?hf_61 ?hr_61 ?hQ_61 (Or.inl ⟨?hw_61, ?hy_61⟩) (by assumption) ?rest_61
        case hi_61 => ((simp only [List.getElem?_toArray, List.getElem?_cons_succ, List.getElem?_cons_zero]); rfl)
        case hf_61 => kernel_rfl
        case hr_61 => kernel_rfl
        case hQ_61 => exact fun _ _ _ h => h
        case hw_61 => rfl
        case hy_61 => ((intro w hSw; (try dsimp only at hSw); go_simp); all_goals (with_reducible rfl))
        try simp only [Act.put, List.setIfInBounds_toArray, List.set_cons_zero, List.set_cons_succ]
        refine wpAnyH_take (i := 10) (oi := ?oi_62) (v := ?v_62) ?hi_62 (by kernel_rfl) ?hf_62 ?hr_62 ?hQ_62 (Or.inl ⟨?hw_62, ?hy_62⟩) (by assumption) ?rest_62
        case hi_62 => ((simp only [List.getElem?_toArray, List.getElem?_cons_succ, List.getElem?_cons_zero]); rfl)
        case hf_62 => kernel_rfl
        case hr_62 => kernel_rfl
        case hQ_62 => exact fun _ _ _ h => h
        case hw_62 => rfl
        case hy_62 => ((intro w hSw; (try dsimp only at hSw); go_simp); all_goals (with_reducible rfl))
        try simp only [Act.put, List.setIfInBounds_toArray, List.set_cons_zero, List.set_cons_succ]
        refine wpAnyH_ready (rs := [11]) (by kernel_rfl) (by simp) ?_
        refine AllReadyH.cons (o := ?o1_63) ?hi_63 (fun K hK => ?rest_63) AllReadyH.nil
        case hi_63 => ((simp only [List.getElem?_toArray, List.getElem?_cons_succ, List.getElem?_cons_zero]); rfl)
        go_simp
        ((go_at_call 13; (with_reducible refine (HR.out _).mono ?_); rintro e w6 ⟨rfl, hb6⟩))
        try go_simp
        refine hK.out _ _ (by exact trivial) (fun hHeld => ?_)
        clear hK K
        try simp only [Act.put, List.setIfInBounds_toArray, List.set_cons_zero, List.set_cons_succ]
        refine wpAnyH_take (i := 12) (oi := ?oi_64) (v := ?v_64) ?hi_64 (by kernel_rfl) ?hf_64 ?hr_64 ?hQ_64 (Or.inl ⟨?hw_64, ?hy_64⟩) (by assumption) ?rest_64
        case hi_64 => ((simp only [List.getElem?_toArray, List.getElem?_cons_succ, List.getElem?_cons_zero]); rfl)
        case hf_64 => kernel_rfl
        case hr_64 => kernel_rfl
        case hQ_64 => exact fun _ _ _ h => h
        case hw_64 => rfl
        case hy_64 => ((intro w hSw; (try dsimp only at hSw); go_simp); all_goals (with_reducible rfl))
        try simp only [Act.put, List.setIfInBounds_toArray, List.set_cons_zero, List.set_cons_succ]
        refine wpAnyH_take (i := 13) (oi := ?oi_65) (v := ?v_65) ?hi_65 (by kernel_rfl) ?hf_65 ?hr_65 ?hQ_65 (Or.inl ⟨?hw_65, ?hy_65⟩) (by assumption) ?rest_65
        case hi_65 => ((simp only [List.getElem?_toArray, List.getElem?_cons_succ, List.getElem?_cons_zero]); rfl)
        case hf_65 => kernel_rfl
        case hr_65 => kernel_rfl
        case hQ_65 => exact fun _ _ _ h => h
        case hw_65 => rfl
        case hy_65 => ((intro w hSw; (try dsimp only at hSw); go_simp); all_goals (with_reducible rfl))
        try simp only [Act.put, List.setIfInBounds_toArray, List.set_cons_zero, List.set_cons_succ]
        refine wpAnyH_take (i := 14) (oi := ?oi_66) (v := ?v_66) ?hi_66 (by kernel_rfl) ?hf_66 ?hr_66 ?hQ_66 (Or.inl ⟨?hw_66, ?hy_66⟩) (by assumption) ?rest_66
        case hi_66 => ((simp only [List.getElem?_toArray, List.getElem?_cons_succ, List.getElem?_cons_zero]); rfl)
        case hf_66 => kernel_rfl
        case hr_66 => kernel_rfl
        case hQ_66 => exact fun _ _ _ h => h
        case hw_66 => rfl
        case hy_66 => ((intro w hSw; (try dsimp only at hSw); go_simp); all_goals (with_reducible rfl))
        try simp only [Act.put, List.setIfInBounds_toArray, List.set_cons_zero, List.set_cons_succ]
        refine wpAnyH_take (i := 15) (oi := ?oi_67) (v := ?v_67) ?hi_67 (by kernel_rfl) ?hf_67 ?hr_67 ?hQ_67 (Or.inl ⟨?hw_67, ?hy_67⟩) (by assumption) ?rest_67
        case hi_67 => ((simp only [List.getElem?_toArray, List.getElem?_cons_succ, List.getElem?_cons_zero]); rfl)
        case hf_67 => kernel_rfl
        case hr_67 => kernel_rfl
        case hQ_67 => exact fun _ _ _ h => h
        case hw_67 => rfl
        case hy_67 => ((intro w hSw; (try dsimp only at hSw); go_simp); all_goals (with_reducible rfl))
        try simp only [Act.put, List.setIfInBounds_toArray, List.set_cons_zero, List.set_cons_succ]
        refine wpAnyH_take (i := 16) (oi := ?oi_68) (v := ?v_68) ?hi_68 (by kernel_rfl) ?hf_68 ?hr_68 ?hQ_68 (Or.inl ⟨?hw_68, ?hy_68⟩) (by assumption) ?rest_68
        case hi_68 => ((simp only [List.getElem?_toArray, List.getElem?_cons_succ, List.getElem?_cons_zero]); rfl)
        case hf_68 => kernel_rfl
        case hr_68 => kernel_rfl
        case hQ_68 => exact fun _ _ _ h => h
        case hw_68 => rfl
        case hy_68 => ((intro w hSw; (try dsimp only at hSw); go_simp); all_goals (with_reducible rfl))
        try simp only [Act.put, List.setIfInBounds_toArray, List.set_cons_zero, List.set_cons_succ]
        refine wpAnyH_done (by kernel_rfl) ?_ _
        go_wp2
        go_ret
        exact ⟨rfl, belStep hw (by repeat (first | assumption | exact Below.refl _ _ | refine belAlloc ?_ _ | refine belDrew ?_ | refine belStep ?_ (by assumption)))⟩
  · go_upto_region 10 with fail
    rcases hcases with (⟨g3, g4⟩ | ⟨g3, g4, g5⟩ | ⟨g3, g4, g5⟩) | ⟨hodd, hx⟩
    · go_wp2
      go_ret
      exact ⟨rfl, belStep hw hbel⟩
    · go_wp2
      go_ret
      exact ⟨rfl, belStep hw hbel⟩
    · go_wp2
      go_ret
      exact ⟨rfl, belStep hw hbel⟩
    · have HR := Lib.hid (HO.out hodd)
      have hk1 : (k : Int) ≤ (L : Int) := by omega
      have hsc := Lib.hid (show (strOfNums [c]).size = 1 from rfl)
      have ct1 : ¬ 9223372036854775807 < k + (strOfNums [c]).size := by rw [hsc.out]; omega
      have ct2 : ¬ 9223372036854775807 < k + (strOfNums [c]).size + (L - k) := by rw [hsc.out]; omega
      have hcv : ∀ u : World, (convert 37 9 (.slice (some ⟨u.heap.size, 0, none⟩) 1 1)).run Tryd.prog (u.alloc (.cells #[.int .u8 c] 5)).drew = .ok (.string (strOfNums [c])) (u.alloc (.cells #[.int .u8 c] 5)).drew := fun u => conv_str (Ints.later (hb := belDrew (Below.refl _ _)) <| ints_new (k := .u8) u [c] 5 (0, 0) (by unfold maxLen; simp) (fun m hm => by simp at hm; subst hm; exact WalkArith.wf_u8 ⟨by omega, by omega⟩))
      rcases hx with g3 | ⟨g3, g4⟩ | ⟨g3, g4⟩ | g3
      · go_upto_region 13 with fail
        refine wp_region_held_drew (S := (fun w' => True)) (by kernel_rfl) (by exact trivial) (fun hHeld => ?_)
        refine wpAnyH_take (i := 0) (oi := ?oi_69) (v := ?v_69) ?hi_69 (by kernel_rfl) ?hf_69 ?hr_69 ?hQ_69 (Or.inl ⟨?hw_69, ?hy_69⟩) (by assumption) ?rest_69
        case hi_69 => ((simp only [List.getElem?_toArray, List.getElem?_cons_succ, List.getElem?_cons_zero]); rfl)
        case hf_69 => kernel_rfl
        case hr_69 => kernel_rfl
        case hQ_69 => exact fun _ _ _ h => h
        case hw_69 => rfl
        case hy_69 => ((intro w hSw; (try dsimp only at hSw); go_simp); all_goals (with_reducible rfl))
        try simp only [Act.put, List.setIfInBounds_toArray, List.set_cons_zero, List.set_cons_succ]
        refine wpAnyH_take (i := 1) (oi := ?oi_70) (v := ?v_70) ?hi_70 (by kernel_rfl) ?hf_70 ?hr_70 ?hQ_70 (Or.inl ⟨?hw_70, ?hy_70⟩) (by assumption) ?rest_70
        case hi_70 => ((simp only [List.getElem?_toArray, List.getElem?_cons_succ, List.getElem?_cons_zero]); rfl)
        case hf_70 => kernel_rfl
        case hr_70 => kernel_rfl
        case hQ_70 => exact fun _ _ _ h => h
        case hw_70 => rfl
        case hy_70 => ((intro w hSw; (try dsimp only at hSw); go_simp); all_goals (with_reducible rfl))
        try simp only [Act.put, List.setIfInBounds_toArray, List.set_cons_zero, List.set_cons_succ]
        refine wpAnyH_take (i := 2) (oi := ?oi_71) (v := ?v_71) ?hi_71 (by kernel_rfl) ?hf_71 ?hr_71 ?hQ_71 (Or.inl ⟨?hw_71, ?hy_71⟩) (by assumption) ?rest_71
        case hi_71 => ((simp only [List.getElem?_toArray, List.getElem?_cons_succ, List.getElem?_cons_zero]); rfl)
        case hf_71 => kernel_rfl
        case hr_71 => kernel_rfl
        case hQ_71 => exact fun _ _ _ h => h
        case hw_71 => rfl
        case hy_71 => ((intro w hSw; (try dsimp only at hSw); go_simp); all_goals (with_reducible rfl))
        try simp only [Act.put, List.setIfInBounds_toArray, List.set_cons_zero, List.set_cons_succ]
        refine wpAnyH_take (i := 3) (oi := ?oi_72) (v := ?v_72) ?hi_72 (by kernel_rfl) ?hf_72 ?hr_72 ?hQ_72 (Or.inl ⟨?hw_72, ?hy_72⟩) (by assumption) ?rest_72
        case hi_72 => ((simp only [List.getElem?_toArray, List.getElem?_cons_succ, List.getElem?_cons_zero]); rfl)
        case hf_72 => kernel_rfl
        case hr_72 => kernel_rfl
        case hQ_72 => exact fun _ _ _ h => h
        case hw_72 => rfl
        case hy_72 => ((intro w hSw; (try dsimp only at hSw); go_simp); all_goals (with_reducible rfl))
        try simp only [Act.put, List.setIfInBounds_toArray, List.set_cons_zero, List.set_cons_succ]
        refine wpAnyH_take (i := 7) (oi := ?oi_73) (v := ?v_73) ?hi_73 (by kernel_rfl) ?hf_73 ?hr_73 ?hQ_73 (Or.inl ⟨?hw_73, ?hy_73⟩) (by assumption) ?rest_73
        case hi_73 => ((simp only [List.getElem?_toArray, List.getElem?_cons_succ, List.getElem?_cons_zero]); rfl)
        case hf_73 => kernel_rfl
        case hr_73 => kernel_rfl
        case hQ_73 => exact fun _ _ _ h => h
        case hw_73 => rfl
        case hy_73 => ((intro w hSw; (try dsimp only at hSw); go_simp); all_goals (with_reducible rfl))
        try simp only [Act.put, List.setIfInBounds_toArray, List.set_cons_zero, List.set_cons_succ]
        refine wpAnyH_take (i := 8) (oi := ?oi_74) (v := ?v_74) ?hi_74 (by kernel_rfl) ?hf_74 ?hr_74 ?hQ_74 (Or.inl ⟨?hw_74, ?hy_74⟩) (by assumption) ?rest_74
        case hi_74 => ((simp only [List.getElem?_toArray, List.getElem?_cons_succ, List.getElem?_cons_zero]); rfl)
        case hf_74 => kernel_rfl
        case hr_74 => kernel_rfl
        case hQ_74 => exact fun _ _ _ h => h
        case hw_74 => rfl
        case hy_74 => ((intro w hSw; (try dsimp only at hSw); go_simp); all_goals (with_reducible rfl))
        try simp only [Act.put, List.setIfInBounds_toArray, List.set_cons_zero, List.set_cons_succ]
        refine wpAnyH_take (i := 9) (oi := ?oi_75) (v := ?v_75) ?hi_75 (by kernel_rfl) ?hf_75 ?hr_75 ?hQ_75 (Or.inl ⟨?hw_75, ?hy_75⟩) (by assumption) ?rest_75
        case hi_75 => ((simp only [List.getElem?_toArray, List.getElem?_cons_succ, List.getElem?_cons_zero]); rfl)
        case hf_75 => kernel_rfl
        case hr_75 => kernel_rfl
        case hQ_75 => exact fun _ _ _ h => h
        case hw_75 => rfl
        case hy_75 => ((intro w hSw; (try dsimp only at hSw); go_simp); all_goals (with_reducible rfl))
        try simp only [Act.put, List.setIfInBounds_toArray, List.set_cons_zero, List.set_cons_succ]
        refine wpAnyH_ready (rs := [4]) (by kernel_rfl) (by simp) ?_
        refine AllReadyH.cons (o := ?o1_76) ?hi_76 (fun K hK => ?rest_76) AllReadyH.nil
        case hi_76 => ((simp only [List.getElem?_toArray, List.getElem?_cons_succ, List.getElem?_cons_zero]); rfl)
        go_simp
        refine hK.out _ _ (by exact trivial) (fun hHeld => ?_)
        clear hK K
        try simp only [Act.put, List.setIfInBounds_toArray, List.set_cons_zero, List.set_cons_succ]
        refine wpAnyH_ready (rs := [5]) (by kernel_rfl) (by simp) ?_
        refine AllReadyH.cons (o := ?o1_77) ?hi_77 (fun K hK => ?rest_77) AllReadyH.nil
        case hi_77 => ((simp only [List.getElem?_toArray, List.getElem?_cons_succ, List.getElem?_cons_zero]); rfl)
        go_simp
        refine hK.out _ _ (by exact trivial) (fun hHeld => ?_)
        clear hK K
        try simp only [Act.put, List.setIfInBounds_toArray, List.set_cons_zero, List.set_cons_succ]
        refine wpAnyH_take (i := 6) (oi := ?oi_78) (v := ?v_78) ?hi_78 (by kernel_rfl) ?hf_78 ?hr_78 ?hQ_78 (Or.inl ⟨?hw_78, ?hy_78⟩) (by assumption) ?rest_78
        case hi_78 => ((simp only [List.getElem?_toArray, List.getElem?_cons_succ, List.getElem?_cons_zero]); rfl)
        case hf_78 => kernel_rfl
        case hr_78 => kernel_rfl
        case hQ_78 => exact fun _ _ _ h => h
        case hw_78 => rfl
        case hy_78 => ((intro w hSw; (try dsimp only at hSw); go_simp); all_goals (with_reducible rfl))
        try simp only [Act.put, List.setIfInBounds_toArray, List.set_cons_zero, List.set_cons_succ]
        refine wpAnyH_take (i := 10) (oi := ?oi_79) (v := ?v_79) ?hi_79 (by kernel_rfl) ?hf_79 ?hr_79 ?hQ_79 (Or.inl ⟨?hw_79, ?hy_79⟩) (by assumption) ?rest_79
        case hi_79 => ((simp only [List.getElem?_toArray, List.getElem?_cons_succ, List.getElem?_cons_zero]); rfl)
        case hf_79 => kernel_rfl
        case hr_79 => kernel_rfl
        case hQ_79 => exact fun _ _ _ h => h
        case hw_79 => rfl
        case hy_79 => ((intro w hSw; (try dsimp only at hSw); go_simp); all_goals (with_reducible rfl))
        try simp only [Act.put, List.setIfInBounds_toArray, List.set_cons_zero, List.set_cons_succ]
        refine wpAnyH_ready (rs := [11]) (by kernel_rfl) (by simp) ?_
        refine AllReadyH.cons (o := ?o1_80) ?hi_80 (fun K hK => ?rest_80) AllReadyH.nil
        case hi_80 => ((simp only [List.getElem?_toArray, List.getElem?_cons_succ, List.getElem?_cons_zero]); rfl)
        go_simp
        ((go_at_call 13; (with_reducible refine (HR.out _).mono ?_); rintro e w6 ⟨rfl, hb6⟩))
        try go_simp
        refine hK.out _ _ (by exact trivial) (fun hHeld => ?_)
        clear hK K
        try simp only [Act.put, List.setIfInBounds_toArray, List.set_cons_zero, List.set_cons_succ]
        refine wpAnyH_take (i := 12) (oi := ?oi_81) (v := ?v_81) ?hi_81 (by kernel_rfl) ?hf_81 ?hr_81 ?hQ_81 (Or.inl ⟨?hw_81, ?hy_81⟩) (by assumption) ?rest_81
        case hi_81 => ((simp only [List.getElem?_toArray, List.getElem?_cons_succ, List.getElem?_cons_zero]); rfl)
        case hf_81 => kernel_rfl
        case hr_81 => kernel_rfl
        case hQ_81 => exact fun _ _ _ h => h
        case hw_81 => rfl
        case hy_81 => ((intro w hSw; (try dsimp only at hSw); go_simp); all_goals (with_reducible rfl))
        try simp only [Act.put, List.setIfInBounds_toArray, List.set_cons_zero, List.set_cons_succ]
        refine wpAnyH_take (i := 13) (oi := ?oi_82) (v := ?v_82) ?hi_82 (by kernel_rfl) ?hf_82 ?hr_82 ?hQ_82 (Or.inl ⟨?hw_82, ?hy_82⟩) (by assumption) ?rest_82
        case hi_82 => ((simp only [List.getElem?_toArray, List.getElem?_cons_succ, List.getElem?_cons_zero]); rfl)
        case hf_82 => kernel_rfl
        case hr_82 => kernel_rfl
        case hQ_82 => exact fun _ _ _ h => h
        case hw_82 => rfl
        case hy_82 => ((intro w hSw; (try dsimp only at hSw); go_simp); all_goals (with_reducible rfl))
        try simp only [Act.put, List.setIfInBounds_toArray, List.set_cons_zero, List.set_cons_succ]
        refine wpAnyH_take (i := 14) (oi := ?oi_83) (v := ?v_83) ?hi_83 (by kernel_rfl) ?hf_83 ?hr_83 ?hQ_83 (Or.inl ⟨?hw_83, ?hy_83⟩) (by assumption) ?rest_83
        case hi_83 => ((simp only [List.getElem?_toArray, List.getElem?_cons_succ, List.getElem?_cons_zero]); rfl)
        case hf_83 => kernel_rfl
        case hr_83 => kernel_rfl
        case hQ_83 => exact fun _ _ _ h => h
        case hw_83 => rfl
        case hy_83 => ((intro w hSw; (try dsimp only at hSw); go_simp); all_goals (with_reducible rfl))
        try simp only [Act.put, List.setIfInBounds_toArray, List.set_cons_zero, List.set_cons_succ]
        refine wpAnyH_take (i := 15) (oi := ?oi_84) (v := ?v_84) ?hi_84 (by kernel_rfl) ?hf_84 ?hr_84 ?hQ_84 (Or.inl ⟨?hw_84, ?hy_84⟩) (by assumption) ?rest_84
        case hi_84 => ((simp only [List.getElem?_toArray, List.getElem?_cons_succ, List.getElem?_cons_zero]); rfl)
        case hf_84 => kernel_rfl
        case hr_84 => kernel_rfl
        case hQ_84 => exact fun _ _ _ h => h
        case hw_84 => rfl
        case hy_84 => ((intro w hSw; (try dsimp only at hSw); go_simp); all_goals (with_reducible rfl))
        try simp only [Act.put, List.setIfInBounds_toArray, List.set_cons_zero, List.set_cons_succ]
        refine wpAnyH_take (i := 16) (oi := ?oi_85) (v := ?v_85) ?hi_85 (by kernel_rfl) ?hf_85 ?hr_85 ?hQ_85 (Or.inl ⟨?hw_85, ?hy_85⟩) (by assumption) ?rest_85
        case hi_85 => ((simp only [List.getElem?_toArray, List.getElem?_cons_succ, List.getElem?_cons_zero]); rfl)
        case hf_85 => kernel_rfl
        case hr_85 => kernel_rfl
        case hQ_85 => exact fun _ _ _ h => h
        case hw_85 => rfl
        case hy_85 => ((intro w hSw; (try dsimp only at hSw); go_simp); all_goals (with_reducible rfl))
        try simp only [Act.put, List.setIfInBounds_toArray, List.set_cons_zero, List.set_cons_succ]
        refine wpAnyH_done (by kernel_rfl) ?_ _
        go_wp2
        go_ret
        exact ⟨rfl, belStep hw (by repeat (first | assumption | exact Below.refl _ _ | refine belAlloc ?_ _ | refine belDrew ?_ | refine belStep ?_ (by assumption)))⟩
      · go_upto_region 13 with fail
        refine wp_region_held_drew (S := (fun w' => True)) (by kernel_rfl) (by exact trivial) (fun hHeld => ?_)
        refine wpAnyH_take (i := 0) (oi := ?oi_86) (v := ?v_86) ?hi_86 (by kernel_rfl) ?hf_86 ?hr_86 ?hQ_86 (Or.inl ⟨?hw_86, ?hy_86⟩) (by assumption) ?rest_86
        case hi_86 => ((simp only [List.getElem?_toArray, List.getElem?_cons_succ, List.getElem?_cons_zero]); rfl)
        case hf_86 => kernel_rfl
        case hr_86 => kernel_rfl
        case hQ_86 => exact fun _ _ _ h => h
        case hw_86 => rfl
        case hy_86 => ((intro w hSw; (try dsimp only at hSw); go_simp); all_goals (with_reducible rfl))
        try simp only [Act.put, List.setIfInBounds_toArray, List.set_cons_zero, List.set_cons_succ]
        refine wpAnyH_take (i := 1) (oi := ?oi_87) (v := ?v_87) ?hi_87 (by kernel_rfl) ?hf_87 ?hr_87 ?hQ_87 (Or.inl ⟨?hw_87, ?hy_87⟩) (by assumption) ?rest_87
        case hi_87 => ((simp only [List.getElem?_toArray, List.getElem?_cons_succ, List.getElem?_cons_zero]); rfl)
        case hf_87 => kernel_rfl
        case hr_87 => kernel_rfl
        case hQ_87 => exact fun _ _ _ h => h
        case hw_87 => rfl
        case hy_87 => ((intro w hSw; (try dsimp only at hSw); go_simp); all_goals (with_reducible rfl))
        try simp only [Act.put, List.setIfInBounds_toArray, List.set_cons_zero, List.set_cons_succ]
        refine wpAnyH_take (i := 2) (oi := ?oi_88) (v := ?v_88) ?hi_88 (by kernel_rfl) ?hf_88 ?hr_88 ?hQ_88 (Or.inl ⟨?hw_88, ?hy_88⟩) (by assumption) ?rest_88
        case hi_88 => ((simp only [List.getElem?_toArray, List.getElem?_cons_succ, List.getElem?_cons_zero]); rfl)
        case hf_88 => kernel_rfl
        case hr_88 => kernel_rfl
        case hQ_88 => exact fun _ _ _ h => h
        case hw_88 => rfl
        case hy_88 => ((intro w hSw; (try dsimp only at hSw); go_simp); all_goals (with_reducible rfl))
        try simp only [Act.put, List.setIfInBounds_toArray, List.set_cons_zero, List.set_cons_succ]
        refine wpAnyH_take (i := 3) (oi := ?oi_89) (v := ?v_89) ?hi_89 (by kernel_rfl) ?hf_89 ?hr_89 ?hQ_89 (Or.inl ⟨?hw_89, ?hy_89⟩) (by assumption) ?rest_89
        case hi_89 => ((simp only [List.getElem?_toArray, List.getElem?_cons_succ, List.getElem?_cons_zero]); rfl)
        case hf_89 => kernel_rfl
        case hr_89 => kernel_rfl
        case hQ_89 => exact fun _ _ _ h => h
        case hw_89 => rfl
        case hy_89 => ((intro w hSw; (try dsimp only at hSw); go_simp); all_goals (with_reducible rfl))
        try simp only [Act.put, List.setIfInBounds_toArray, List.set_cons_zero, List.set_cons_succ]
        refine wpAnyH_take (i := 7) (oi := ?oi_90) (v := ?v_90) ?hi_90 (by kernel_rfl) ?hf_90 ?hr_90 ?hQ_90 (Or.inl ⟨?hw_90, ?hy_90⟩) (by assumption) ?rest_90
        case hi_90 => ((simp only [List.getElem?_toArray, List.getElem?_cons_succ, List.getElem?_cons_zero]); rfl)
        case hf_90 => kernel_rfl
        case hr_90 => kernel_rfl
        case hQ_90 => exact fun _ _ _ h => h
        case hw_90 => rfl
        case hy_90 => ((intro w hSw; (try dsimp only at hSw); go_simp); all_goals (with_reducible rfl))
        try simp only [Act.put, List.setIfInBounds_toArray, List.set_cons_zero, List.set_cons_succ]
        refine wpAnyH_take (i := 8) (oi := ?oi_91) (v := ?v_91) ?hi_91 (by kernel_rfl) ?hf_91 ?hr_91 ?hQ_91 (Or.inl ⟨?hw_91, ?hy_91⟩) (by assumption) ?rest_91
        case hi_91 => ((simp only [List.getElem?_toArray, List.getElem?_cons_succ, List.getElem?_cons_zero]); rfl)
        case hf_91 => kernel_rfl
        case hr_91 => kernel_rfl
        case hQ_91 => exact fun _ _ _ h => h
        case hw_91 => rfl
        case hy_91 => ((intro w hSw; (try dsimp only at hSw); go_simp); all_goals (with_reducible rfl))
        try simp only [Act.put, List.setIfInBounds_toArray, List.set_cons_zero, List.set_cons_succ]
        refine wpAnyH_take (i := 9) (oi := ?oi_92) (v := ?v_92) ?hi_92 (by kernel_rfl) ?hf_92 ?hr_92 ?hQ_92 (Or.inl ⟨?hw_92, ?hy_92⟩) (by assumption) ?rest_92
        case hi_92 => ((simp only [List.getElem?_toArray, List.getElem?_cons_succ, List.getElem?_cons_zero]); rfl)
        case hf_92 => kernel_rfl
        case hr_92 => kernel_rfl
        case hQ_92 => exact fun _ _ _ h => h
        case hw_92 => rfl
        case hy_92 => ((intro w hSw; (try dsimp only at hSw); go_simp); all_goals (with_reducible rfl))
        try simp only [Act.put, List.setIfInBounds_toArray, List.set_cons_zero, List.set_cons_succ]
        refine wpAnyH_ready (rs := [4]) (by kernel_rfl) (by simp) ?_
        refine AllReadyH.cons (o := ?o1_93) ?hi_93 (fun K hK => ?rest_93) AllReadyH.nil
        case hi_93 => ((simp only [List.getElem?_toArray, List.getElem?_cons_succ, List.getElem?_cons_zero]); rfl)
        go_simp
        refine hK.out _ _ (by exact trivial) (fun hHeld => ?_)
        clear hK K
        try simp only [Act.put, List.setIfInBounds_toArray, List.set_cons_zero, List.set_cons_succ]
        refine wpAnyH_ready (rs := [5]) (by kernel_rfl) (by simp) ?_
        refine AllReadyH.cons (o := ?o1_94) ?hi_94 (fun K hK => ?rest_94) AllReadyH.nil
        case hi_94 => ((simp only [List.getElem?_toArray, List.getElem?_cons_succ, List.getElem?_cons_zero]); rfl)
        go_simp
        refine hK.out _ _ (by exact trivial) (fun hHeld => ?_)
        clear hK K
        try simp only [Act.put, List.setIfInBounds_toArray, List.set_cons_zero, List.set_cons_succ]
        refine wpAnyH_take (i := 6) (oi := ?oi_95) (v := ?v_95) ?hi_95 (by kernel_rfl) ?hf_95 ?hr_95 ?hQ_95 (Or.inl ⟨?hw_95, ?hy_95⟩) (by assumption) ?rest_95
        case hi_95 => ((simp only [List.getElem?_toArray, List.getElem?_cons_succ, List.getElem?_cons_zero]); rfl)
        case hf_95 => kernel_rfl
        case hr_95 => kernel_rfl
        case hQ_95 => exact fun _ _ _ h => h
        case hw_95 => rfl
        case hy_95 => ((intro w hSw; (try dsimp only at hSw); go_simp); all_goals (with_reducible rfl))
        try simp only [Act.put, List.setIfInBounds_toArray, List.set_cons_zero, List.set_cons_succ]
        refine wpAnyH_take (i := 10) (oi := ?oi_96) (v := ?v_96) ?hi_96 (by kernel_rfl) ?hf_96 ?hr_96 ?hQ_96 (Or.inl ⟨?hw_96, ?hy_96⟩) (by assumption) ?rest_96
        case hi_96 => ((simp only [List.getElem?_toArray, List.getElem?_cons_succ, List.getElem?_cons_zero]); rfl)
        case hf_96 => kernel_rfl
        case hr_96 => kernel_rfl
        case hQ_96 => exact fun _ _ _ h => h
        case hw_96 => rfl
        case hy_96 => ((intro w hSw; (try dsimp only at hSw); go_simp); all_goals (with_reducible rfl))
        try simp only [Act.put, List.setIfInBounds_toArray, List.set_cons_zero, List.set_cons_succ]
        refine wpAnyH_ready (rs := [11]) (by kernel_rfl) (by simp) ?_
        refine AllReadyH.cons (o := ?o1_97) ?hi_97 (fun K hK => ?rest_97) AllReadyH.nil
        case hi_97 => ((simp only [List.getElem?_toArray, List.getElem?_cons_succ, List.getElem?_cons_zero]); rfl)
        go_simp
        ((go_at_call 13; (with_reducible refine (HR.out _).mono ?_); rintro e w6 ⟨rfl, hb6⟩))
        try go_simp
        refine hK.out _ _ (by exact trivial) (fun hHeld => ?_)
        clear hK K
        try simp only [Act.put, List.setIfInBounds_toArray, List.set_cons_zero, List.set_cons_succ]
        refine wpAnyH_take (i := 12) (oi := ?oi_98) (v := ?v_98) ?hi_98 (by kernel_rfl) ?hf_98 ?hr_98 ?hQ_98 (Or.inl ⟨?hw_98, ?hy_98⟩) (by assumption) ?rest_98
        case hi_98 => ((simp only [List.getElem?_toArray, List.getElem?_cons_succ, List.getElem?_cons_zero]); rfl)
        case hf_98 => kernel_rfl
        case hr_98 => kernel_rfl
        case hQ_98 => exact fun _ _ _ h => h
        case hw_98 => rfl
        case hy_98 => ((intro w hSw; (try dsimp only at hSw); go_simp); all_goals (with_reducible rfl))
        try simp only [Act.put, List.setIfInBounds_toArray, List.set_cons_zero, List.set_cons_succ]
        refine wpAnyH_take (i := 13) (oi := ?oi_99) (v := ?v_99) ?hi_99 (by kernel_rfl) ?hf_99 ?hr_99 ?hQ_99 (Or.inl ⟨?hw_99, ?hy_99⟩) (by assumption) ?rest_99
        case hi_99 => ((simp only [List.getElem?_toArray, List.getElem?_cons_succ, List.getElem?_cons_zero]); rfl)
        case hf_99 => kernel_rfl
        case hr_99 => kernel_rfl
        case hQ_99 => exact fun _ _ _ h => h
        case hw_99 => rfl
        case hy_99 => ((intro w hSw; (try dsimp only at hSw); go_simp); all_goals (with_reducible rfl))
        try simp only [Act.put, List.setIfInBounds_toArray, List.set_cons_zero, List.set_cons_succ]
        refine wpAnyH_take (i := 14) (oi := ?oi_100) (v := ?v_100) ?hi_100 (by kernel_rfl) ?hf_100 ?hr_100 ?hQ_100 (Or.inl ⟨?hw_100, ?hy_100⟩) (by assumption) ?rest_100
        case hi_100 => ((simp only [List.getElem?_toArray, List.getElem?_cons_succ, List.getElem?_cons_zero]); rfl)
        case hf_100 => kernel_rfl
        case hr_100 => kernel_rfl
        case hQ_100 => exact fun _ _ _ h => h
        case hw_100 => rfl
        case hy_100 => ((intro w hSw; (try dsimp only at hSw); go_simp); all_goals (with_reducible rfl))
        try simp only [Act.put, List.setIfInBounds_toArray, List.set_cons_zero, List.set_cons_succ]
        refine wpAnyH_take (i := 15) (oi := ?oi_101) (v := ?v_101) ?hi_101 (by kernel_rfl) ?hf_101 ?hr_101 ?hQ_101 (Or.inl ⟨?hw_101, ?hy_101⟩) (by assumption) ?rest_101
        case hi_101 => ((simp only [List.getElem?_toArray, List.getElem?_cons_succ, List.getElem?_cons_zero]); rfl)
        case hf_101 => kernel_rfl
        case hr_101 => kernel_rfl
        case hQ_101 => exact fun _ _ _ h => h
        case hw_101 => rfl
        case hy_101 => ((intro w hSw; (try dsimp only at hSw); go_simp); all_goals (with_reducible rfl))
        try simp only [Act.put, List.setIfInBounds_toArray, List.set_cons_zero, List.set_cons_succ]
        refine wpAnyH_take (i := 16) (oi := ?oi_102) (v := ?v_102) ?hi_102 (by kernel_rfl) ?hf_102 ?hr_102 ?hQ_102 (Or.inl ⟨?hw_102, ?hy_102⟩) (by assumption) ?rest_102
        case hi_102 => ((simp only [List.getElem?_toArray, List.getElem?_cons_succ, List.getElem?_cons_zero]); rfl)
        case hf_102 => kernel_rfl
        case hr_102 => kernel_rfl
        case hQ_102 => exact fun _ _ _ h => h
        case hw_102 => rfl
        case hy_102 => ((intro w hSw; (try dsimp only at hSw); go_simp); all_goals (with_reducible rfl))
        try simp only [Act.put, List.setIfInBounds_toArray, List.set_cons_zero, List.set_cons_succ]
        refine wpAnyH_done (by kernel_rfl) ?_ _
        go_wp2
        go_ret
        exact ⟨rfl, belStep hw (by repeat (first | assumption | exact Below.refl _ _ | refine belAlloc ?_ _ | refine belDrew ?_ | refine belStep ?_ (by assumption)))⟩
      · go_upto_region 13 with fail
        refine wp_region_held_drew (S := (fun w' => True)) (by kernel_rfl) (by exact trivial) (fun hHeld => ?_)
        refine wpAnyH_take (i := 0) (oi := ?oi_103) (v := ?v_103) ?hi_103 (by kernel_rfl) ?hf_103 ?hr_103 ?hQ_103 (Or.inl ⟨?hw_103, ?hy_103⟩) (by assumption) ?rest_103
        case hi_103 => ((simp only [List.getElem?_toArray, List.getElem?_cons_succ, List.getElem?_cons_zero]); rfl)
        case hf_103 => kernel_rfl
        case hr_103 => kernel_rfl
        case hQ_103 => exact fun _ _ _ h => h
        case hw_103 => rfl
        case hy_103 => ((intro w hSw; (try dsimp only at hSw); go_simp); all_goals (with_reducible rfl))
        try simp only [Act.put, List.setIfInBounds_toArray, List.set_cons_zero, List.set_cons_succ]
        refine wpAnyH_take (i := 1) (oi := ?oi_104) (v := ?v_104) ?hi_104 (by kernel_rfl) ?hf_104 ?hr_104 ?hQ_104 (Or.inl ⟨?hw_104, ?hy_104⟩) (by assumption) ?rest_104
        case hi_104 => ((simp only [List.getElem?_toArray, List.getElem?_cons_succ, List.getElem?_cons_zero]); rfl)
        case hf_104 => kernel_rfl
        case hr_104 => kernel_rfl
        case hQ_104 => exact fun _ _ _ h => h
        case hw_104 => rfl
        case hy_104 => ((intro w hSw; (try dsimp only at hSw); go_simp); all_goals (with_reducible rfl))
        try simp only [Act.put, List.setIfInBounds_toArray, List.set_cons_zero, List.set_cons_succ]
        refine wpAnyH_take (i := 2) (oi := ?oi_105) (v := ?v_105) ?hi_105 (by kernel_rfl) ?hf_105 ?hr_105 ?hQ_105 (Or.inl ⟨?hw_105, ?hy_105⟩) (by assumption) ?rest_105
        case hi_105 => ((simp only [List.getElem?_toArray, List.getElem?_cons_succ, List.getElem?_cons_zero]); rfl)
        case hf_105 => kernel_rfl
        case hr_105 => kernel_rfl
        case hQ_105 => exact fun _ _ _ h => h
        case hw_105 => rfl
        case hy_105 => ((intro w hSw; (try dsimp only at hSw); go_simp); all_goals (with_reducible rfl))
        try simp only [Act.put, List.setIfInBounds_toArray, List.set_cons_zero, List.set_cons_succ]
        refine wpAnyH_take (i := 3) (oi := ?oi_106) (v := ?v_106) ?hi_106 (by kernel_rfl) ?hf_106 ?hr_106 ?hQ_106 (Or.inl ⟨?hw_106, ?hy_106⟩) (by assumption) ?rest_106
        case hi_106 => ((simp only [List.getElem?_toArray, List.getElem?_cons_succ, List.getElem?_cons_zero]); rfl)
        case hf_106 => kernel_rfl
        case hr_106 => kernel_rfl
        case hQ_106 => exact fun _ _ _ h => h
        case hw_106 => rfl
        case hy_106 => ((intro w hSw; (try dsimp only at hSw); go_simp); all_goals (with_reducible rfl))
        try simp only [Act.put, List.setIfInBounds_toArray, List.set_cons_zero, List.set_cons_succ]
        refine wpAnyH_take (i := 7) (oi := ?oi_107) (v := ?v_107) ?hi_107 (by kernel_rfl) ?hf_107 ?hr_107 ?hQ_107 (Or.inl ⟨?hw_107, ?hy_107⟩) (by assumption) ?rest_107
        case hi_107 => ((simp only [List.getElem?_toArray, List.getElem?_cons_succ, List.getElem?_cons_zero]); rfl)
        case hf_107 => kernel_rfl
        case hr_107 => kernel_rfl
        case hQ_107 => exact fun _ _ _ h => h
        case hw_107 => rfl
        case hy_107 => ((intro w hSw; (try dsimp only at hSw); go_simp); all_goals (with_reducible rfl))
        try simp only [Act.put, List.setIfInBounds_toArray, List.set_cons_zero, List.set_cons_succ]
        refine wpAnyH_take (i := 8) (oi := ?oi_108) (v := ?v_108) ?hi_108 (by kernel_rfl) ?hf_108 ?hr_108 ?hQ_108 (Or.inl ⟨?hw_108, ?hy_108⟩) (by assumption) ?rest_108
        case hi_108 => ((simp only [List.getElem?_toArray, List.getElem?_cons_succ, List.getElem?_cons_zero]); rfl)
        case hf_108 => kernel_rfl
        case hr_108 => kernel_rfl
        case hQ_108 => exact fun _ _ _ h => h
        case hw_108 => rfl
        case hy_108 => ((intro w hSw; (try dsimp only at hSw); go_simp); all_goals (with_reducible rfl))
        try simp only [Act.put, List.setIfInBounds_toArray, List.set_cons_zero, List.set_cons_succ]
        refine wpAnyH_take (i := 9) (oi := ?oi_109) (v := ?v_109) ?hi_109 (by kernel_rfl) ?hf_109 ?hr_109 ?hQ_109 (Or.inl ⟨?hw_109, ?hy_109⟩) (by assumption) ?rest_109
        case hi_109 => ((simp only [List.getElem?_toArray, List.getElem?_cons_succ, List.getElem?_cons_zero]); rfl)
        case hf_109 => kernel_rfl
        case hr_109 => kernel_rfl
        case hQ_109 => exact fun _ _ _ h => h
        case hw_109 => rfl
        case hy_109 => ((intro w hSw; (try dsimp only at hSw); go_simp); all_goals (with_reducible rfl))
        try simp only [Act.put, List.setIfInBounds_toArray, List.set_cons_zero, List.set_cons_succ]
        refine wpAnyH_ready (rs := [4]) (by kernel_rfl) (by simp) ?_
        refine AllReadyH.cons (o := ?o1_110) ?hi_110 (fun K hK => ?rest_110) AllReadyH.nil
        case hi_110 => ((simp only [List.getElem?_toArray, List.getElem?_cons_succ, List.getElem?_cons_zero]); rfl)
        go_simp
        refine hK.out _ _ (by exact trivial) (fun hHeld => ?_)
        clear hK K
        try simp only [Act.put, List.setIfInBounds_toArray, List.set_cons_zero, List.set_cons_succ]
        refine wpAnyH_ready (rs := [5]) (by kernel_rfl) (by simp) ?_
        refine AllReadyH.cons (o := ?o1_111) ?hi_111 (fun K hK => ?rest_111) AllReadyH.nil
        case hi_111 => ((simp only [List.getElem?_toArray, List.getElem?_cons_succ, List.getElem?_cons_zero]); rfl)
        go_simp
        refine hK.out _ _ (by exact trivial) (fun hHeld => ?_)
        clear hK K
        try simp only [Act.put, List.setIfInBounds_toArray, List.set_cons_zero, List.set_cons_succ]
        refine wpAnyH_take (i := 6) (oi := ?oi_112) (v := ?v_112) ?hi_112 (by kernel_rfl) ?hf_112 ?hr_112 ?hQ_112 (Or.inl ⟨?hw_112, ?hy_112⟩) (by assumption) ?rest_112
        case hi_112 => ((simp only [List.getElem?_toArray, List.getElem?_cons_succ, List.getElem?_cons_zero]); rfl)
        case hf_112 => kernel_rfl
        case hr_112 => kernel_rfl
        case hQ_112 => exact fun _ _ _ h => h
        case hw_112 => rfl
        case hy_112 => ((intro w hSw; (try dsimp only at hSw); go_simp); all_goals (with_reducible rfl))
        try simp only [Act.put, List.setIfInBounds_toArray, List.set_cons_zero, List.set_cons_succ]
        refine wpAnyH_take (i := 10) (oi := ?oi_113) (v := ?v_113) ?hi_113 (by kernel_rfl) ?hf_113 ?hr_113 ?hQ_113 (Or.inl ⟨?hw_113, ?hy_113⟩) (by assumption) ?rest_113
        case hi_113 => ((simp only [List.getElem?_toArray, List.getElem?_cons_succ, List.getElem?_cons_zero]); rfl)
        case hf_113 => kernel_rfl
        case hr_113 => kernel_rfl
        case hQ_113 => exact fun _ _ _ h => h
        case hw_113 => rfl
        case hy_113 => ((intro w hSw; (try dsimp only at hSw); go_simp); all_goals (with_reducible rfl))
        try simp only [Act.put, List.setIfInBounds_toArray, List.set_cons_zero, List.set_cons_succ]
        refine wpAnyH_ready (rs := [11]) (by kernel_rfl) (by simp) ?_
        refine AllReadyH.cons (o := ?o1_114) ?hi_114 (fun K hK => ?rest_114) AllReadyH.nil
        case hi_114 => ((simp only [List.getElem?_toArray, List.getElem?_cons_succ, List.getElem?_cons_zero]); rfl)
        go_simp
        ((go_at_call 13; (with_reducible refine (HR.out _).mono ?_); rintro e w6 ⟨rfl, hb6⟩))
        try go_simp
        refine hK.out _ _ (by exact trivial) (fun hHeld => ?_)
        clear hK K
        try simp only [Act.put, List.setIfInBounds_toArray, List.set_cons_zero, List.set_cons_succ]
        refine wpAnyH_take (i := 12) (oi := ?oi_115) (v := ?v_115) ?hi_115 (by kernel_rfl) ?hf_115 ?hr_115 ?hQ_115 (Or.inl ⟨?hw_115, ?hy_115⟩) (by assumption) ?rest_115
        case hi_115 => ((simp only [List.getElem?_toArray, List.getElem?_cons_succ, List.getElem?_cons_zero]); rfl)
        case hf_115 => kernel_rfl
        case hr_115 => kernel_rfl
        case hQ_115 => exact fun _ _ _ h => h
        case hw_115 => rfl
        case hy_115 => ((intro w hSw; (try dsimp only at hSw); go_simp); all_goals (with_reducible rfl))
        try simp only [Act.put, List.setIfInBounds_toArray, List.set_cons_zero, List.set_cons_succ]
        refine wpAnyH_take (i := 13) (oi := ?oi_116) (v := ?v_116) ?hi_116 (by kernel_rfl) ?hf_116 ?hr_116 ?hQ_116 (Or.inl ⟨?hw_116, ?hy_116⟩) (by assumption) ?rest_116
        case hi_116 => ((simp only [List.getElem?_toArray, List.getElem?_cons_succ, List.getElem?_cons_zero]); rfl)
        case hf_116 => kernel_rfl
        case hr_116 => kernel_rfl
        case hQ_116 => exact fun _ _ _ h => h
        case hw_116 => rfl
        case hy_116 => ((intro w hSw; (try dsimp only at hSw); go_simp); all_goals (with_reducible rfl))
        try simp only [Act.put, List.setIfInBounds_toArray, List.set_cons_zero, List.set_cons_succ]
        refine wpAnyH_take (i := 14) (oi := ?oi_117) (v := ?v_117) ?hi_117 (by kernel_rfl) ?hf_117 ?hr_117 ?hQ_117 (Or.inl ⟨?hw_117, ?hy_117⟩) (by assumption) ?rest_117
        case hi_117 => ((simp only [List.getElem?_toArray, List.getElem?_cons_succ, List.getElem?_cons_zero]); rfl)
        case hf_117 => kernel_rfl
        case hr_117 => kernel_rfl
        case hQ_117 => exact fun _ _ _ h => h
        case hw_117 => rfl
        case hy_117 => ((intro w hSw; (try dsimp only at hSw); go_simp); all_goals (with_reducible rfl))
        try simp only [Act.put, List.setIfInBounds_toArray, List.set_cons_zero, List.set_cons_succ]
        refine wpAnyH_take (i := 15) (oi := ?oi_118) (v := ?v_118) ?hi_118 (by kernel_rfl) ?hf_118 ?hr_118 ?hQ_118 (Or.inl ⟨?hw_118, ?hy_118⟩) (by assumption) ?rest_118
        case hi_118 => ((simp only [List.getElem?_toArray, List.getElem?_cons_succ, List.getElem?_cons_zero]); rfl)
        case hf_118 => kernel_rfl
        case hr_118 => kernel_rfl
        case hQ_118 => exact fun _ _ _ h => h
        case hw_118 => rfl
        case hy_118 => ((intro w hSw; (try dsimp only at hSw); go_simp); all_goals (with_reducible rfl))
        try simp only [Act.put, List.setIfInBounds_toArray, List.set_cons_zero, List.set_cons_succ]
        refine wpAnyH_take (i := 16) (oi := ?oi_119) (v := ?v_119) ?hi_119 (by kernel_rfl) ?hf_119 ?hr_119 ?hQ_119 (Or.inl ⟨?hw_119, ?hy_119⟩) (by assumption) ?rest_119
        case hi_119 => ((simp only [List.getElem?_toArray, List.getElem?_cons_succ, List.getElem?_cons_zero]); rfl)
        case hf_119 => kernel_rfl
        case hr_119 => kernel_rfl
        case hQ_119 => exact fun _ _ _ h => h
        case hw_119 => rfl
        case hy_119 => ((intro w hSw; (try dsimp only at hSw); go_simp); all_goals (with_reducible rfl))
        try simp only [Act.put, List.setIfInBounds_toArray, List.set_cons_zero, List.set_cons_succ]
        refine wpAnyH_done (by kernel_rfl) ?_ _
        go_wp2
        go_ret
        exact ⟨rfl, belStep hw (by repeat (first | assumption | exact Below.refl _ _ | refine belAlloc ?_ _ | refine belDrew ?_ | refine belStep ?_ (by assumption)))⟩
      · go_upto_region 13 with fail
        refine wp_region_held_drew (S := (fun w' => True)) (by kernel_rfl) (by exact trivial) (fun hHeld => ?_)
        refine wpAnyH_take (i := 0) (oi := ?oi_120) (v := ?v_120) ?hi_120 (by kernel_rfl) ?hf_120 ?hr_120 ?hQ_120 (Or.inl ⟨?hw_120, ?hy_120⟩) (by assumption) ?rest_120
        case hi_120 => ((simp only [List.getElem?_toArray, List.getElem?_cons_succ, List.getElem?_cons_zero]); rfl)
        case hf_120 => kernel_rfl
        case hr_120 => kernel_rfl
        case hQ_120 => exact fun _ _ _ h => h
        case hw_120 => rfl
        case hy_120 => ((intro w hSw; (try dsimp only at hSw); go_simp); all_goals (with_reducible rfl))
        try simp only [Act.put, List.setIfInBounds_toArray, List.set_cons_zero, List.set_cons_succ]
        refine wpAnyH_take (i := 1) (oi := ?oi_121) (v := ?v_121) ?hi_121 (by kernel_rfl) ?hf_121 ?hr_121 ?hQ_121 (Or.inl ⟨?hw_121, ?hy_121⟩) (by assumption) ?rest_121
        case hi_121 => ((simp only [List.getElem?_toArray, List.getElem?_cons_succ, List.getElem?_cons_zero]); rfl)
        case hf_121 => kernel_rfl
        case hr_121 => kernel_rfl
        case hQ_121 => exact fun _ _ _ h => h
        case hw_121 => rfl
        case hy_121 => ((intro w hSw; (try dsimp only at hSw); go_simp); all_goals (with_reducible rfl))
        try simp only [Act.put, List.setIfInBounds_toArray, List.set_cons_zero, List.set_cons_succ]
        refine wpAnyH_take (i := 2) (oi := ?oi_122) (v := ?v_122) ?hi_122 (by kernel_rfl) ?hf_122 ?hr_122 ?hQ_122 (Or.inl ⟨?hw_122, ?hy_122⟩) (by assumption) ?rest_122
        case hi_122 => ((simp only [List.getElem?_toArray, List.getElem?_cons_succ, List.getElem?_cons_zero]); rfl)
        case hf_122 => kernel_rfl
        case hr_122 => kernel_rfl
        case hQ_122 => exact fun _ _ _ h => h
        case hw_122 => rfl
        case hy_122 => ((intro w hSw; (try dsimp only at hSw); go_simp); all_goals (with_reducible rfl))
        try simp only [Act.put, List.setIfInBounds_toArray, List.set_cons_zero, List.set_cons_succ]
        refine wpAnyH_take (i := 3) (oi := ?oi_123) (v := ?v_123) ?hi_123 (by kernel_rfl) ?hf_123 ?hr_123 ?hQ_123 (Or.inl ⟨?hw_123, ?hy_123⟩) (by assumption) ?rest_123
        case hi_123 => ((simp only [List.getElem?_toArray, List.getElem?_cons_succ, List.getElem?_cons_zero]); rfl)
        case hf_123 => kernel_rfl
        case hr_123 => kernel_rfl
        case hQ_123 => exact fun _ _ _ h => h
        case hw_123 => rfl
        case hy_123 => ((intro w hSw; (try dsimp only at hSw); go_simp); all_goals (with_reducible rfl))
        try simp only [Act.put, List.setIfInBounds_toArray, List.set_cons_zero, List.set_cons_succ]
        refine wpAnyH_take (i := 7) (oi := ?oi_124) (v := ?v_124) ?hi_124 (by kernel_rfl) ?hf_124 ?hr_124 ?hQ_124 (Or.inl ⟨?hw_124, ?hy_124⟩) (by assumption) ?rest_124
        case hi_124 => ((simp only [List.getElem?_toArray, List.getElem?_cons_succ, List.getElem?_cons_zero]); rfl)
        case hf_124 => kernel_rfl
        case hr_124 => kernel_rfl
        case hQ_124 => exact fun _ _ _ h => h
        case hw_124 => rfl
        case hy_124 => ((intro w hSw; (try dsimp only at hSw); go_simp); all_goals (with_reducible rfl))
        try simp only [Act.put, List.setIfInBounds_toArray, List.set_cons_zero, List.set_cons_succ]
        refine wpAnyH_take (i := 8) (oi := ?oi_125) (v := ?v_125) ?hi_125 (by kernel_rfl) ?hf_125 ?hr_125 ?hQ_125 (Or.inl ⟨?hw_125, ?hy_125⟩) (by assumption) ?rest_125
        case hi_125 => ((simp only [List.getElem?_toArray, List.getElem?_cons_succ, List.getElem?_cons_zero]); rfl)
        case hf_125 => kernel_rfl
        case hr_125 => kernel_rfl
        case hQ_125 => exact fun _ _ _ h => h
        case hw_125 => rfl
        case hy_125 => ((intro w hSw; (try dsimp only at hSw); go_simp); all_goals (with_reducible rfl))
        try simp only [Act.put, List.setIfInBounds_toArray, List.set_cons_zero, List.set_cons_succ]
        refine wpAnyH_take (i := 9) (oi := ?oi_126) (v := ?v_126) ?hi_126 (by kernel_rfl) ?hf_126 ?hr_126 ?hQ_126 (Or.inl ⟨?hw_126, ?hy_126⟩) (by assumption) ?rest_126
        case hi_126 => ((simp only [List.getElem?_toArray, List.getElem?_cons_succ, List.getElem?_cons_zero]); rfl)
        case hf_126 => kernel_rfl
        case hr_126 => kernel_rfl
        case hQ_126 => exact fun _ _ _ h => h
        case hw_126 => rfl
        case hy_126 => ((intro w hSw; (try dsimp only at hSw); go_simp); all_goals (with_reducible rfl))
        try simp only [Act.put, List.setIfInBounds_toArray, List.set_cons_zero, List.set_cons_succ]
        refine wpAnyH_ready (rs := [4]) (by kernel_rfl) (by simp) ?_
        refine AllReadyH.cons (o := ?o1_127) ?hi_127 (fun K hK => ?rest_127) AllReadyH.nil
        case hi_127 => ((simp only [List.getElem?_toArray, List.getElem?_cons_succ, List.getElem?_cons_zero]); rfl)
        go_simp
        refine hK.out _ _ (by exact trivial) (fun hHeld => ?_)
        clear hK K
        try simp only [Act.put, List.setIfInBounds_toArray, List.set_cons_zero, List.set_cons_succ]
        refine wpAnyH_ready (rs := [5]) (by kernel_rfl) (by simp) ?_
        refine AllReadyH.cons (o := ?o1_128) ?hi_128 (fun K hK => ?rest_128) AllReadyH.nil
        case hi_128 => ((simp only [List.getElem?_toArray, List.getElem?_cons_succ, List.getElem?_cons_zero]); rfl)
        go_simp
        refine hK.out _ _ (by exact trivial) (fun hHeld => ?_)
        clear hK K
        try simp only [Act.put, List.setIfInBounds_toArray, List.set_cons_zero, List.set_cons_succ]
        refine wpAnyH_take (i := 6) (oi := ?oi_129) (v := ?v_129) ?hi_129 (by kernel_rfl) ?hf_129 ?hr_129 ?hQ_129 (Or.inl ⟨?hw_129, ?hy_129⟩) (by assumption) ?rest_129
        case hi_129 => ((simp only [List.getElem?_toArray, List.getElem?_cons_succ, List.getElem?_cons_zero]); rfl)
        case hf_129 => kernel_rfl
        case hr_129 => kernel_rfl
        case hQ_129 => exact fun _ _ _ h => h
        case hw_129 => rfl
        case hy_129 => ((intro w hSw; (try dsimp only at hSw); go_simp); all_goals (with_reducible rfl))
        try simp only [Act.put, List.setIfInBounds_toArray, List.set_cons_zero, List.set_cons_succ]
        refine wpAnyH_take (i := 10) (oi := ?oi_130) (v := ?v_130) ?hi_130 (by kernel_rfl) ?hf_130 ?hr_130 ?hQ_130 (Or.inl ⟨?hw_130, ?hy_130⟩) (by assumption) ?rest_130
        case hi_130 => ((simp only [List.getElem?_toArray, List.getElem?_cons_succ, List.getElem?_cons_zero]); rfl)
        case hf_130 => kernel_rfl
        case hr_130 => kernel_rfl
        case hQ_130 => exact fun _ _ _ h => h
        case hw_130 => rfl
        case hy_130 => ((intro w hSw; (try dsimp only at hSw); go_simp); all_goals (with_reducible rfl))
        try simp only [Act.put, List.setIfInBounds_toArray, List.set_cons_zero, List.set_cons_succ]
        refine wpAnyH_ready (rs := [11]) (by kernel_rfl) (by simp) ?_
        refine AllReadyH.cons (o := ?o1_131) ?hi_131 (fun K hK => ?rest_131) AllReadyH.nil
        case hi_131 => ((simp only [List.getElem?_toArray, List.getElem?_cons_succ, List.getElem?_cons_zero]); rfl)
        go_simp
        ((go_at_call 13; (with_reducible refine (HR.out _).mono ?_); rintro e w6 ⟨rfl, hb6⟩))
        try go_simp
        refine hK.out _ _ (by exact trivial) (fun hHeld => ?_)
        clear hK K
        try simp only [Act.put, List.setIfInBounds_toArray, List.set_cons_zero, List.set_cons_succ]
        refine wpAnyH_take (i := 12) (oi := ?oi_132) (v := ?v_132) ?hi_132 (by kernel_rfl) ?hf_132 ?hr_132 ?hQ_132 (Or.inl ⟨?hw_132, ?hy_132⟩) (by assumption) ?rest_132
        case hi_132 => ((simp only [List.getElem?_toArray, List.getElem?_cons_succ, List.getElem?_cons_zero]); rfl)
        case hf_132 => kernel_rfl
        case hr_132 => kernel_rfl
        case hQ_132 => exact fun _ _ _ h => h
        case hw_132 => rfl
        case hy_132 => ((intro w hSw; (try dsimp only at hSw); go_simp); all_goals (with_reducible rfl))
        try simp only [Act.put, List.setIfInBounds_toArray, List.set_cons_zero, List.set_cons_succ]
        refine wpAnyH_take (i := 13) (oi := ?oi_133) (v := ?v_133) ?hi_133 (by kernel_rfl) ?hf_133 ?hr_133 ?hQ_133 (Or.inl ⟨?hw_133, ?hy_133⟩) (by assumption) ?rest_133
        case hi_133 => ((simp only [List.getElem?_toArray, List.getElem?_cons_succ, List.getElem?_cons_zero]); rfl)
        case hf_133 => kernel_rfl
        case hr_133 => kernel_rfl
        case hQ_133 => exact fun _ _ _ h => h
        case hw_133 => rfl
        case hy_133 => ((intro w hSw; (try dsimp only at hSw); go_simp); all_goals (with_reducible rfl))
        try simp only [Act.put, List.setIfInBounds_toArray, List.set_cons_zero, List.set_cons_succ]
        refine wpAnyH_take (i := 14) (oi := ?oi_134) (v := ?v_134) ?hi_134 (by kernel_rfl) ?hf_134 ?hr_134 ?hQ_134 (Or.inl ⟨?hw_134, ?hy_134⟩) (by assumption) ?rest_134
        case hi_134 => ((simp only [List.getElem?_toArray, List.getElem?_cons_succ, List.getElem?_cons_zero]); rfl)
        case hf_134 => kernel_rfl
        case hr_134 => kernel_rfl
        case hQ_134 => exact fun _ _ _ h => h
        case hw_134 => rfl
        case hy_134 => ((intro w hSw; (try dsimp only at hSw); go_simp); all_goals (with_reducible rfl))
        try simp only [Act.put, List.setIfInBounds_toArray, List.set_cons_zero, List.set_cons_succ]
        refine wpAnyH_take (i := 15) (oi := ?oi_135) (v := ?v_135) ?hi_135 (by kernel_rfl) ?hf_135 ?hr_135 ?hQ_135 (Or.inl ⟨?hw_135, ?hy_135⟩) (by assumption) ?rest_135
        case hi_135 => ((simp only [List.getElem?_toArray, List.getElem?_cons_succ, List.getElem?_cons_zero]); rfl)
        case hf_135 => kernel_rfl
        case hr_135 => kernel_rfl
        case hQ_135 => exact fun _ _ _ h => h
        case hw_135 => rfl
        case hy_135 => ((intro w hSw; (try dsimp only at hSw); go_simp); all_goals (with_reducible rfl))
        try simp only [Act.put, List.setIfInBounds_toArray, List.set_cons_zero, List.set_cons_succ]
        refine wpAnyH_take (i := 16) (oi := ?oi_136) (v := ?v_136) ?hi_136 (by kernel_rfl) ?hf_136 ?hr_136 ?hQ_136 (Or.inl ⟨?hw_136, ?hy_136⟩) (by assumption) ?rest_136
        case hi_136 => ((simp only [List.getElem?_toArray, List.getElem?_cons_succ, List.getElem?_cons_zero]); rfl)
        case hf_136 => kernel_rfl
        case hr_136 => kernel_rfl
        case hQ_136 => exact fun _ _ _ h => h
        case hw_136 => rfl
        case hy_136 => ((intro w hSw; (try dsimp only at hSw); go_simp); all_goals (with_reducible rfl))
        try simp only [Act.put, List.setIfInBounds_toArray, List.set_cons_zero, List.set_cons_succ]
        refine wpAnyH_done (by kernel_rfl) ?_ _
        go_wp2
        go_ret
        exact ⟨rfl, belStep hw (by repeat (first | assumption | exact Below.refl _ _ | refine belAlloc ?_ _ | refine belDrew ?_ | refine belStep ?_ (by assumption)))⟩

set_option maxRecDepth 100000 in
theorem door_met (os : Os) (args : Array Value) : laidMet Tryd.prog Rows.quantOrderRow.laid ((World.doorLaid Tryd.prog 400 os).forCall (fun _ _ => 0) ⟨#[], args, []⟩).memory :=
  laidMet_of_run' 8 (by kernel_rfl) (by kernel_rfl)
set_option maxRecDepth 100000 in
theorem lifted (os : Os) (started : os.Started) (H : Type) (enc : TypeId × Value → H) :
    ReturnsInHanded {} Tryd.checked os 7 .any (fun w args => (Rows.quantOrderSpec.pre enc Tryd.prog Tryd.f7 [] false w args ∧ laidMetH Tryd.prog Rows.quantOrderRow.laid w) ∧ sizedMet enc Tryd.prog Tryd.f7 (OpenSpec.ofChange Rows.quantOrderSpec) false w args) (Rows.quantOrderSpec.post enc Tryd.prog Tryd.f7 false true false false) := by
  refine returnsInHanded_of_change_and (C := Tryd.checked) (X := fun w _ => laidMetH Tryd.prog Rows.quantOrderRow.laid w) (fun _ _ _ hh h => h.of_heap hh) own started (by kernel_rfl) Tryd.func7
    (ChangeSpec.witness_shaped (enc := enc) (C := Tryd.checked) (os := os) (X := fun w _ => laidMetH Tryd.prog Rows.quantOrderRow.laid w) false (World.doorLaid Tryd.prog 400 os) #[.int .u32 0, .int .u8 0, .int .u8 0, .int .u8 0, .int .u8 0, .int .u8 0] 8 rfl (World.shaped_of_RefB (by kernel_rfl) (by kernel_rfl)) (by kernel_rfl) (by kernel_rfl) (by kernel_rfl) (by rw [MakeChecks.laidMetH_plain _ _ _ (by kernel_rfl)]; exact door_met os _)) ?_
  intro W base args ds gs before hval0 hW _ _ hL _
  rw [MakeChecks.laidMetH_plain _ _ _ (by kernel_rfl)] at hL
  have ht : Tab W := tab_of hL
  clear hL
  have hval : ∀ (j : Nat) t v, Tryd.f7.params[j]? = some t → args[j]? = some v → Value.okWide Tryd.prog W .any base t v := hval0
  have hW' := hW
  obtain ⟨p, q, hA0, hV, rfl, hfz, hnd⟩ := hW
  have hA : DataW.TrodAll enc Tryd.prog W 0 (fun _ => true) true Tryd.f7.params.toList args.toList ds p := hA0
  rw [Tryd.params7] at hA hval
  obtain ⟨v0, vs0, d0, ds0, p0, q0, hargs, rfl, rfl, h0, r0⟩ := trodAll_cons hA
  obtain ⟨v1, vs1, d1, ds1, p1, q1, rfl, rfl, rfl, h1, r1⟩ := trodAll_cons r0
  obtain ⟨v2, vs2, d2, ds2, p2, q2, rfl, rfl, rfl, h2, r2⟩ := trodAll_cons r1
  obtain ⟨v3, vs3, d3, ds3, p3, q3, rfl, rfl, rfl, h3, r3⟩ := trodAll_cons r2
  obtain ⟨v4, vs4, d4, ds4, p4, q4, rfl, rfl, rfl, h4, r4⟩ := trodAll_cons r3
  obtain ⟨v5, vs5, d5, ds5, p5, q5, rfl, rfl, rfl, h5, r5⟩ := trodAll_cons r4
  obtain ⟨rfl, rfl, rfl⟩ := trodAll_nil r5
  obtain rfl : args = #[v0, v1, v2, v3, v4, v5] := by cases args; simp_all
  obtain ⟨rfl, rfl⟩ := trodVars_none hV
  have k0 := h0
  have lt0 : ∀ x ∈ p0, x.block < W.heap.size := by obtain ⟨m, hm⟩ := k0; exact DataW.trod_lt m _ _ _ hm
  have o0 : Value.okWide Tryd.prog W .any base 32 v0 := hval 0 32 v0 rfl rfl
  obtain ⟨a0, rfl, rfl, rfl, w0⟩ := open_int Tryd.underlying32 o0 h0
  have k1 := h1
  have lt1 : ∀ x ∈ p1, x.block < W.heap.size := by obtain ⟨m, hm⟩ := k1; exact DataW.trod_lt m _ _ _ hm
  have o1 : Value.okWide Tryd.prog W .any base 5 v1 := hval 1 5 v1 rfl rfl
  obtain ⟨a1, rfl, rfl, rfl, w1⟩ := open_int Tryd.underlying5 o1 h1
  have k2 := h2
  have lt2 : ∀ x ∈ p2, x.block < W.heap.size := by obtain ⟨m, hm⟩ := k2; exact DataW.trod_lt m _ _ _ hm
  have o2 : Value.okWide Tryd.prog W .any base 5 v2 := hval 2 5 v2 rfl rfl
  obtain ⟨a2, rfl, rfl, rfl, w2⟩ := open_int Tryd.underlying5 o2 h2
  have k3 := h3
  have lt3 : ∀ x ∈ p3, x.block < W.heap.size := by obtain ⟨m, hm⟩ := k3; exact DataW.trod_lt m _ _ _ hm
  have o3 : Value.okWide Tryd.prog W .any base 5 v3 := hval 3 5 v3 rfl rfl
  obtain ⟨a3, rfl, rfl, rfl, w3⟩ := open_int Tryd.underlying5 o3 h3
  have k4 := h4
  have lt4 : ∀ x ∈ p4, x.block < W.heap.size := by obtain ⟨m, hm⟩ := k4; exact DataW.trod_lt m _ _ _ hm
  have o4 : Value.okWide Tryd.prog W .any base 5 v4 := hval 4 5 v4 rfl rfl
  obtain ⟨a4, rfl, rfl, rfl, w4⟩ := open_int Tryd.underlying5 o4 h4
  have k5 := h5
  have lt5 : ∀ x ∈ p5, x.block < W.heap.size := by obtain ⟨m, hm⟩ := k5; exact DataW.trod_lt m _ _ _ hm
  have o5 : Value.okWide Tryd.prog W .any base 5 v5 := hval 5 5 v5 rfl rfl
  obtain ⟨a5, rfl, rfl, rfl, w5⟩ := open_int Tryd.underlying5 o5 h5
  clear hA0 hval0
  refine (walk a0 a1 a2 a3 a4 a5 W ht (in32_of_wf w0) (in8_of_wf w1) (in8_of_wf w2) (in8_of_wf w3) (in8_of_wf w4) (in8_of_wf w5)).mono fun e W' ⟨he, bel⟩ => ?_
  subst he
  exact ⟨_, rfl, _, _, _, [], _, [], hW', trodAll_mk1 (shut_bool Tryd.underlying4 _), (trodAll_cons_mk (Below.trod laidOut (by kernel_rfl) (of_decide_eq_true (by kernel_rfl)) k0 bel lt0) (trodAll_cons_mk (Below.trod laidOut (by kernel_rfl) (of_decide_eq_true (by kernel_rfl)) k1 bel lt1) (trodAll_cons_mk (Below.trod laidOut (by kernel_rfl) (of_decide_eq_true (by kernel_rfl)) k2 bel lt2) (trodAll_cons_mk (Below.trod laidOut (by kernel_rfl) (of_decide_eq_true (by kernel_rfl)) k3 bel lt3) (trodAll_cons_mk (Below.trod laidOut (by kernel_rfl) (of_decide_eq_true (by kernel_rfl)) k4 bel lt4) (trodAll_cons_mk (Below.trod laidOut (by kernel_rfl) (of_decide_eq_true (by kernel_rfl)) k5 bel lt5) trodAll_mk0)))))), rfl, bel.frame _, fun h => by cases h⟩

theorem over : Rows.quantOrderRow.holds Tryd.pinned (OpenSpec.ofChange Rows.quantOrderSpec) :=
  OpenClaim.holds_of_wide 7 Tryd.f7 rfl rfl rfl rfl rfl rfl rfl ⟨rfl, rfl, rfl, rfl, rfl⟩ rfl rfl rfl rfl rfl (by kernel_rfl) Tryd.func7 (by kernel_rfl)
    (of_decide_eq_true (by kernel_rfl)) (by unfold Func.isWrapper; first | (rw [if_pos (by decide +kernel)]; kernel_rfl) | (rw [if_neg (by decide +kernel)]; exact ⟨rfl, rfl⟩))
    (fun os started H enc _ => lifted os started H enc)

/-- The statement. -/
theorem proved : Rows.QuantOrderCardSaid :=
  Claim7.holds_tied_plain_at .later [] Rows.quantOrderCard.laidKinds true Rows.quantOrderCard.stood.harness true
    over (fun _ h => by cases h) (by kernel_rfl) (fun _ h => by cases h) quantOrder_row_tie rfl ⟨rfl, rfl⟩ (by kernel_rfl) rfl
    (fun f fn hf hfn => by
      obtain rfl : f = 7 := Option.some.inj ((show Tryd.prog.funcNamed Rows.quantOrderRow.func = some 7 by kernel_rfl).symm.trans hf) |>.symm
      obtain rfl : fn = Tryd.f7 := (Option.some.inj (Tryd.func7.symm.trans hfn)).symm
      exact ⟨by kernel_rfl, fun j t ht => by
        rw [Tryd.params7] at ht
        have hm : t ∈ [32, 5, 5, 5, 5, 5] := by simpa using Array.mem_of_getElem? ht
        have hall : ([32, 5, 5, 5, 5, 5].all fun u => !Tryd.prog.wantsStandIn u) = true := by kernel_rfl
        exact (show Tryd.prog.wantsStandIn t = false by simpa using List.all_eq_true.1 hall t hm)⟩)
    (by kernel_rfl)
#print axioms proved

end Go.Proofs.YtiaemcejgjobiaaDoor.quantOrder
