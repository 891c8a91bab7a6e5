
/- SampleTurned holds for all its arguments. No conditions. -/
import Derived.Test.YtcgpmihjodolmaaAwake17
import Derived.Test.YtcgpmihjodolmaaKeepC
import Derived.Test.YtcgpmihjodolmaaLast
namespace Go.Proofs.Ytcgpmihjodolmaa.sampleTurned
open Go.ChangeShapes Go.WideShapes Go.ChangeAt Go.RowKit
open Go.ChangeMaps (open_string shut_string)
set_option linter.unusedVariables false
set_option linter.unusedSimpArgs false
theorem info_usage : (Try.prog.info? 47).map (fun i => (i.zero, i.size, i.bytes)) = some (some (.agg #[.string ⟨#[]⟩, .float .f64 0, .float .f64 0, .float .f64 0]), 4, 40) := by kernel_rfl
theorem distU_tw {L : List UsgV} : twiceB L = false ↔ DistU L := by
  refine ⟨dist_of, fun hd => ?_⟩
  rw [Bool.eq_false_iff]
  intro h
  unfold twiceB at h
  obtain ⟨i, hi, ht⟩ := any_range.1 h
  unfold twinAt hasId at ht
  obtain ⟨u, hu, he⟩ := List.any_eq_true.1 ht
  obtain ⟨j, hj⟩ := List.getElem?_of_mem hu
  have hji : j < i := by
    rcases Nat.lt_or_ge j i with q | q
    · exact q
    · rw [List.getElem?_eq_none (by rw [List.length_take]; omega)] at hj; cases hj
  rw [List.getElem?_take_of_lt hji] at hj
  obtain ⟨hjl, hju⟩ := List.getElem?_eq_some_iff.1 hj
  have hid : idAt L i = L[i].id := by unfold idAt; rw [getD_of (List.getElem?_eq_getElem hi)]
  rw [hid, ← hju] at he
  exact (List.pairwise_iff_getElem.1 hd) j i hjl hi hji (beq_iff_eq.1 he).symm
theorem distU_rev {L : List UsgV} : DistU L.reverse ↔ DistU L := by
  unfold DistU
  rw [List.pairwise_reverse]
  exact ⟨fun h => h.imp (fun q e => q e.symm), fun h => h.imp (fun q e => q e.symm)⟩
theorem right_rev (r : RawV) (L : List UsgV) : rightR r L.reverse = rightR r L := by
  rw [right_eq, right_eq, List.length_reverse, List.all_reverse]
  have e : twiceB L.reverse = twiceB L := by
    cases h : twiceB L with
    | false => exact distU_tw.2 (distU_rev.2 (distU_tw.1 h))
    | true =>
      rw [← Bool.not_eq_false]
      intro q
      have := distU_tw.2 (distU_rev.1 (distU_tw.1 q))
      rw [h] at this; cases this
  rw [e]
theorem right_dup (r : RawV) {M : List UsgV} {x : UsgV} (hx : x ∈ M) : rightR r (M ++ [x]) = false := by
  rw [right_eq]
  have e : twiceB (M ++ [x]) = true := by
    rw [← Bool.not_eq_false]
    intro q
    have hd := distU_tw.1 q
    unfold DistU at hd
    exact (List.pairwise_append.1 hd).2.2 x hx x (by simp) rfl
  rw [e]; simp
theorem read_rev (r : RawV) (L : List UsgV) : readSF r L.reverse = readSF r L := by
  cases h : rightR r L with
  | false => rw [readSF_no h, readSF_no (by rw [right_rev]; exact h)]
  | true =>
    rw [readSF_yes h, readSF_yes (by rw [right_rev]; exact h)]
    have hd : DistU L := by
      rw [right_eq] at h
      simp only [Bool.and_eq_true, Bool.not_eq_true'] at h
      exact distU_tw.1 h.2.1
    unfold readOK
    rw [readL_perm hd (List.reverse_perm L)]
theorem rev_dropU {L : List UsgV} {k : Nat} {x : UsgV} (h : L[k]? = some x) : (L.drop k).reverse = (L.drop (k + 1)).reverse ++ [x] := by
  obtain ⟨hk, rfl⟩ := List.getElem?_eq_some_iff.1 h
  rw [List.drop_eq_getElem_cons hk, List.reverse_cons]
theorem turn_to {n : Nat} {z : Int} (h : 0 ≤ z) (hn : 0 < n) : ∃ k : Nat, Int.tmod z (n : Int) = (k : Int) ∧ z % (n : Int) = (k : Int) ∧ k < n := by
  have h1 : Int.tmod z (n : Int) = z % (n : Int) := Int.tmod_eq_emod_of_nonneg h
  have h2 := Int.emod_nonneg z (show (n : Int) ≠ 0 by omega)
  have h3 := Int.emod_lt_of_pos z (show (0 : Int) < (n : Int) by omega)
  exact ⟨(z % (n : Int)).toNat, by rw [h1]; omega, by omega, by omega⟩
set_option maxRecDepth 100000 in
set_option maxHeartbeats 16000000 in
theorem walk (r : RawV) (a : Option Addr) (len cap : Nat) (L : List UsgV) (at0 : Int) (w : World) (hr : r.ok) (hl : L.length = len) (hok : ∀ x ∈ L, x.ok) (hR : Row w a len cap 4 (L.flatMap UsgV.cells)) (hat : 0 ≤ at0 ∧ at0 ≤ 255) :
    Calls Try.prog 8 #[.agg #[.int .i64 r.t, .float .f64 r.x, .float .f64 r.y, .float .f64 r.z, .slice a len cap], .int .u8 at0] w fun e w' => e = .returned (.bool true) ∧ Below w.heap.size w w' := by
  have hw : Below w.heap.size w w := Below.refl _ _
  have hbel := hw
  have hbd_a : len ≤ cap ∧ cap ≤ 9223372036854775807 := by obtain ⟨_, h1, h2, _⟩ := hR; unfold maxLen at h2; exact ⟨h1, h2⟩
  obtain ⟨hbd1_a, hbd2_a⟩ := hbd_a
  have HR := Lib.hid hR
  have HOK := Lib.hid hok
  have HRO := Lib.hid hr
  clear hR hok hr
  subst hl
  have CFW := Lib.hid (fun u (hu : Below w.heap.size w u) => sref_Few r a L.length cap L u rfl (HR.out.later hu))
  obtain ⟨hat0, hat1⟩ := hat
  obtain ⟨⟨S, er⟩, hSF⟩ : ∃ p, readSF r L = p := ⟨_, rfl⟩
  have HSF := Lib.hid hSF
  clear hSF
  go_enter Try.func8, Try.ntmps8
  go_upto_region 1 with fail
  have rw0 : (w.alloc (.cells #[.int .i64 r.t, .float .f64 r.x, .float .f64 r.y, .float .f64 r.z, .slice a L.length cap] 26)).cell? ⟨w.heap.size, 0, none⟩ = some (.int .i64 r.t) := by first | (simp; done) | (rw [World.cell?_alloc_at _ _ _ _ (by simp)]; rfl) | (rw [World.cell?_alloc_past _ _ _ (by simp <;> omega), World.cell?_alloc_at _ _ _ _ (by simp)]; rfl) | (rw [World.cell?_alloc_past _ _ _ (by simp <;> omega), World.cell?_alloc_past _ _ _ (by simp <;> omega), World.cell?_alloc_at _ _ _ _ (by simp)]; rfl)
  have rw1 : (w.alloc (.cells #[.int .i64 r.t, .float .f64 r.x, .float .f64 r.y, .float .f64 r.z, .slice a L.length cap] 26)).cell? ⟨w.heap.size, 1, none⟩ = some (.float .f64 r.x) := by first | (simp; done) | (rw [World.cell?_alloc_at _ _ _ _ (by simp)]; rfl) | (rw [World.cell?_alloc_past _ _ _ (by simp <;> omega), World.cell?_alloc_at _ _ _ _ (by simp)]; rfl) | (rw [World.cell?_alloc_past _ _ _ (by simp <;> omega), World.cell?_alloc_past _ _ _ (by simp <;> omega), World.cell?_alloc_at _ _ _ _ (by simp)]; rfl)
  have rw2 : (w.alloc (.cells #[.int .i64 r.t, .float .f64 r.x, .float .f64 r.y, .float .f64 r.z, .slice a L.length cap] 26)).cell? ⟨w.heap.size, 2, none⟩ = some (.float .f64 r.y) := by first | (simp; done) | (rw [World.cell?_alloc_at _ _ _ _ (by simp)]; rfl) | (rw [World.cell?_alloc_past _ _ _ (by simp <;> omega), World.cell?_alloc_at _ _ _ _ (by simp)]; rfl) | (rw [World.cell?_alloc_past _ _ _ (by simp <;> omega), World.cell?_alloc_past _ _ _ (by simp <;> omega), World.cell?_alloc_at _ _ _ _ (by simp)]; rfl)
  have rw3 : (w.alloc (.cells #[.int .i64 r.t, .float .f64 r.x, .float .f64 r.y, .float .f64 r.z, .slice a L.length cap] 26)).cell? ⟨w.heap.size, 3, none⟩ = some (.float .f64 r.z) := by first | (simp; done) | (rw [World.cell?_alloc_at _ _ _ _ (by simp)]; rfl) | (rw [World.cell?_alloc_past _ _ _ (by simp <;> omega), World.cell?_alloc_at _ _ _ _ (by simp)]; rfl) | (rw [World.cell?_alloc_past _ _ _ (by simp <;> omega), World.cell?_alloc_past _ _ _ (by simp <;> omega), World.cell?_alloc_at _ _ _ _ (by simp)]; rfl)
  have rw4 : (w.alloc (.cells #[.int .i64 r.t, .float .f64 r.x, .float .f64 r.y, .float .f64 r.z, .slice a L.length cap] 26)).cell? ⟨w.heap.size, 4, none⟩ = some (.slice a L.length cap) := by first | (simp; done) | (rw [World.cell?_alloc_at _ _ _ _ (by simp)]; rfl) | (rw [World.cell?_alloc_past _ _ _ (by simp <;> omega), World.cell?_alloc_at _ _ _ _ (by simp)]; rfl) | (rw [World.cell?_alloc_past _ _ _ (by simp <;> omega), World.cell?_alloc_past _ _ _ (by simp <;> omega), World.cell?_alloc_at _ _ _ _ (by simp)]; rfl)
  have hb2 := (by repeat (first | exact hbel | refine belAlloc ?_ _ | refine belDrew ?_ | refine belSet ?_ _ _ (by simp)) : Below w.heap.size w (w.alloc (.cells #[.int .i64 r.t, .float .f64 r.x, .float .f64 r.y, .float .f64 r.z, .slice a L.length cap] 26)))
  replace hw := belStep hw hb2
  clear hb2 hbel
  generalize w.alloc (.cells #[.int .i64 r.t, .float .f64 r.x, .float .f64 r.y, .float .f64 r.z, .slice a L.length cap] 26) = W1 at *
  replace rw0 := keep rw0
  replace rw1 := keep rw1
  replace rw2 := keep rw2
  replace rw3 := keep rw3
  replace rw4 := keep rw4
  have hbel : Below W1.heap.size W1 W1 := Below.refl _ _
  skip
  go_upto_region 3 with (first | (go_at_call 18; (with_reducible refine (awake17 _).mono ?_); rintro e w1 ⟨rfl, hb1⟩; replace hbel := belStep hbel hb1; clear hb1) | (go_at_call 19; (with_reducible refine (CFW.out _ (belStep hw hbel)).mono ?_); rintro e u2 ⟨⟨fb, rfl, hq⟩, hb2⟩; replace hbel := belStep hbel hb2; clear hb2; have HFW := Lib.hid hq; clear hq; rcases fb with _ | _))
  · go_ret
    exact ⟨rfl, belStep hw hbel⟩
  have hL140 : L.length ≤ 140 := HFW.out (by trivial)
  clear CFW HFW
  have HRL := Lib.hid (fun u (hu : Below W1.heap.size W1 u) => HR.out.later (belStep hw hu))
  have HW1 := Lib.hid hw
  go_upto_region 4 with fail
  have HOO := Lib.hid (Blk.new u2 [.int .i64 r.t, .float .f64 r.x, .float .f64 r.y, .float .f64 r.z, .slice none 0 0] 26)
  have hbx := belAlloc hbel (.cells #[.int .i64 r.t, .float .f64 r.x, .float .f64 r.y, .float .f64 r.z, .slice none 0 0] 26)
  have hzo := hbel.size
  have hbel := hbx
  clear hbx
  have hMo : u2.heap.size < (u2.alloc (.cells #[.int .i64 r.t, .float .f64 r.x, .float .f64 r.y, .float .f64 r.z, .slice none 0 0] 26)).heap.size := by simp
  generalize u2.alloc (.cells #[.int .i64 r.t, .float .f64 r.x, .float .f64 r.y, .float .f64 r.z, .slice none 0 0] 26) = W2 at *
  generalize u2.heap.size = Mo at *
  have HBE := Lib.hid hbel
  have u0 : IntKind.i64.wrap ((L.length : Int) - 1) = (L.length : Int) - 1 := IntWalk.i64_in _ (by omega)
  go_wp2
  clear hbel u0 hw
  go_loopw [6] (fun i wr => ∃ (m : Nat) (oa : Option Addr) (oc : Nat), m ≤ L.length ∧ i = .int .i64 ((m : Int) - 1) ∧ Hid (Blk wr Mo [.int .i64 r.t, .float .f64 r.x, .float .f64 r.y, .float .f64 r.z, .slice oa (L.drop m).reverse.length oc] 26) ∧ Hid (OwnR wr W2.heap.size 47 4 (.slice oa (L.drop m).reverse.length oc) ((L.drop m).reverse).length (((L.drop m).reverse).flatMap UsgV.cells)) ∧ W2.heap.size ≤ wr.heap.size ∧ Below W1.heap.size W1 wr) (fun i _ => (intOf i + 1).toNat)
  case atStart => exact ⟨L.length, none, 0, Nat.le_refl _, rfl, by rw [List.drop_length]; exact HOO, by rw [List.drop_length]; exact Lib.hid (OwnR.nil _ _ _ _), Nat.le_refl _, HBE.out⟩
  case round =>
    obtain ⟨m, oa, oc, hm, hi, HB, HO, hsw, hbel⟩ := hrel
    clear HBE HOO
    have HBW := Lib.hid hbel
    generalize wr = WR at *
    rcases m with _ | k
    rotate_left 1
    · rw [show ((k + 1 : Nat) : Int) - 1 = (k : Int) by push_cast; omega] at hi
      subst hi
      have hlt : k < L.length := by omega
      obtain ⟨x, hx⟩ : ∃ x, L[k]? = some x := ⟨L[k], List.getElem?_eq_getElem hlt⟩
      obtain ⟨bc, oc, ec, _, hcc⟩ := (HRL.out _ (Below.refl _ _)).elem UsgV.cells_len (by omega) hx
      subst ec
      have c0 := keep (hcc 0 _ rfl)
      have c1 := keep (hcc 1 _ rfl)
      have c2 := keep (hcc 2 _ rfl)
      have c3 := keep (hcc 3 _ rfl)
      rw [Nat.add_zero] at c0
      have HN := Lib.hid (rev_dropU hx)
      have hd : decide ((0 : Int) ≤ (k : Int)) = true := decide_eq_true (by omega)
      have hk0 : (0 : Int) ≤ (k : Int) := by omega
      have hki : (k : Int) < (L.length : Int) := by omega
      have u1 : IntKind.i64.wrap ((k : Int) - 1) = (k : Int) - 1 := IntWalk.i64_in _ (by omega)
      have hNl : (L.drop (k + 1)).reverse.length ≤ 140 := by rw [List.length_reverse, List.length_drop]; omega
      obtain ⟨N, hN⟩ : ∃ N, (L.drop (k + 1)).reverse = N := ⟨_, rfl⟩
      rw [hN] at HB HO HN hNl
      clear hx hcc hN
      have o4 := keep (HB.out.cell (j := 4) rfl)
      go_upto_region 7 with fail
      clear hbel
      skip
      replace c0 := keepOnP c0 HBW.out
      replace c1 := keepOnP c1 HBW.out
      replace c2 := keepOnP c2 HBW.out
      replace c3 := keepOnP c3 HBW.out
      replace rw0 := keepOnP rw0 HBW.out
      replace rw1 := keepOnP rw1 HBW.out
      replace rw2 := keepOnP rw2 HBW.out
      replace rw3 := keepOnP rw3 HBW.out
      replace rw4 := keepOnP rw4 HBW.out
      have hbel : Below WR.heap.size WR WR := Below.refl _ _
      refine wp_region_upto (S := fun u => Below WR.heap.size WR u) [8, 9, 10] (by kernel_rfl) (by exact (show Below WR.heap.size WR _ by repeat (first | assumption | exact Below.refl _ _ | refine belDrew ?_ | refine belAlloc ?_ _ | refine belStep ?_ (by assumption)))) (fun hHeld => ?_)
      refine UpTo.take (i := 0) (oi := ?oi_u1) (v := ?v_u1) ?hi_u1 (by kernel_rfl) ?hf_u1 ?hr_u1 (by kernel_rfl) ?hQ_u1 (Or.inl ⟨?hw_u1, ?hy_u1⟩) (by assumption) ?rest_u1
      case hi_u1 => ((simp only [List.getElem?_toArray, List.getElem?_cons_succ, List.getElem?_cons_zero]); rfl)
      case hf_u1 => kernel_rfl
      case hr_u1 => kernel_rfl
      case hQ_u1 => exact fun _ _ _ h => h
      case hw_u1 => rfl
      case hy_u1 => ((intro w hSw; (try dsimp only at hSw); go_simp); all_goals (with_reducible rfl))
      try simp only [Act.put, List.setIfInBounds_toArray, List.set_cons_zero, List.set_cons_succ]
      refine UpTo.take (i := 1) (oi := ?oi_u2) (v := ?v_u2) ?hi_u2 (by kernel_rfl) ?hf_u2 ?hr_u2 (by kernel_rfl) ?hQ_u2 (Or.inl ⟨?hw_u2, ?hy_u2⟩) (by assumption) ?rest_u2
      case hi_u2 => ((simp only [List.getElem?_toArray, List.getElem?_cons_succ, List.getElem?_cons_zero]); rfl)
      case hf_u2 => kernel_rfl
      case hr_u2 => kernel_rfl
      case hQ_u2 => exact fun _ _ _ h => h
      case hw_u2 => rfl
      case hy_u2 => ((intro w hSw; (try dsimp only at hSw); go_simp); all_goals (with_reducible rfl))
      try simp only [Act.put, List.setIfInBounds_toArray, List.set_cons_zero, List.set_cons_succ]
      refine UpTo.take (i := 2) (oi := ?oi_u3) (v := ?v_u3) ?hi_u3 (by kernel_rfl) ?hf_u3 ?hr_u3 (by kernel_rfl) ?hQ_u3 (Or.inl ⟨?hw_u3, ?hy_u3⟩) (by assumption) ?rest_u3
      case hi_u3 => ((simp only [List.getElem?_toArray, List.getElem?_cons_succ, List.getElem?_cons_zero]); rfl)
      case hf_u3 => kernel_rfl
      case hr_u3 => kernel_rfl
      case hQ_u3 => exact fun _ _ _ h => h
      case hw_u3 => rfl
      case hy_u3 => ((intro w hSw; (try dsimp only at hSw); go_simp); all_goals (with_reducible rfl))
      try simp only [Act.put, List.setIfInBounds_toArray, List.set_cons_zero, List.set_cons_succ]
      refine UpTo.take (i := 3) (oi := ?oi_u4) (v := ?v_u4) ?hi_u4 (by kernel_rfl) ?hf_u4 ?hr_u4 (by kernel_rfl) ?hQ_u4 (Or.inl ⟨?hw_u4, ?hy_u4⟩) (by assumption) ?rest_u4
      case hi_u4 => ((simp only [List.getElem?_toArray, List.getElem?_cons_succ, List.getElem?_cons_zero]); rfl)
      case hf_u4 => kernel_rfl
      case hr_u4 => kernel_rfl
      case hQ_u4 => exact fun _ _ _ h => h
      case hw_u4 => rfl
      case hy_u4 => ((intro w hSw; (try dsimp only at hSw); go_simp); all_goals (with_reducible rfl))
      try simp only [Act.put, List.setIfInBounds_toArray, List.set_cons_zero, List.set_cons_succ]
      refine UpTo.take (i := 4) (oi := ?oi_u5) (v := ?v_u5) ?hi_u5 (by kernel_rfl) ?hf_u5 ?hr_u5 (by kernel_rfl) ?hQ_u5 (Or.inl ⟨?hw_u5, ?hy_u5⟩) (by assumption) ?rest_u5
      case hi_u5 => ((simp only [List.getElem?_toArray, List.getElem?_cons_succ, List.getElem?_cons_zero]); rfl)
      case hf_u5 => kernel_rfl
      case hr_u5 => kernel_rfl
      case hQ_u5 => exact fun _ _ _ h => h
      case hw_u5 => rfl
      case hy_u5 => ((intro w hSw; (try dsimp only at hSw); go_simp); all_goals (with_reducible rfl))
      try simp only [Act.put, List.setIfInBounds_toArray, List.set_cons_zero, List.set_cons_succ]
      refine UpTo.take (i := 5) (oi := ?oi_u6) (v := ?v_u6) ?hi_u6 (by kernel_rfl) ?hf_u6 ?hr_u6 (by kernel_rfl) ?hQ_u6 (Or.inl ⟨?hw_u6, ?hy_u6⟩) (by assumption) ?rest_u6
      case hi_u6 => ((simp only [List.getElem?_toArray, List.getElem?_cons_succ, List.getElem?_cons_zero]); rfl)
      case hf_u6 => kernel_rfl
      case hr_u6 => kernel_rfl
      case hQ_u6 => exact fun _ _ _ h => h
      case hw_u6 => rfl
      case hy_u6 => ((intro w hSw; (try dsimp only at hSw); go_simp); all_goals (with_reducible rfl))
      try simp only [Act.put, List.setIfInBounds_toArray, List.set_cons_zero, List.set_cons_succ]
      refine UpTo.take (i := 6) (oi := ?oi_u7) (v := ?v_u7) ?hi_u7 (by kernel_rfl) ?hf_u7 ?hr_u7 (by kernel_rfl) ?hQ_u7 (Or.inl ⟨?hw_u7, ?hy_u7⟩) (by assumption) ?rest_u7
      case hi_u7 => ((simp only [List.getElem?_toArray, List.getElem?_cons_succ, List.getElem?_cons_zero]); rfl)
      case hf_u7 => kernel_rfl
      case hr_u7 => kernel_rfl
      case hQ_u7 => exact fun _ _ _ h => h
      case hw_u7 => rfl
      case hy_u7 => ((intro w hSw; (try dsimp only at hSw); go_simp); all_goals (with_reducible rfl))
      try simp only [Act.put, List.setIfInBounds_toArray, List.set_cons_zero, List.set_cons_succ]
      refine UpTo.one (i := 7) (o := ?o_u8) (by kernel_rfl) ?hi_u8 (fun K hK => ?rest_u8)
      case hi_u8 => ((simp only [List.getElem?_toArray, List.getElem?_cons_succ, List.getElem?_cons_zero]); rfl)
      go_simp
      refine hK.out _ _ (fun _ => by exact (show Below WR.heap.size WR _ by repeat (first | assumption | exact Below.refl _ _ | refine belDrew ?_ | refine belAlloc ?_ _ | refine belStep ?_ (by assumption)))) (fun hHeld0 => ?_)
      replace hHeld := hHeld0 (by decide)
      clear hK K hHeld0
      try simp only [Act.put, List.setIfInBounds_toArray, List.set_cons_zero, List.set_cons_succ]
      have HB2 := Lib.hid (Blk.later (show Blk WR.drew _ _ _ from HB.out) (belAlloc (Below.refl _ _) (.cells #[.string x.id, .float .f64 x.a, .float .f64 x.b, .float .f64 x.c] 47)))
      have HO2 := Lib.hid (OwnR.alloc (OwnR.later HO.out (belDrew (Below.refl _ _))) (.cells #[.string x.id, .float .f64 x.a, .float .f64 x.b, .float .f64 x.c] 47))
      have HBX := Lib.hid (belAlloc (belDrew HBW.out) (.cells #[.string x.id, .float .f64 x.a, .float .f64 x.b, .float .f64 x.c] 47))
      have HSZ2 := Lib.hid (show W2.heap.size ≤ (WR.drew.alloc (.cells #[.string x.id, .float .f64 x.a, .float .f64 x.b, .float .f64 x.c] 47)).heap.size from by simp; omega)
      have HRX := Lib.hid (row_new_at WR.drew [.string x.id, .float .f64 x.a, .float .f64 x.b, .float .f64 x.c] 47 1 4 WR.heap.size (by rfl) rfl (by unfold maxLen; omega))
      refine UpTo.one (i := 8) (o := ?o_u9) (by kernel_rfl) ?hi_u9 (fun K hK => ?rest_u9)
      case hi_u9 => ((simp only [List.getElem?_toArray, List.getElem?_cons_succ, List.getElem?_cons_zero]); rfl)
      refine op_appO rfl _ _ 24 rfl (W2.heap.size) 47 _ 4 40 Try.underlying24 info_usage rfl (by decide) _ N.length _ (by rfl) HO2.out (some ⟨WR.heap.size, 0, none⟩) 1 1 [.string x.id, .float .f64 x.a, .float .f64 x.b, .float .f64 x.c] (by rfl) HRX.out (usg_one x) (by simp only [maxLen]; omega) (by omega) HSZ2.out ?_
      intro v' w6 ho' hb'
      have hB3 := HB2.out.below hb' (by omega)
      have hO3 := own_snocG (enc := UsgV.cells) (x := x) ho'
      obtain ⟨P, hP⟩ : ∃ P, N ++ [x] = P := ⟨_, rfl⟩
      rw [hP] at hO3 HN
      clear hP
      have HB6 := Lib.hid (HBX.out.trans (hb'.mono (by omega)))
      have hs6 : W2.heap.size ≤ w6.heap.size := Nat.le_trans HSZ2.out hb'.size
      obtain ⟨a3, c3, e3, hr3⟩ := rowR_of_own hO3
      subst e3
      have q4 := hB3.cell (j := 4) rfl
      have qf := hB3.frozen
      have HB4 := Lib.hid (hB3.set 4 (.slice a3 P.length c3))
      have HO4 := Lib.hid (own_low hO3 ⟨Mo, 4, none⟩ hMo (.slice a3 P.length c3))
      have HB5 := Lib.hid (belSet HB6.out ⟨Mo, 4, none⟩ (.slice a3 P.length c3) (show W1.heap.size ≤ Mo from hzo))
      have HS9 := Lib.hid (show W2.heap.size ≤ (w6.setCell ⟨Mo, 4, none⟩ (.slice a3 P.length c3)).heap.size from by simpa using hs6)
      clear ho' hb' hO3 hr3 hB3 HB2 HO2 HRX HBX HB6 hs6 hsw HSZ2 hHeld
      refine hK.out _ _ (fun q => absurd q (by decide)) (fun _ => ?_)
      clear hK K
      try simp only [Act.put, List.setIfInBounds_toArray, List.set_cons_zero, List.set_cons_succ]
      refine UpTo.one (i := 9) (o := ?o_u10) (by kernel_rfl) ?hi_u10 (fun K hK => ?rest_u10)
      case hi_u10 => ((simp only [List.getElem?_toArray, List.getElem?_cons_succ, List.getElem?_cons_zero]); rfl)
      go_simp
      refine hK.out _ _ (fun q => absurd q (by decide)) (fun _ => ?_)
      clear hK K
      try simp only [Act.put, List.setIfInBounds_toArray, List.set_cons_zero, List.set_cons_succ]
      refine UpTo.one (i := 10) (o := ?o_u11) (by kernel_rfl) ?hi_u11 (fun K hK => ?rest_u11)
      case hi_u11 => ((simp only [List.getElem?_toArray, List.getElem?_cons_succ, List.getElem?_cons_zero]); rfl)
      go_simp
      refine hK.out _ _ (fun q => absurd q (by decide)) (fun _ => ?_)
      clear hK K
      try simp only [Act.put, List.setIfInBounds_toArray, List.set_cons_zero, List.set_cons_succ]
      refine UpTo.done (by kernel_rfl) ?_ _
      go_wp2
      go_roundw
      case rel => exact ⟨k, a3, c3, by omega, rfl, by rw [HN.out]; exact HB4, by rw [HN.out]; exact HO4, HS9.out, HB5.out⟩
      case measure => simp [intOf] <;> omega
    · rw [show ((0 : Nat) : Int) - 1 = -1 by rfl] at hi
      subst hi
      rw [List.drop_zero] at HB HO
      clear hm
      have hQl : L.reverse.length = L.length := List.length_reverse
      rw [hQl] at HB HO
      obtain ⟨Q, hQ⟩ : ∃ Q, L.reverse = Q := ⟨_, rfl⟩
      rw [hQ] at HO hQl
      have HSQ := Lib.hid (show readSF r Q = (S, er) by rw [← hQ, read_rev]; exact HSF.out)
      have HQO := Lib.hid (show ∀ x ∈ Q, x.ok from hQ ▸ (fun x hx => HOK.out x (List.mem_reverse.1 hx)))
      have HQL := Lib.hid hQl
      clear hQ hQl
      have o0 := keep (HB.out.cell (j := 0) rfl)
      have o1 := keep (HB.out.cell (j := 1) rfl)
      have o2 := keep (HB.out.cell (j := 2) rfl)
      have o3 := keep (HB.out.cell (j := 3) rfl)
      have o4 := keep (HB.out.cell (j := 4) rfl)
      have oB := Blk.keepB HB.out
      have oF := Blk.keepF HB.out
      have HQR := Lib.hid (row_of_ownL HO.out)
      go_upto_region 8 with fail
      have hw := belStep HW1.out HBW.out
      have HRW := Lib.hid (fun u (hu : Below WR.heap.size WR u) => HRL.out u (belStep HBW.out hu))
      clear hbel
      replace rw0 := keepOnP rw0 HBW.out
      replace rw1 := keepOnP rw1 HBW.out
      replace rw2 := keepOnP rw2 HBW.out
      replace rw3 := keepOnP rw3 HBW.out
      replace rw4 := keepOnP rw4 HBW.out
      have hbel : Below WR.heap.size WR WR := Below.refl _ _
      have CR1 := Lib.hid (fun u (hu : Below WR.heap.size WR u) => smp_ReadE r a L.length cap L u rfl HRO.out HOK.out (HRW.out u hu) HSF.out)
      have CR2 := Lib.hid (fun u (hu : Below WR.heap.size WR u) => smp_ReadE r oa L.length oc Q u HQL.out HRO.out HQO.out (HQR.out.later hu) HSQ.out)
      go_upto_region 9 with (first | (go_at_call 20; (with_reducible refine (CR1.out _ hbel).mono ?_); rintro e u1 ⟨⟨b1, n1, rfl, ho1⟩, hb1⟩; replace hbel := belStep hbel hb1))
      have HX1 := Lib.hid ((row_of_ownL ho1).later (belAlloc (Below.refl u1.heap.size u1) (.cells #[.int .i64 S.t, .int .i64 S.a, .int .i64 S.b, .int .i64 S.c, .slice b1 S.use.length n1] 32)))
      clear ho1 hb1
      have HBR4 := Lib.hid (belAlloc hbel (.cells #[.int .i64 S.t, .int .i64 S.a, .int .i64 S.b, .int .i64 S.c, .slice b1 S.use.length n1] 32))
      have s10 : (u1.alloc (.cells #[.int .i64 S.t, .int .i64 S.a, .int .i64 S.b, .int .i64 S.c, .slice b1 S.use.length n1] 32)).cell? ⟨u1.heap.size, 0, none⟩ = some (.int .i64 S.t) := by first | (simp; done) | (rw [World.cell?_alloc_at _ _ _ _ (by simp)]; rfl) | (rw [World.cell?_alloc_past _ _ _ (by simp <;> omega), World.cell?_alloc_at _ _ _ _ (by simp)]; rfl) | (rw [World.cell?_alloc_past _ _ _ (by simp <;> omega), World.cell?_alloc_past _ _ _ (by simp <;> omega), World.cell?_alloc_at _ _ _ _ (by simp)]; rfl)
      have s11 : (u1.alloc (.cells #[.int .i64 S.t, .int .i64 S.a, .int .i64 S.b, .int .i64 S.c, .slice b1 S.use.length n1] 32)).cell? ⟨u1.heap.size, 1, none⟩ = some (.int .i64 S.a) := by first | (simp; done) | (rw [World.cell?_alloc_at _ _ _ _ (by simp)]; rfl) | (rw [World.cell?_alloc_past _ _ _ (by simp <;> omega), World.cell?_alloc_at _ _ _ _ (by simp)]; rfl) | (rw [World.cell?_alloc_past _ _ _ (by simp <;> omega), World.cell?_alloc_past _ _ _ (by simp <;> omega), World.cell?_alloc_at _ _ _ _ (by simp)]; rfl)
      have s12 : (u1.alloc (.cells #[.int .i64 S.t, .int .i64 S.a, .int .i64 S.b, .int .i64 S.c, .slice b1 S.use.length n1] 32)).cell? ⟨u1.heap.size, 2, none⟩ = some (.int .i64 S.b) := by first | (simp; done) | (rw [World.cell?_alloc_at _ _ _ _ (by simp)]; rfl) | (rw [World.cell?_alloc_past _ _ _ (by simp <;> omega), World.cell?_alloc_at _ _ _ _ (by simp)]; rfl) | (rw [World.cell?_alloc_past _ _ _ (by simp <;> omega), World.cell?_alloc_past _ _ _ (by simp <;> omega), World.cell?_alloc_at _ _ _ _ (by simp)]; rfl)
      have s13 : (u1.alloc (.cells #[.int .i64 S.t, .int .i64 S.a, .int .i64 S.b, .int .i64 S.c, .slice b1 S.use.length n1] 32)).cell? ⟨u1.heap.size, 3, none⟩ = some (.int .i64 S.c) := by first | (simp; done) | (rw [World.cell?_alloc_at _ _ _ _ (by simp)]; rfl) | (rw [World.cell?_alloc_past _ _ _ (by simp <;> omega), World.cell?_alloc_at _ _ _ _ (by simp)]; rfl) | (rw [World.cell?_alloc_past _ _ _ (by simp <;> omega), World.cell?_alloc_past _ _ _ (by simp <;> omega), World.cell?_alloc_at _ _ _ _ (by simp)]; rfl)
      have s14 : (u1.alloc (.cells #[.int .i64 S.t, .int .i64 S.a, .int .i64 S.b, .int .i64 S.c, .slice b1 S.use.length n1] 32)).cell? ⟨u1.heap.size, 4, none⟩ = some (.slice b1 S.use.length n1) := by first | (simp; done) | (rw [World.cell?_alloc_at _ _ _ _ (by simp)]; rfl) | (rw [World.cell?_alloc_past _ _ _ (by simp <;> omega), World.cell?_alloc_at _ _ _ _ (by simp)]; rfl) | (rw [World.cell?_alloc_past _ _ _ (by simp <;> omega), World.cell?_alloc_past _ _ _ (by simp <;> omega), World.cell?_alloc_at _ _ _ _ (by simp)]; rfl)
      have hb2 := (by repeat (first | exact hbel | refine belAlloc ?_ _ | refine belDrew ?_ | refine belSet ?_ _ _ (by simp)) : Below WR.heap.size WR (u1.alloc (.cells #[.int .i64 S.t, .int .i64 S.a, .int .i64 S.b, .int .i64 S.c, .slice b1 S.use.length n1] 32)))
      replace rw0 := keepOnP rw0 hb2
      replace rw1 := keepOnP rw1 hb2
      replace rw2 := keepOnP rw2 hb2
      replace rw3 := keepOnP rw3 hb2
      replace rw4 := keepOnP rw4 hb2
      replace o0 := keepOnP o0 hb2
      replace o1 := keepOnP o1 hb2
      replace o2 := keepOnP o2 hb2
      replace o3 := keepOnP o3 hb2
      replace o4 := keepOnP o4 hb2
      replace oB := keepOnP oB hb2
      replace oF := keepOnP oF hb2
      replace hw := belStep hw hb2
      clear hb2 hbel
      generalize u1.alloc (.cells #[.int .i64 S.t, .int .i64 S.a, .int .i64 S.b, .int .i64 S.c, .slice b1 S.use.length n1] 32) = W4 at *
      replace s10 := keep s10
      replace s11 := keep s11
      replace s12 := keep s12
      replace s13 := keep s13
      replace s14 := keep s14
      generalize u1.heap.size = M1 at *
      have hbel : Below W4.heap.size W4 W4 := Below.refl _ _
      clear u1
      replace HX1 := Lib.hid (fun v (hv : Below W4.heap.size W4 v) => HX1.out.later hv)
      go_upto_region 10 with (first | (go_at_call 20; (with_reducible refine (CR2.out _ (belStep HBR4.out hbel)).mono ?_); rintro e u3 ⟨⟨b2, n2, rfl, ho2⟩, hb2⟩; replace hbel := belStep hbel hb2))
      have HX2 := Lib.hid ((row_of_ownL ho2).later (belAlloc (Below.refl u3.heap.size u3) (.cells #[.int .i64 S.t, .int .i64 S.a, .int .i64 S.b, .int .i64 S.c, .slice b2 S.use.length n2] 32)))
      clear ho2 hb2
      have HB45 := Lib.hid (belAlloc hbel (.cells #[.int .i64 S.t, .int .i64 S.a, .int .i64 S.b, .int .i64 S.c, .slice b2 S.use.length n2] 32))
      have s20 : (u3.alloc (.cells #[.int .i64 S.t, .int .i64 S.a, .int .i64 S.b, .int .i64 S.c, .slice b2 S.use.length n2] 32)).cell? ⟨u3.heap.size, 0, none⟩ = some (.int .i64 S.t) := by first | (simp; done) | (rw [World.cell?_alloc_at _ _ _ _ (by simp)]; rfl) | (rw [World.cell?_alloc_past _ _ _ (by simp <;> omega), World.cell?_alloc_at _ _ _ _ (by simp)]; rfl) | (rw [World.cell?_alloc_past _ _ _ (by simp <;> omega), World.cell?_alloc_past _ _ _ (by simp <;> omega), World.cell?_alloc_at _ _ _ _ (by simp)]; rfl)
      have s21 : (u3.alloc (.cells #[.int .i64 S.t, .int .i64 S.a, .int .i64 S.b, .int .i64 S.c, .slice b2 S.use.length n2] 32)).cell? ⟨u3.heap.size, 1, none⟩ = some (.int .i64 S.a) := by first | (simp; done) | (rw [World.cell?_alloc_at _ _ _ _ (by simp)]; rfl) | (rw [World.cell?_alloc_past _ _ _ (by simp <;> omega), World.cell?_alloc_at _ _ _ _ (by simp)]; rfl) | (rw [World.cell?_alloc_past _ _ _ (by simp <;> omega), World.cell?_alloc_past _ _ _ (by simp <;> omega), World.cell?_alloc_at _ _ _ _ (by simp)]; rfl)
      have s22 : (u3.alloc (.cells #[.int .i64 S.t, .int .i64 S.a, .int .i64 S.b, .int .i64 S.c, .slice b2 S.use.length n2] 32)).cell? ⟨u3.heap.size, 2, none⟩ = some (.int .i64 S.b) := by first | (simp; done) | (rw [World.cell?_alloc_at _ _ _ _ (by simp)]; rfl) | (rw [World.cell?_alloc_past _ _ _ (by simp <;> omega), World.cell?_alloc_at _ _ _ _ (by simp)]; rfl) | (rw [World.cell?_alloc_past _ _ _ (by simp <;> omega), World.cell?_alloc_past _ _ _ (by simp <;> omega), World.cell?_alloc_at _ _ _ _ (by simp)]; rfl)
      have s23 : (u3.alloc (.cells #[.int .i64 S.t, .int .i64 S.a, .int .i64 S.b, .int .i64 S.c, .slice b2 S.use.length n2] 32)).cell? ⟨u3.heap.size, 3, none⟩ = some (.int .i64 S.c) := by first | (simp; done) | (rw [World.cell?_alloc_at _ _ _ _ (by simp)]; rfl) | (rw [World.cell?_alloc_past _ _ _ (by simp <;> omega), World.cell?_alloc_at _ _ _ _ (by simp)]; rfl) | (rw [World.cell?_alloc_past _ _ _ (by simp <;> omega), World.cell?_alloc_past _ _ _ (by simp <;> omega), World.cell?_alloc_at _ _ _ _ (by simp)]; rfl)
      have s24 : (u3.alloc (.cells #[.int .i64 S.t, .int .i64 S.a, .int .i64 S.b, .int .i64 S.c, .slice b2 S.use.length n2] 32)).cell? ⟨u3.heap.size, 4, none⟩ = some (.slice b2 S.use.length n2) := by first | (simp; done) | (rw [World.cell?_alloc_at _ _ _ _ (by simp)]; rfl) | (rw [World.cell?_alloc_past _ _ _ (by simp <;> omega), World.cell?_alloc_at _ _ _ _ (by simp)]; rfl) | (rw [World.cell?_alloc_past _ _ _ (by simp <;> omega), World.cell?_alloc_past _ _ _ (by simp <;> omega), World.cell?_alloc_at _ _ _ _ (by simp)]; rfl)
      have hb2 := (by repeat (first | exact hbel | refine belAlloc ?_ _ | refine belDrew ?_ | refine belSet ?_ _ _ (by simp)) : Below W4.heap.size W4 (u3.alloc (.cells #[.int .i64 S.t, .int .i64 S.a, .int .i64 S.b, .int .i64 S.c, .slice b2 S.use.length n2] 32)))
      replace rw0 := keepOnP rw0 hb2
      replace rw1 := keepOnP rw1 hb2
      replace rw2 := keepOnP rw2 hb2
      replace rw3 := keepOnP rw3 hb2
      replace rw4 := keepOnP rw4 hb2
      replace o0 := keepOnP o0 hb2
      replace o1 := keepOnP o1 hb2
      replace o2 := keepOnP o2 hb2
      replace o3 := keepOnP o3 hb2
      replace o4 := keepOnP o4 hb2
      replace oB := keepOnP oB hb2
      replace oF := keepOnP oF hb2
      replace s10 := keepOnP s10 hb2
      replace s11 := keepOnP s11 hb2
      replace s12 := keepOnP s12 hb2
      replace s13 := keepOnP s13 hb2
      replace s14 := keepOnP s14 hb2
      replace hw := belStep hw hb2
      clear hb2 hbel
      generalize u3.alloc (.cells #[.int .i64 S.t, .int .i64 S.a, .int .i64 S.b, .int .i64 S.c, .slice b2 S.use.length n2] 32) = W5 at *
      replace s20 := keep s20
      replace s21 := keep s21
      replace s22 := keep s22
      replace s23 := keep s23
      replace s24 := keep s24
      generalize u3.heap.size = M2 at *
      have hbel : Below W5.heap.size W5 W5 := Below.refl _ _
      clear u3
      replace HX2 := Lib.hid (fun v (hv : Below W5.heap.size W5 v) => HX2.out.later hv)
      replace HX1 := Lib.hid (fun v (hv : Below W5.heap.size W5 v) => HX1.out v (belStep HB45.out hv))
      have CS := Lib.hid (fun u (hu : Below W5.heap.size W5 u) => sref_Same S b1 n1 b2 n2 u (HX1.out u hu) (HX2.out u hu))
      have he : (er != er) = false := by simp
      by_cases hL : L.length = 0
      · have h0 : ((L.length : Int) == 0) = true := by rw [hL]; rfl
        have h1 : (L.length == 0) = true := by rw [hL]; rfl
        go_wp2_with (first | (go_at_call 23; (with_reducible refine (CS.out _ hbel).mono ?_); rintro e w1 ⟨rfl, hb1⟩; replace hbel := belStep hbel hb1; clear hb1))
        go_ret
        exact ⟨rfl, belStep hw hbel⟩
      · have h0 : ((L.length : Int) == 0) = false := by simpa using hL
        have h1 : (L.length == 0) = false := by simpa using hL
        have hlp : 0 < L.length := by omega
        obtain ⟨q, hq1, hq2, hql⟩ := turn_to hat0 hlp
        have hqQ : q < Q.length := by rw [HQL.out]; exact hql
        obtain ⟨x, hx⟩ : ∃ x, Q[q]? = some x := ⟨Q[q], List.getElem?_eq_getElem hqQ⟩
        go_upto_region 14 with (first | (go_at_call 23; (with_reducible refine (CS.out _ hbel).mono ?_); rintro e w1 ⟨rfl, hb1⟩; replace hbel := belStep hbel hb1; clear hb1))
        clear CS HX1 HX2 CR1 CR2 he h0 h1
        have HBA := Lib.hid (belStep HBR4.out (belStep HB45.out hbel))
        have hw5 := belStep hw hbel
        clear hw
        obtain ⟨bc, oc2, ec, _, hcc⟩ := HQR.out.elem UsgV.cells_len (by omega) hx
        subst ec
        have c0 := keepOnP (keep (hcc 0 _ rfl)) HBA.out
        have c1 := keepOnP (keep (hcc 1 _ rfl)) HBA.out
        have c2 := keepOnP (keep (hcc 2 _ rfl)) HBA.out
        have c3 := keepOnP (keep (hcc 3 _ rfl)) HBA.out
        rw [Nat.add_zero] at c0
        clear hcc
        have HO5 := Lib.hid (HO.out.later HBA.out)
        have HBL := Lib.hid (HB.out.later HBA.out)
        have HXM := Lib.hid (List.mem_of_getElem? hx)
        have hsw5 : W2.heap.size ≤ w1.heap.size := Nat.le_trans hsw HBA.out.size
        clear hx hbel HB HO HQR
        replace o0 := keepOnP (keep (HBL.out.cell (j := 0) rfl)) (Below.refl _ _)
        replace o1 := keepOnP (keep (HBL.out.cell (j := 1) rfl)) (Below.refl _ _)
        replace o2 := keepOnP (keep (HBL.out.cell (j := 2) rfl)) (Below.refl _ _)
        replace o3 := keepOnP (keep (HBL.out.cell (j := 3) rfl)) (Below.refl _ _)
        replace o4 := keepOnP (keep (HBL.out.cell (j := 4) rfl)) (Below.refl _ _)
        generalize w1 = W6 at *
        have hbel : Below W6.heap.size W6 W6 := Below.refl _ _
        have hqi : (q : Int) < (L.length : Int) := by omega
        have hq0 : (0 : Int) ≤ (q : Int) := by omega
        have hl0 : ¬ ((L.length : Int) = 0) := by omega
        have hl1 : ¬ (L.length = 0) := by omega
        have u6 : IntKind.i64.wrap at0 = at0 := IntWalk.i64_in _ (by omega)
        have u7 : IntKind.i64.wrap (q : Int) = (q : Int) := IntWalk.i64_in _ (by omega)
        have HB := HBL
        have HO := HO5
        have HBW := Lib.hid hw5
        refine wp_region_upto (S := fun u => Below W6.heap.size W6 u) [13, 14, 15] (by kernel_rfl) (by exact (show Below W6.heap.size W6 _ by repeat (first | assumption | exact Below.refl _ _ | refine belDrew ?_ | refine belAlloc ?_ _ | refine belStep ?_ (by assumption)))) (fun hHeld => ?_)
        refine UpTo.take (i := 0) (oi := ?oi_u12) (v := ?v_u12) ?hi_u12 (by kernel_rfl) ?hf_u12 ?hr_u12 (by kernel_rfl) ?hQ_u12 (Or.inl ⟨?hw_u12, ?hy_u12⟩) (by assumption) ?rest_u12
        case hi_u12 => ((simp only [List.getElem?_toArray, List.getElem?_cons_succ, List.getElem?_cons_zero]); rfl)
        case hf_u12 => kernel_rfl
        case hr_u12 => kernel_rfl
        case hQ_u12 => exact fun _ _ _ h => h
        case hw_u12 => rfl
        case hy_u12 => ((intro w hSw; (try dsimp only at hSw); go_simp); all_goals (with_reducible rfl))
        try simp only [Act.put, List.setIfInBounds_toArray, List.set_cons_zero, List.set_cons_succ]
        refine UpTo.take (i := 1) (oi := ?oi_u13) (v := ?v_u13) ?hi_u13 (by kernel_rfl) ?hf_u13 ?hr_u13 (by kernel_rfl) ?hQ_u13 (Or.inl ⟨?hw_u13, ?hy_u13⟩) (by assumption) ?rest_u13
        case hi_u13 => ((simp only [List.getElem?_toArray, List.getElem?_cons_succ, List.getElem?_cons_zero]); rfl)
        case hf_u13 => kernel_rfl
        case hr_u13 => kernel_rfl
        case hQ_u13 => exact fun _ _ _ h => h
        case hw_u13 => rfl
        case hy_u13 => ((intro w hSw; (try dsimp only at hSw); go_simp); all_goals (with_reducible rfl))
        try simp only [Act.put, List.setIfInBounds_toArray, List.set_cons_zero, List.set_cons_succ]
        refine UpTo.take (i := 2) (oi := ?oi_u14) (v := ?v_u14) ?hi_u14 (by kernel_rfl) ?hf_u14 ?hr_u14 (by kernel_rfl) ?hQ_u14 (Or.inl ⟨?hw_u14, ?hy_u14⟩) (by assumption) ?rest_u14
        case hi_u14 => ((simp only [List.getElem?_toArray, List.getElem?_cons_succ, List.getElem?_cons_zero]); rfl)
        case hf_u14 => kernel_rfl
        case hr_u14 => kernel_rfl
        case hQ_u14 => exact fun _ _ _ h => h
        case hw_u14 => rfl
        case hy_u14 => ((intro w hSw; (try dsimp only at hSw); go_simp); all_goals (with_reducible rfl))
        try simp only [Act.put, List.setIfInBounds_toArray, List.set_cons_zero, List.set_cons_succ]
        refine UpTo.take (i := 3) (oi := ?oi_u15) (v := ?v_u15) ?hi_u15 (by kernel_rfl) ?hf_u15 ?hr_u15 (by kernel_rfl) ?hQ_u15 (Or.inl ⟨?hw_u15, ?hy_u15⟩) (by assumption) ?rest_u15
        case hi_u15 => ((simp only [List.getElem?_toArray, List.getElem?_cons_succ, List.getElem?_cons_zero]); rfl)
        case hf_u15 => kernel_rfl
        case hr_u15 => kernel_rfl
        case hQ_u15 => exact fun _ _ _ h => h
        case hw_u15 => rfl
        case hy_u15 => ((intro w hSw; (try dsimp only at hSw); go_simp); all_goals (with_reducible rfl))
        try simp only [Act.put, List.setIfInBounds_toArray, List.set_cons_zero, List.set_cons_succ]
        refine UpTo.take (i := 4) (oi := ?oi_u16) (v := ?v_u16) ?hi_u16 (by kernel_rfl) ?hf_u16 ?hr_u16 (by kernel_rfl) ?hQ_u16 (Or.inl ⟨?hw_u16, ?hy_u16⟩) (by assumption) ?rest_u16
        case hi_u16 => ((simp only [List.getElem?_toArray, List.getElem?_cons_succ, List.getElem?_cons_zero]); rfl)
        case hf_u16 => kernel_rfl
        case hr_u16 => kernel_rfl
        case hQ_u16 => exact fun _ _ _ h => h
        case hw_u16 => rfl
        case hy_u16 => ((intro w hSw; (try dsimp only at hSw); go_simp); all_goals (with_reducible rfl))
        try simp only [Act.put, List.setIfInBounds_toArray, List.set_cons_zero, List.set_cons_succ]
        refine UpTo.take (i := 5) (oi := ?oi_u17) (v := ?v_u17) ?hi_u17 (by kernel_rfl) ?hf_u17 ?hr_u17 (by kernel_rfl) ?hQ_u17 (Or.inl ⟨?hw_u17, ?hy_u17⟩) (by assumption) ?rest_u17
        case hi_u17 => ((simp only [List.getElem?_toArray, List.getElem?_cons_succ, List.getElem?_cons_zero]); rfl)
        case hf_u17 => kernel_rfl
        case hr_u17 => kernel_rfl
        case hQ_u17 => exact fun _ _ _ h => h
        case hw_u17 => rfl
        case hy_u17 => ((intro w hSw; (try dsimp only at hSw); go_simp); all_goals (with_reducible rfl))
        try simp only [Act.put, List.setIfInBounds_toArray, List.set_cons_zero, List.set_cons_succ]
        refine UpTo.take (i := 6) (oi := ?oi_u18) (v := ?v_u18) ?hi_u18 (by kernel_rfl) ?hf_u18 ?hr_u18 (by kernel_rfl) ?hQ_u18 (Or.inl ⟨?hw_u18, ?hy_u18⟩) (by assumption) ?rest_u18
        case hi_u18 => ((simp only [List.getElem?_toArray, List.getElem?_cons_succ, List.getElem?_cons_zero]); rfl)
        case hf_u18 => kernel_rfl
        case hr_u18 => kernel_rfl
        case hQ_u18 => exact fun _ _ _ h => h
        case hw_u18 => rfl
        case hy_u18 => ((intro w hSw; (try dsimp only at hSw); go_simp); all_goals (with_reducible rfl))
        try simp only [Act.put, List.setIfInBounds_toArray, List.set_cons_zero, List.set_cons_succ]
        refine UpTo.take (i := 7) (oi := ?oi_u19) (v := ?v_u19) ?hi_u19 (by kernel_rfl) ?hf_u19 ?hr_u19 (by kernel_rfl) ?hQ_u19 (Or.inl ⟨?hw_u19, ?hy_u19⟩) (by assumption) ?rest_u19
        case hi_u19 => ((simp only [List.getElem?_toArray, List.getElem?_cons_succ, List.getElem?_cons_zero]); rfl)
        case hf_u19 => kernel_rfl
        case hr_u19 => kernel_rfl
        case hQ_u19 => exact fun _ _ _ h => h
        case hw_u19 => rfl
        case hy_u19 => ((intro w hSw; (try dsimp only at hSw); go_simp); all_goals (with_reducible rfl))
        try simp only [Act.put, List.setIfInBounds_toArray, List.set_cons_zero, List.set_cons_succ]
        refine UpTo.take (i := 8) (oi := ?oi_u20) (v := ?v_u20) ?hi_u20 (by kernel_rfl) ?hf_u20 ?hr_u20 (by kernel_rfl) ?hQ_u20 (Or.inl ⟨?hw_u20, ?hy_u20⟩) (by assumption) ?rest_u20
        case hi_u20 => ((simp only [List.getElem?_toArray, List.getElem?_cons_succ, List.getElem?_cons_zero]); rfl)
        case hf_u20 => kernel_rfl
        case hr_u20 => kernel_rfl
        case hQ_u20 => exact fun _ _ _ h => h
        case hw_u20 => rfl
        case hy_u20 => ((intro w hSw; (try dsimp only at hSw); go_simp); all_goals (with_reducible rfl))
        try simp only [Act.put, List.setIfInBounds_toArray, List.set_cons_zero, List.set_cons_succ]
        refine UpTo.take (i := 9) (oi := ?oi_u21) (v := ?v_u21) ?hi_u21 (by kernel_rfl) ?hf_u21 ?hr_u21 (by kernel_rfl) ?hQ_u21 (Or.inl ⟨?hw_u21, ?hy_u21⟩) (by assumption) ?rest_u21
        case hi_u21 => ((simp only [List.getElem?_toArray, List.getElem?_cons_succ, List.getElem?_cons_zero]); rfl)
        case hf_u21 => kernel_rfl
        case hr_u21 => kernel_rfl
        case hQ_u21 => exact fun _ _ _ h => h
        case hw_u21 => rfl
        case hy_u21 => ((intro w hSw; (try dsimp only at hSw); go_simp); all_goals (with_reducible rfl))
        try simp only [Act.put, List.setIfInBounds_toArray, List.set_cons_zero, List.set_cons_succ]
        refine UpTo.take (i := 10) (oi := ?oi_u22) (v := ?v_u22) ?hi_u22 (by kernel_rfl) ?hf_u22 ?hr_u22 (by kernel_rfl) ?hQ_u22 (Or.inl ⟨?hw_u22, ?hy_u22⟩) (by assumption) ?rest_u22
        case hi_u22 => ((simp only [List.getElem?_toArray, List.getElem?_cons_succ, List.getElem?_cons_zero]); rfl)
        case hf_u22 => kernel_rfl
        case hr_u22 => kernel_rfl
        case hQ_u22 => exact fun _ _ _ h => h
        case hw_u22 => rfl
        case hy_u22 => ((intro w hSw; (try dsimp only at hSw); go_simp); all_goals (with_reducible rfl))
        try simp only [Act.put, List.setIfInBounds_toArray, List.set_cons_zero, List.set_cons_succ]
        refine UpTo.take (i := 11) (oi := ?oi_u23) (v := ?v_u23) ?hi_u23 (by kernel_rfl) ?hf_u23 ?hr_u23 (by kernel_rfl) ?hQ_u23 (Or.inl ⟨?hw_u23, ?hy_u23⟩) (by assumption) ?rest_u23
        case hi_u23 => ((simp only [List.getElem?_toArray, List.getElem?_cons_succ, List.getElem?_cons_zero]); rfl)
        case hf_u23 => kernel_rfl
        case hr_u23 => kernel_rfl
        case hQ_u23 => exact fun _ _ _ h => h
        case hw_u23 => rfl
        case hy_u23 => ((intro w hSw; (try dsimp only at hSw); go_simp); all_goals (with_reducible rfl))
        try simp only [Act.put, List.setIfInBounds_toArray, List.set_cons_zero, List.set_cons_succ]
        refine UpTo.one (i := 12) (o := ?o_u24) (by kernel_rfl) ?hi_u24 (fun K hK => ?rest_u24)
        case hi_u24 => ((simp only [List.getElem?_toArray, List.getElem?_cons_succ, List.getElem?_cons_zero]); rfl)
        go_simp
        refine hK.out _ _ (fun _ => by exact (show Below W6.heap.size W6 _ by repeat (first | assumption | exact Below.refl _ _ | refine belDrew ?_ | refine belAlloc ?_ _ | refine belStep ?_ (by assumption)))) (fun hHeld0 => ?_)
        replace hHeld := hHeld0 (by decide)
        clear hK K hHeld0
        try simp only [Act.put, List.setIfInBounds_toArray, List.set_cons_zero, List.set_cons_succ]
        have hsw := hsw5
        have hQ140 : Q.length ≤ 140 := by rw [HQL.out]; exact hL140
        have HB2 := Lib.hid (Blk.later (show Blk W6.drew _ _ _ from HB.out) (belAlloc (Below.refl _ _) (.cells #[.string x.id, .float .f64 x.a, .float .f64 x.b, .float .f64 x.c] 47)))
        have HO2 := Lib.hid (OwnR.alloc (OwnR.later HO.out (belDrew (Below.refl _ _))) (.cells #[.string x.id, .float .f64 x.a, .float .f64 x.b, .float .f64 x.c] 47))
        have HBX := Lib.hid (belAlloc (belDrew HBW.out) (.cells #[.string x.id, .float .f64 x.a, .float .f64 x.b, .float .f64 x.c] 47))
        have HSZ2 := Lib.hid (show W2.heap.size ≤ (W6.drew.alloc (.cells #[.string x.id, .float .f64 x.a, .float .f64 x.b, .float .f64 x.c] 47)).heap.size from by simp; omega)
        have HRX := Lib.hid (row_new_at W6.drew [.string x.id, .float .f64 x.a, .float .f64 x.b, .float .f64 x.c] 47 1 4 W6.heap.size (by rfl) rfl (by unfold maxLen; omega))
        refine UpTo.one (i := 13) (o := ?o_u25) (by kernel_rfl) ?hi_u25 (fun K hK => ?rest_u25)
        case hi_u25 => ((simp only [List.getElem?_toArray, List.getElem?_cons_succ, List.getElem?_cons_zero]); rfl)
        refine op_appO rfl _ _ 24 rfl (W2.heap.size) 47 _ 4 40 Try.underlying24 info_usage rfl (by decide) _ L.length _ (by rfl) HO2.out (some ⟨W6.heap.size, 0, none⟩) 1 1 [.string x.id, .float .f64 x.a, .float .f64 x.b, .float .f64 x.c] (by rfl) HRX.out (usg_one x) (by simp only [maxLen]; omega) (by omega) HSZ2.out ?_
        intro v' w6 ho' hb'
        have hB3 := HB2.out.below hb' (by omega)
        have hO3 : OwnR w6 W2.heap.size 47 4 v' (Q ++ [x]).length ((Q ++ [x]).flatMap UsgV.cells) := own_snocG (enc := UsgV.cells) (x := x) (by rw [HQL.out]; exact ho')
        have HB6 := Lib.hid (HBX.out.trans (hb'.mono (by have := HW1.out.size; omega)))
        clear ho' hb' HB2 HO2 HRX HBX HSZ2 hHeld
        have HDU := Lib.hid (right_dup r HXM.out)
        have HPO := Lib.hid (show ∀ y ∈ Q ++ [x], y.ok from (fun y hy => (List.mem_append.1 hy).elim (fun h => HQO.out y h) (fun h => by rw [List.mem_singleton.1 h]; exact HQO.out x HXM.out)))
        obtain ⟨P, hP⟩ : ∃ P, Q ++ [x] = P := ⟨_, rfl⟩
        rw [hP] at HDU HPO hO3
        clear hP
        obtain ⟨a3, c3, e3, hr3⟩ := rowR_of_own hO3
        subst e3
        have q4 := hB3.cell (j := 4) rfl
        have qf := hB3.frozen
        clear hr3
        have hB4 := hB3.set 4 (.slice a3 P.length c3)
        have hO4 := own_low hO3 ⟨Mo, 4, none⟩ hMo (.slice a3 P.length c3)
        have hw9 := belSet HB6.out ⟨Mo, 4, none⟩ (.slice a3 P.length c3) (show w.heap.size ≤ Mo by have := HW1.out.size; omega)
        clear hB3 hO3 HB6
        refine hK.out _ _ (fun q => absurd q (by decide)) (fun _ => ?_)
        clear hK K
        try simp only [Act.put, List.setIfInBounds_toArray, List.set_cons_zero, List.set_cons_succ]
        refine UpTo.one (i := 14) (o := ?o_u26) (by kernel_rfl) ?hi_u26 (fun K hK => ?rest_u26)
        case hi_u26 => ((simp only [List.getElem?_toArray, List.getElem?_cons_succ, List.getElem?_cons_zero]); rfl)
        go_simp
        refine hK.out _ _ (fun q => absurd q (by decide)) (fun _ => ?_)
        clear hK K
        try simp only [Act.put, List.setIfInBounds_toArray, List.set_cons_zero, List.set_cons_succ]
        refine UpTo.one (i := 15) (o := ?o_u27) (by kernel_rfl) ?hi_u27 (fun K hK => ?rest_u27)
        case hi_u27 => ((simp only [List.getElem?_toArray, List.getElem?_cons_succ, List.getElem?_cons_zero]); rfl)
        go_simp
        refine hK.out _ _ (fun q => absurd q (by decide)) (fun _ => ?_)
        clear hK K
        try simp only [Act.put, List.setIfInBounds_toArray, List.set_cons_zero, List.set_cons_succ]
        refine UpTo.done (by kernel_rfl) ?_ _
        go_upto_region 15 with fail
        clear q4 qf
        generalize w6.setCell ⟨Mo, 4, none⟩ (.slice a3 P.length c3) = W9 at *
        have p0 := keep (hB4.cell (j := 0) rfl)
        have p1 := keep (hB4.cell (j := 1) rfl)
        have p2 := keep (hB4.cell (j := 2) rfl)
        have p3 := keep (hB4.cell (j := 3) rfl)
        have p4 := keep (hB4.cell (j := 4) rfl)
        have HPR := Lib.hid (row_of_ownL hO4)
        clear hB4 hO4
        have hbel : Below W9.heap.size W9 W9 := Below.refl _ _
        have CR3 := Lib.hid (fun u (hu : Below W9.heap.size W9 u) => smp_ReadE r a3 P.length c3 P u rfl HRO.out HPO.out (HPR.out.later hu) (readSF_no HDU.out))
        go_wp2_with (go_at_call 20; (with_reducible refine (CR3.out _ hbel).mono ?_); rintro e u9 ⟨⟨b9, n9, rfl, ho9⟩, hb9⟩; replace hbel := belStep hbel hb9)
        go_ret
        exact ⟨rfl, by repeat (first | exact belStep hw9 hbel | refine belAlloc ?_ _)⟩

set_option maxRecDepth 100000 in
theorem lifted (os : Os) (started : os.Started) (H : Type) (enc : TypeId × Value → H) :
    ReturnsInHanded {} Try.checked os 8 .any (Rows.sampleTurnedSpec.pre6 enc Try.prog Try.f8 Rows.sampleTurnedRow.domain false) (Rows.sampleTurnedSpec.post enc Try.prog Try.f8 false true false false) := by
  refine returnsInHanded_of_change (C := Try.checked) own started (by kernel_rfl) Try.func8
    (ChangeSpec.witness6 (enc := enc) (C := Try.checked) false ⟨#[], #[.agg #[.int .i64 0, .float .f64 0, .float .f64 0, .float .f64 0, .slice none 0 0], .int .u8 0], []⟩ 8 (by kernel_rfl) (by kernel_rfl) (by kernel_rfl) (by kernel_rfl)) ?_
  intro W base args ds gs before hval0 hW hcnd _
  have hval : ∀ (j : Nat) t v, Try.f8.params[j]? = some t → args[j]? = some v → Value.okWide Try.prog W .any base t v := hval0
  have hW' := hW
  obtain ⟨p, q, hA0, hV, rfl, hfz, hnd⟩ := hW
  have hA : DataW.TrodAll enc Try.prog W 0 (fun _ => true) true Try.f8.params.toList args.toList ds p := hA0
  rw [Try.params8] at hA hval
  obtain ⟨v0, vs0, d0, ds0, p0, q0, hargs, rfl, rfl, h0, r0⟩ := trodAll_cons hA
  obtain ⟨v1, vs1, d1, ds1, p1, q1, rfl, rfl, rfl, h1, r1⟩ := trodAll_cons r0
  obtain ⟨rfl, rfl, rfl⟩ := trodAll_nil r1
  obtain rfl : args = #[v0, v1] := by cases args; simp_all
  obtain ⟨rfl, rfl⟩ := trodVars_none hV
  have k0 := h0
  have lt0 : ∀ x ∈ p0, x.block < W.heap.size := by obtain ⟨m, hm⟩ := k0; exact DataW.trod_lt m _ _ _ hm
  have o0 : Value.okWide Try.prog W .any base 26 v0 := hval 0 26 v0 rfl rfl
  obtain ⟨x0, a0, len0, cap0, L0, rfl, fa0, fb0, fc0, fd0⟩ := open_raw o0 h0
  have k1 := h1
  have lt1 : ∀ x ∈ p1, x.block < W.heap.size := by obtain ⟨m, hm⟩ := k1; exact DataW.trod_lt m _ _ _ hm
  have o1 : Value.okWide Try.prog W .any base 5 v1 := hval 1 5 v1 rfl rfl
  obtain ⟨a1, rfl, rfl, rfl, w1⟩ := open_int Try.underlying5 o1 h1
  clear hA0 hval0
  refine (walk x0 a0 len0 cap0 L0 a1 W fa0 fb0 fc0 fd0 (in8_of_wf w1)).mono fun e W' ⟨he, bel⟩ => ?_
  subst he
  exact ⟨_, rfl, _, _, _, [], _, [], hW', trodAll_mk1 (shut_bool Try.underlying4 _), (trodAll_cons_mk (Below.trod laidOut (by kernel_rfl) (of_decide_eq_true (by kernel_rfl)) k0 bel lt0) (trodAll_cons_mk (Below.trod laidOut (by kernel_rfl) (of_decide_eq_true (by kernel_rfl)) k1 bel lt1) trodAll_mk0)), rfl, bel.frame _, fun h => by cases h⟩

theorem over : Rows.sampleTurnedRow.holds Try.pinned (OpenSpec.ofChange Rows.sampleTurnedSpec) :=
  OpenClaim.holds_of_wide 8 Try.f8 rfl rfl rfl rfl rfl rfl rfl ⟨rfl, rfl, rfl, rfl, rfl⟩ rfl rfl rfl rfl rfl (by kernel_rfl) Try.func8 (by kernel_rfl)
    (of_decide_eq_true (by kernel_rfl)) (by unfold Func.isWrapper; first | (rw [if_pos (by decide +kernel)]; kernel_rfl) | (rw [if_neg (by decide +kernel)]; exact ⟨rfl, rfl⟩))
    (fun os started H enc _ => lifted os started H enc)

/-- The statement. -/
theorem proved : Rows.SampleTurnedSaid := over
#print axioms proved

end Go.Proofs.Ytcgpmihjodolmaa.sampleTurned
