
/- Stage 16: settle: contract. -/
import Derived.Test.YtcnjcldfbidkmaaWd4
namespace Go.Proofs.Ytcnjcldfbidkmaa
open Go.RowKit Go.Sort
set_option linter.unusedVariables false
set_option linter.unusedSimpArgs false
set_option maxRecDepth 100000 in
set_option maxHeartbeats 32000000 in
theorem wd_settle (B M : Nat) (F : List Nat) (m : WorldV) (p : Nat) (x : ContV) (what : Int) (well : Bool) (round : Int) (w : World) (hW : WAt w B M F m) (hx : m.boxes[p]? = some x) (hok : ∀ y ∈ m.boxes, y.ok) (hn : m.boxes.length ≤ 100000) (hwhat : InI what) :
    Calls Try.prog 71 #[.pointer (some ⟨M, 0, none⟩), .int .i64 (p : Int), .int .i64 what, .bool well, .int .i64 round] w fun e w' => e = .returned (.tuple #[]) ∧ WTo w w' B M F { m with boxes := settleC m.boxes p x what well round m.retries } := by
  obtain ⟨q, b, i, rfl, hC⟩ := hW
  have hpl := (List.getElem?_eq_some_iff.1 hx).1
  obtain ⟨g, cap, rfl, hBg, hcap, hcm⟩ : ∃ g cap, b = .slice (some ⟨g, 0, none⟩) m.boxes.length cap ∧ B ≤ g ∧ m.boxes.length ≤ cap ∧ cap ≤ 9223372036854775807 := by
    rcases own_open hC.cont with ⟨_, h0, _⟩ | ⟨g, cap, C, e, h1, _, h3, h4, _⟩
    · omega
    · unfold maxLen at h4; exact ⟨g, cap, e, h1, h3, h4⟩
  have hxo := hok x (List.mem_of_getElem? hx)
  have CD := Lib.hid (fun u => box_Do x.state x.tries what well m.retries u hxo.2.1 hxo.2.2.1 hwhat)
  have HY := Lib.hid (show newC x what well round m.retries = ⟨x.id, doS x.state x.tries what well m.retries, doN x.state x.tries what well m.retries, if well then round else x.last⟩ from rfl)
  obtain ⟨s2, hs2⟩ : ∃ z, doS x.state x.tries what well m.retries = z := ⟨_, rfl⟩
  obtain ⟨t2, ht2⟩ : ∃ z, doN x.state x.tries what well m.retries = z := ⟨_, rfl⟩
  rw [hs2, ht2] at CD HY
  clear hs2 ht2 hxo hok
  have HX := Lib.hid hx
  have hpi : (p : Int) < (m.boxes.length : Int) := by omega
  have hp0 : (0 : Int) ≤ (p : Int) := by omega
  obtain ⟨k0, k1, k2, k3⟩ := own_cells hC.cont hx
  have c0 := keep k0
  have c1 := keep k1
  have c2 := keep k2
  have c3 := keep k3
  clear k0 k1 k2 k3
  have m0 := keep (hC.blk.cell (j := 0) rfl)
  have m1 := keep (hC.blk.cell (j := 1) rfl)
  have m2 := keep (hC.blk.cell (j := 2) rfl)
  have m3 := keep (hC.blk.cell (j := 3) rfl)
  have HC := Lib.hid hC
  obtain ⟨LN, hLN⟩ : ∃ n, m.boxes.length = n := ⟨_, rfl⟩
  have HLN := Lib.hid hLN
  clear hC hx
  have hw : Below w.heap.size w w := Below.refl _ _
  have hbel := hw
  rw [hLN] at m2 hpi hcap hn ⊢
  clear hLN
  go_enter Try.func71, Try.ntmps71
  go_upto_region 1 with fail
  refine wp_region_upc (S := fun u => Below w.heap.size w u) [17] (by kernel_rfl) (by exact (show Below w.heap.size w _ by repeat (first | assumption | exact Below.refl _ _ | refine belDrew ?_ | refine belAlloc ?_ _ | refine belStep ?_ (by assumption)))) (fun hHeld => ?_)
  refine UpC.take (i := 0) (oi := ?oi_uc16) (v := ?v_uc16) ?hi_uc16 (by kernel_rfl) ?hf_uc16 ?hr_uc16 (by kernel_rfl) ?hQ_uc16 (Or.inl ⟨?hw_uc16, ?hy_uc16⟩) (by assumption) ?rest_uc16
  case hi_uc16 => ((simp only [List.getElem?_toArray, List.getElem?_cons_succ, List.getElem?_cons_zero]); rfl)
  case hf_uc16 => kernel_rfl
  case hr_uc16 => kernel_rfl
  case hQ_uc16 => exact fun _ _ _ h => h
  case hw_uc16 => rfl
  case hy_uc16 => ((intro w hSw; (try dsimp only at hSw); go_simp); all_goals (with_reducible rfl))
  try simp only [Act.put, List.setIfInBounds_toArray, List.set_cons_zero, List.set_cons_succ]
  refine UpC.take (i := 1) (oi := ?oi_uc17) (v := ?v_uc17) ?hi_uc17 (by kernel_rfl) ?hf_uc17 ?hr_uc17 (by kernel_rfl) ?hQ_uc17 (Or.inl ⟨?hw_uc17, ?hy_uc17⟩) (by assumption) ?rest_uc17
  case hi_uc17 => ((simp only [List.getElem?_toArray, List.getElem?_cons_succ, List.getElem?_cons_zero]); rfl)
  case hf_uc17 => kernel_rfl
  case hr_uc17 => kernel_rfl
  case hQ_uc17 => exact fun _ _ _ h => h
  case hw_uc17 => rfl
  case hy_uc17 => ((intro w hSw; (try dsimp only at hSw); go_simp); all_goals (with_reducible rfl))
  try simp only [Act.put, List.setIfInBounds_toArray, List.set_cons_zero, List.set_cons_succ]
  refine UpC.take (i := 2) (oi := ?oi_uc18) (v := ?v_uc18) ?hi_uc18 (by kernel_rfl) ?hf_uc18 ?hr_uc18 (by kernel_rfl) ?hQ_uc18 (Or.inl ⟨?hw_uc18, ?hy_uc18⟩) (by assumption) ?rest_uc18
  case hi_uc18 => ((simp only [List.getElem?_toArray, List.getElem?_cons_succ, List.getElem?_cons_zero]); rfl)
  case hf_uc18 => kernel_rfl
  case hr_uc18 => kernel_rfl
  case hQ_uc18 => exact fun _ _ _ h => h
  case hw_uc18 => rfl
  case hy_uc18 => ((intro w hSw; (try dsimp only at hSw); go_simp); all_goals (with_reducible rfl))
  try simp only [Act.put, List.setIfInBounds_toArray, List.set_cons_zero, List.set_cons_succ]
  refine UpC.take (i := 3) (oi := ?oi_uc19) (v := ?v_uc19) ?hi_uc19 (by kernel_rfl) ?hf_uc19 ?hr_uc19 (by kernel_rfl) ?hQ_uc19 (Or.inl ⟨?hw_uc19, ?hy_uc19⟩) (by assumption) ?rest_uc19
  case hi_uc19 => ((simp only [List.getElem?_toArray, List.getElem?_cons_succ, List.getElem?_cons_zero]); rfl)
  case hf_uc19 => kernel_rfl
  case hr_uc19 => kernel_rfl
  case hQ_uc19 => exact fun _ _ _ h => h
  case hw_uc19 => rfl
  case hy_uc19 => ((intro w hSw; (try dsimp only at hSw); go_simp); all_goals (with_reducible rfl))
  try simp only [Act.put, List.setIfInBounds_toArray, List.set_cons_zero, List.set_cons_succ]
  refine UpC.take (i := 4) (oi := ?oi_uc20) (v := ?v_uc20) ?hi_uc20 (by kernel_rfl) ?hf_uc20 ?hr_uc20 (by kernel_rfl) ?hQ_uc20 (Or.inl ⟨?hw_uc20, ?hy_uc20⟩) (by assumption) ?rest_uc20
  case hi_uc20 => ((simp only [List.getElem?_toArray, List.getElem?_cons_succ, List.getElem?_cons_zero]); rfl)
  case hf_uc20 => kernel_rfl
  case hr_uc20 => kernel_rfl
  case hQ_uc20 => exact fun _ _ _ h => h
  case hw_uc20 => rfl
  case hy_uc20 => ((intro w hSw; (try dsimp only at hSw); go_simp); all_goals (with_reducible rfl))
  try simp only [Act.put, List.setIfInBounds_toArray, List.set_cons_zero, List.set_cons_succ]
  refine UpC.take (i := 5) (oi := ?oi_uc21) (v := ?v_uc21) ?hi_uc21 (by kernel_rfl) ?hf_uc21 ?hr_uc21 (by kernel_rfl) ?hQ_uc21 (Or.inl ⟨?hw_uc21, ?hy_uc21⟩) (by assumption) ?rest_uc21
  case hi_uc21 => ((simp only [List.getElem?_toArray, List.getElem?_cons_succ, List.getElem?_cons_zero]); rfl)
  case hf_uc21 => kernel_rfl
  case hr_uc21 => kernel_rfl
  case hQ_uc21 => exact fun _ _ _ h => h
  case hw_uc21 => rfl
  case hy_uc21 => ((intro w hSw; (try dsimp only at hSw); go_simp); all_goals (with_reducible rfl))
  try simp only [Act.put, List.setIfInBounds_toArray, List.set_cons_zero, List.set_cons_succ]
  refine UpC.take (i := 6) (oi := ?oi_uc22) (v := ?v_uc22) ?hi_uc22 (by kernel_rfl) ?hf_uc22 ?hr_uc22 (by kernel_rfl) ?hQ_uc22 (Or.inl ⟨?hw_uc22, ?hy_uc22⟩) (by assumption) ?rest_uc22
  case hi_uc22 => ((simp only [List.getElem?_toArray, List.getElem?_cons_succ, List.getElem?_cons_zero]); rfl)
  case hf_uc22 => kernel_rfl
  case hr_uc22 => kernel_rfl
  case hQ_uc22 => exact fun _ _ _ h => h
  case hw_uc22 => rfl
  case hy_uc22 => ((intro w hSw; (try dsimp only at hSw); go_simp); all_goals (with_reducible rfl))
  try simp only [Act.put, List.setIfInBounds_toArray, List.set_cons_zero, List.set_cons_succ]
  refine UpC.take (i := 7) (oi := ?oi_uc23) (v := ?v_uc23) ?hi_uc23 (by kernel_rfl) ?hf_uc23 ?hr_uc23 (by kernel_rfl) ?hQ_uc23 (Or.inl ⟨?hw_uc23, ?hy_uc23⟩) (by assumption) ?rest_uc23
  case hi_uc23 => ((simp only [List.getElem?_toArray, List.getElem?_cons_succ, List.getElem?_cons_zero]); rfl)
  case hf_uc23 => kernel_rfl
  case hr_uc23 => kernel_rfl
  case hQ_uc23 => exact fun _ _ _ h => h
  case hw_uc23 => rfl
  case hy_uc23 => ((intro w hSw; (try dsimp only at hSw); go_simp); all_goals (with_reducible rfl))
  try simp only [Act.put, List.setIfInBounds_toArray, List.set_cons_zero, List.set_cons_succ]
  refine UpC.take (i := 8) (oi := ?oi_uc24) (v := ?v_uc24) ?hi_uc24 (by kernel_rfl) ?hf_uc24 ?hr_uc24 (by kernel_rfl) ?hQ_uc24 (Or.inl ⟨?hw_uc24, ?hy_uc24⟩) (by assumption) ?rest_uc24
  case hi_uc24 => ((simp only [List.getElem?_toArray, List.getElem?_cons_succ, List.getElem?_cons_zero]); rfl)
  case hf_uc24 => kernel_rfl
  case hr_uc24 => kernel_rfl
  case hQ_uc24 => exact fun _ _ _ h => h
  case hw_uc24 => rfl
  case hy_uc24 => ((intro w hSw; (try dsimp only at hSw); go_simp); all_goals (with_reducible rfl))
  try simp only [Act.put, List.setIfInBounds_toArray, List.set_cons_zero, List.set_cons_succ]
  refine UpC.take (i := 9) (oi := ?oi_uc25) (v := ?v_uc25) ?hi_uc25 (by kernel_rfl) ?hf_uc25 ?hr_uc25 (by kernel_rfl) ?hQ_uc25 (Or.inl ⟨?hw_uc25, ?hy_uc25⟩) (by assumption) ?rest_uc25
  case hi_uc25 => ((simp only [List.getElem?_toArray, List.getElem?_cons_succ, List.getElem?_cons_zero]); rfl)
  case hf_uc25 => kernel_rfl
  case hr_uc25 => kernel_rfl
  case hQ_uc25 => exact fun _ _ _ h => h
  case hw_uc25 => rfl
  case hy_uc25 => ((intro w hSw; (try dsimp only at hSw); go_simp); all_goals (with_reducible rfl))
  try simp only [Act.put, List.setIfInBounds_toArray, List.set_cons_zero, List.set_cons_succ]
  refine UpC.take (i := 10) (oi := ?oi_uc26) (v := ?v_uc26) ?hi_uc26 (by kernel_rfl) ?hf_uc26 ?hr_uc26 (by kernel_rfl) ?hQ_uc26 (Or.inl ⟨?hw_uc26, ?hy_uc26⟩) (by assumption) ?rest_uc26
  case hi_uc26 => ((simp only [List.getElem?_toArray, List.getElem?_cons_succ, List.getElem?_cons_zero]); rfl)
  case hf_uc26 => kernel_rfl
  case hr_uc26 => kernel_rfl
  case hQ_uc26 => exact fun _ _ _ h => h
  case hw_uc26 => rfl
  case hy_uc26 => ((intro w hSw; (try dsimp only at hSw); go_simp); all_goals (with_reducible rfl))
  try simp only [Act.put, List.setIfInBounds_toArray, List.set_cons_zero, List.set_cons_succ]
  refine UpC.one (i := 11) (o := ?o_uc27) (by kernel_rfl) ?hi_uc27 (fun K hK => ?rest_uc27)
  case hi_uc27 => ((simp only [List.getElem?_toArray, List.getElem?_cons_succ, List.getElem?_cons_zero]); rfl)
  go_simp
  (go_at_call 108; (with_reducible refine (CD.out _).mono ?_); rintro e wq ⟨rfl, hbq⟩)
  try go_simp
  have hHq := belStep hHeld hbq
  refine hK.out _ _ (fun _ _ => by exact hHq) (fun hHeld0 => ?_)
  replace hHeld := hHeld0 (by decide) hHeld
  clear hK K hHeld0
  try simp only [Act.put, List.setIfInBounds_toArray, List.set_cons_zero, List.set_cons_succ]
  refine UpC.take (i := 12) (oi := ?oi_uc28) (v := ?v_uc28) ?hi_uc28 (by kernel_rfl) ?hf_uc28 ?hr_uc28 (by kernel_rfl) ?hQ_uc28 (Or.inl ⟨?hw_uc28, ?hy_uc28⟩) (by assumption) ?rest_uc28
  case hi_uc28 => ((simp only [List.getElem?_toArray, List.getElem?_cons_succ, List.getElem?_cons_zero]); rfl)
  case hf_uc28 => kernel_rfl
  case hr_uc28 => kernel_rfl
  case hQ_uc28 => exact fun _ _ _ h => h
  case hw_uc28 => rfl
  case hy_uc28 => ((intro w hSw; (try dsimp only at hSw); go_simp); all_goals (with_reducible rfl))
  try simp only [Act.put, List.setIfInBounds_toArray, List.set_cons_zero, List.set_cons_succ]
  refine UpC.take (i := 13) (oi := ?oi_uc29) (v := ?v_uc29) ?hi_uc29 (by kernel_rfl) ?hf_uc29 ?hr_uc29 (by kernel_rfl) ?hQ_uc29 (Or.inl ⟨?hw_uc29, ?hy_uc29⟩) (by assumption) ?rest_uc29
  case hi_uc29 => ((simp only [List.getElem?_toArray, List.getElem?_cons_succ, List.getElem?_cons_zero]); rfl)
  case hf_uc29 => kernel_rfl
  case hr_uc29 => kernel_rfl
  case hQ_uc29 => exact fun _ _ _ h => h
  case hw_uc29 => rfl
  case hy_uc29 => ((intro w hSw; (try dsimp only at hSw); go_simp); all_goals (with_reducible rfl))
  try simp only [Act.put, List.setIfInBounds_toArray, List.set_cons_zero, List.set_cons_succ]
  refine UpC.pure (i := 14) (oi := ?oi_uc30) (v := ?v_uc30) ?hi_uc30 (by kernel_rfl) ?hf_uc30 ?hr_uc30 ?hQ_uc30 (Or.inl ⟨?hw_uc30, ?hy_uc30⟩) ?rest_uc30
  case hi_uc30 => ((simp only [List.getElem?_toArray, List.getElem?_cons_succ, List.getElem?_cons_zero]); rfl)
  case hf_uc30 => kernel_rfl
  case hr_uc30 => kernel_rfl
  case hQ_uc30 => exact fun _ _ _ h => h
  case hw_uc30 => rfl
  case hy_uc30 => ((intro w hSw; (try dsimp only at hSw); go_simp); all_goals (with_reducible rfl))
  try simp only [Act.put, List.setIfInBounds_toArray, List.set_cons_zero, List.set_cons_succ]
  refine UpC.take (i := 15) (oi := ?oi_uc31) (v := ?v_uc31) ?hi_uc31 (by kernel_rfl) ?hf_uc31 ?hr_uc31 (by kernel_rfl) ?hQ_uc31 (Or.inl ⟨?hw_uc31, ?hy_uc31⟩) (by assumption) ?rest_uc31
  case hi_uc31 => ((simp only [List.getElem?_toArray, List.getElem?_cons_succ, List.getElem?_cons_zero]); rfl)
  case hf_uc31 => kernel_rfl
  case hr_uc31 => kernel_rfl
  case hQ_uc31 => exact fun _ _ _ h => h
  case hw_uc31 => rfl
  case hy_uc31 => ((intro w hSw; (try dsimp only at hSw); go_simp); all_goals (with_reducible rfl))
  try simp only [Act.put, List.setIfInBounds_toArray, List.set_cons_zero, List.set_cons_succ]
  refine UpC.take (i := 16) (oi := ?oi_uc32) (v := ?v_uc32) ?hi_uc32 (by kernel_rfl) ?hf_uc32 ?hr_uc32 (by kernel_rfl) ?hQ_uc32 (Or.inl ⟨?hw_uc32, ?hy_uc32⟩) (by assumption) ?rest_uc32
  case hi_uc32 => ((simp only [List.getElem?_toArray, List.getElem?_cons_succ, List.getElem?_cons_zero]); rfl)
  case hf_uc32 => kernel_rfl
  case hr_uc32 => kernel_rfl
  case hQ_uc32 => exact fun _ _ _ h => h
  case hw_uc32 => rfl
  case hy_uc32 => ((intro w hSw; (try dsimp only at hSw); go_simp); all_goals (with_reducible rfl))
  try simp only [Act.put, List.setIfInBounds_toArray, List.set_cons_zero, List.set_cons_succ]
  have HBQ := Lib.hid hHeld
  have HCQ := Lib.hid (HC.out.later hHeld)
  generalize wq = WQ at *
  obtain ⟨k0, k1, k2, k3⟩ := own_cells (HLN.out ▸ HCQ.out.cont) HX.out
  have kf := own_frozenC (HLN.out ▸ HCQ.out.cont)
  refine UpC.one (i := 17) (o := ?o_uc33) (by kernel_rfl) ?hi_uc33 (fun K hK => ?rest_uc33)
  case hi_uc33 => ((simp only [List.getElem?_toArray, List.getElem?_cons_succ, List.getElem?_cons_zero]); rfl)
  go_simp
  refine hK.out _ _ (fun q => absurd q (by decide)) (fun _ => ?_)
  clear hK K
  try simp only [Act.put, List.setIfInBounds_toArray, List.set_cons_zero, List.set_cons_succ]
  refine UpC.done (by kernel_rfl) ?_ _
  obtain ⟨ho3, hg3⟩ := own_setST (HLN.out ▸ HCQ.out.cont) HX.out s2 t2
  have hz3 := HCQ.out.contIn (L := m.boxes.set p { x with state := s2, tries := t2 }) (by rw [List.length_set]; exact HLN.out ▸ ho3) hg3
  obtain ⟨hC3, hA3⟩ := hz3
  have HC3 := Lib.hid hC3
  have HA3 := Lib.hid hA3
  have HO3 := Lib.hid ho3
  have hp2 := hpl
  have HX3 := Lib.hid (show (m.boxes.set p { x with state := s2, tries := t2 })[p]? = some { x with state := s2, tries := t2 } from List.getElem?_set_self hpl)
  clear hC3 hA3 hg3 ho3 k0 k1 k2 k3 kf c0 c1 c2 c3 m0 m1 m2 m3 hHeld hbel hw
  generalize ((WQ.setCell ⟨g, p * 4 + 1, none⟩ (.int .i64 s2)).setCell ⟨g, p * 4 + 2, none⟩ (.int .i64 t2)) = W3 at *
  cases well with
  | true =>
    obtain ⟨k0, k1, k2, k3⟩ := own_cells HO3.out HX3.out
    have kf := own_frozenC HO3.out
    have hz4 := own_setL HO3.out HX3.out round
    obtain ⟨ho4, hg4⟩ := hz4
    rw [List.set_set] at ho4
    have hz5 := HC3.out.contIn (L := m.boxes.set p ⟨x.id, s2, t2, round⟩) (by rw [List.length_set]; exact HLN.out ▸ ho4) hg4
    obtain ⟨hC4, hA4⟩ := hz5
    have HC4 := Lib.hid hC4
    have HA4 := Lib.hid (HA3.out.trans hA4)
    have HO4 := Lib.hid ho4
    have HY4 := Lib.hid (show newC x what true round m.retries = ⟨x.id, s2, t2, round⟩ from HY.out)
    clear hC4 hA4 ho4 hg4 HC3 HA3 HO3
    go_upto_region 4 with fail
    clear k0 k1 k2 k3 kf
    generalize W3.setCell ⟨g, p * 4 + 3, none⟩ (.int .i64 round) = W4 at *
    have hx4 : (m.boxes.set p (⟨x.id, s2, t2, round⟩ : ContV))[p]? = some (⟨x.id, s2, t2, round⟩ : ContV) := List.getElem?_set_self hpl
    obtain ⟨k0, k1, k2, k3⟩ := own_cells HO4.out hx4
    clear k0 k2 k3 hx4
    have m0 := HC4.out.blk.cell (j := 0) rfl
    have m1 := HC4.out.blk.cell (j := 1) rfl
    have m2 := HC4.out.blk.cell (j := 2) rfl
    have m3 := HC4.out.blk.cell (j := 3) rfl
    rw [HLN.out] at m2
    by_cases h5 : s2 = 5
    · have hq5 : (s2 == 5) = true := by rw [h5]; rfl
      have HR := Lib.hid (show settleC m.boxes p x what true round m.retries = m.boxes.take p ++ m.boxes.drop (p + 1) by unfold settleC; rw [HY4.out, if_pos h5])
      obtain ⟨k, hk⟩ : ∃ k, LN = k + 1 := ⟨LN - 1, by have := HLN.out; omega⟩
      have hpk : p ≤ k := by have := HLN.out; omega
      have hkn : k ≤ 100000 := by omega
      have HK := Lib.hid hk
      have HSL := Lib.hid (show (m.boxes.set p (⟨x.id, s2, t2, round⟩ : ContV)).length = k + 1 by rw [List.length_set, HLN.out]; exact hk)
      have HDL := Lib.hid (show (m.boxes.set p (⟨x.id, s2, t2, round⟩ : ContV)).take p ++ (m.boxes.set p (⟨x.id, s2, t2, round⟩ : ContV)).drop (p + 1) = m.boxes.take p ++ m.boxes.drop (p + 1) by rw [List.take_set_of_le (Nat.le_refl _), List.drop_set_of_lt (by omega)])
      have HO5 := Lib.hid (show OwnR W4 B 44 4 (.slice (some ⟨g, 0, none⟩) LN cap) (k + 1) ((m.boxes.set p (⟨x.id, s2, t2, round⟩ : ContV)).flatMap ContV.cells) from hk ▸ HO4.out)
      have hp1 : IntKind.i64.wrap ((p : Int) + 1) = (p : Int) + 1 := IntWalk.i64_in _ (by omega)
      clear hk
      go_wp2_with (go_at_call 109; (with_reducible refine (del_allCtr B k p _ (m.boxes.set p (⟨x.id, s2, t2, round⟩ : ContV)) W4 HO5.out HSL.out hkn hpk HC4.out.lt).mono ?_); rintro e w6 ⟨v', rfl, ho', _, hg', hm'⟩; rw [HDL.out] at ho'; have hM9 := HC4.out.blk.grown hg' HC4.out.ne_M.2.1; have d2 := hM9.cell (j := 2) rfl; have df := hM9.frozen; obtain ⟨v9a, v9c, e9, _⟩ := rowR_of_own ho'; have HF := Lib.hid (HC4.out.setCont (L := m.boxes.take p ++ m.boxes.drop (p + 1)) (show OwnR w6 B 44 4 v' (m.boxes.take p ++ m.boxes.drop (p + 1)).length _ by rw [show (m.boxes.take p ++ m.boxes.drop (p + 1)).length = k by rw [List.length_append, List.length_take, List.length_drop, HLN.out, HK.out]; omega]; exact ho') (HLN.out.symm ▸ hg') (HLN.out.symm ▸ hm')); subst e9; clear ho' hg' hm' hM9)
      go_end0
      exact ⟨rfl, by rw [HR.out]; exact WTo.pre HBQ.out (WTo.preA HA4.out HF.out)⟩
    · have hq5 : (s2 == 5) = false := by rw [beq_eq_false_iff_ne]; exact h5
      have HR := Lib.hid (show settleC m.boxes p x what true round m.retries = (m.boxes.set p (⟨x.id, s2, t2, round⟩ : ContV)) by unfold settleC; rw [HY4.out, if_neg h5])
      go_wp2
      go_end0
      exact ⟨rfl, by rw [HR.out]; exact WTo.pre HBQ.out (WTo.same HA4.out HC4.out.at)⟩
  | false =>
    have HC4 := HC3
    have HA4 := HA3
    have HO4 := HO3
    have HY4 := Lib.hid (show newC x what false round m.retries = ⟨x.id, s2, t2, x.last⟩ from HY.out)
    clear HC3 HA3 HO3
    go_upto_region 4 with fail
    generalize W3 = W4 at *
    have hx4 : (m.boxes.set p (⟨x.id, s2, t2, x.last⟩ : ContV))[p]? = some (⟨x.id, s2, t2, x.last⟩ : ContV) := List.getElem?_set_self hpl
    obtain ⟨k0, k1, k2, k3⟩ := own_cells HO4.out hx4
    clear k0 k2 k3 hx4
    have m0 := HC4.out.blk.cell (j := 0) rfl
    have m1 := HC4.out.blk.cell (j := 1) rfl
    have m2 := HC4.out.blk.cell (j := 2) rfl
    have m3 := HC4.out.blk.cell (j := 3) rfl
    rw [HLN.out] at m2
    by_cases h5 : s2 = 5
    · have hq5 : (s2 == 5) = true := by rw [h5]; rfl
      have HR := Lib.hid (show settleC m.boxes p x what false round m.retries = m.boxes.take p ++ m.boxes.drop (p + 1) by unfold settleC; rw [HY4.out, if_pos h5])
      obtain ⟨k, hk⟩ : ∃ k, LN = k + 1 := ⟨LN - 1, by have := HLN.out; omega⟩
      have hpk : p ≤ k := by have := HLN.out; omega
      have hkn : k ≤ 100000 := by omega
      have HK := Lib.hid hk
      have HSL := Lib.hid (show (m.boxes.set p (⟨x.id, s2, t2, x.last⟩ : ContV)).length = k + 1 by rw [List.length_set, HLN.out]; exact hk)
      have HDL := Lib.hid (show (m.boxes.set p (⟨x.id, s2, t2, x.last⟩ : ContV)).take p ++ (m.boxes.set p (⟨x.id, s2, t2, x.last⟩ : ContV)).drop (p + 1) = m.boxes.take p ++ m.boxes.drop (p + 1) by rw [List.take_set_of_le (Nat.le_refl _), List.drop_set_of_lt (by omega)])
      have HO5 := Lib.hid (show OwnR W4 B 44 4 (.slice (some ⟨g, 0, none⟩) LN cap) (k + 1) ((m.boxes.set p (⟨x.id, s2, t2, x.last⟩ : ContV)).flatMap ContV.cells) from hk ▸ HO4.out)
      have hp1 : IntKind.i64.wrap ((p : Int) + 1) = (p : Int) + 1 := IntWalk.i64_in _ (by omega)
      clear hk
      go_wp2_with (go_at_call 109; (with_reducible refine (del_allCtr B k p _ (m.boxes.set p (⟨x.id, s2, t2, x.last⟩ : ContV)) W4 HO5.out HSL.out hkn hpk HC4.out.lt).mono ?_); rintro e w6 ⟨v', rfl, ho', _, hg', hm'⟩; rw [HDL.out] at ho'; have hM9 := HC4.out.blk.grown hg' HC4.out.ne_M.2.1; have d2 := hM9.cell (j := 2) rfl; have df := hM9.frozen; obtain ⟨v9a, v9c, e9, _⟩ := rowR_of_own ho'; have HF := Lib.hid (HC4.out.setCont (L := m.boxes.take p ++ m.boxes.drop (p + 1)) (show OwnR w6 B 44 4 v' (m.boxes.take p ++ m.boxes.drop (p + 1)).length _ by rw [show (m.boxes.take p ++ m.boxes.drop (p + 1)).length = k by rw [List.length_append, List.length_take, List.length_drop, HLN.out, HK.out]; omega]; exact ho') (HLN.out.symm ▸ hg') (HLN.out.symm ▸ hm')); subst e9; clear ho' hg' hm' hM9)
      go_end0
      exact ⟨rfl, by rw [HR.out]; exact WTo.pre HBQ.out (WTo.preA HA4.out HF.out)⟩
    · have hq5 : (s2 == 5) = false := by rw [beq_eq_false_iff_ne]; exact h5
      have HR := Lib.hid (show settleC m.boxes p x what false round m.retries = (m.boxes.set p (⟨x.id, s2, t2, x.last⟩ : ContV)) by unfold settleC; rw [HY4.out, if_neg h5])
      go_wp2
      go_end0
      exact ⟨rfl, by rw [HR.out]; exact WTo.pre HBQ.out (WTo.same HA4.out HC4.out.at)⟩
end Go.Proofs.Ytcnjcldfbidkmaa
