
/- StatePuts holds for all its arguments. No conditions. -/
import Derived.Test.YtpmkhimmlpnbpaaStPutRef
namespace Go.Proofs.Ytpmkhimmlpnbpaa.statePuts
open Go.ChangeShapes Go.WideShapes Go.ChangeAt Go.RowKit
open Go.ChangeMaps (open_string shut_string)
set_option linter.unusedVariables false
set_option linter.unusedSimpArgs false
set_option maxRecDepth 100000 in
set_option maxHeartbeats 16000000 in
theorem walk (r : Int) (a : Option Addr) (n c : Nat) (o : On) (L : List EntV) (w : World) (hr : InI r) (hl : L.length = n) (hok : ∀ x ∈ L, x.ok) (hR : Row w a n c 12 (L.flatMap EntV.cells)) :
    Calls Try.prog 3 #[.agg #[.int .i64 r, .slice a n c, .bool o.a, .bool o.b, .bool o.c]] w fun e w' => e = .returned (.bool true) ∧ Below w.heap.size w w' := by
  have hw : Below w.heap.size w w := Below.refl _ _
  have hbel := hw
  have hbd : n ≤ c ∧ c ≤ 9223372036854775807 := by obtain ⟨_, h1, h2, _⟩ := hR; unfold maxLen at h2; exact ⟨h1, h2⟩
  obtain ⟨hbd1, hbd2⟩ := hbd
  have HR := Lib.hid hR
  have HOK := Lib.hid hok
  have HLN := Lib.hid hl
  obtain ⟨fs, hfs⟩ : ∃ b, fewS L = b := ⟨_, rfl⟩
  obtain ⟨rs, hrs⟩ : ∃ b, stB r L = b := ⟨_, rfl⟩
  have CFW := Lib.hid (fun v (hv : Below w.heap.size w v) => hfs ▸ sref_Few r a n c o L v hl hok (hR.later hv))
  have CRT := Lib.hid (fun v (hv : Below w.heap.size w v) => hrs ▸ sref_Right r a n c o L v hl hok (hR.later hv))
  have HFS := Lib.hid hfs
  have HRS := Lib.hid hrs
  clear hR hok hl hfs hrs hr
  go_enter Try.func3, Try.ntmps3
  go_upto_region 1 with fail
  have ss0 : (w.alloc (.cells #[.int .i64 r, .slice a n c, .bool o.a, .bool o.b, .bool o.c] 25)).cell? ⟨w.heap.size, 0, none⟩ = some (.int .i64 r) := by first | (simp; done) | (rw [World.cell?_alloc_at _ _ _ _ (by simp)]; rfl) | (rw [World.cell?_alloc_past _ _ _ (by simp <;> omega), World.cell?_alloc_at _ _ _ _ (by simp)]; rfl) | (rw [World.cell?_alloc_past _ _ _ (by simp <;> omega), World.cell?_alloc_past _ _ _ (by simp <;> omega), World.cell?_alloc_at _ _ _ _ (by simp)]; rfl)
  have ss1 : (w.alloc (.cells #[.int .i64 r, .slice a n c, .bool o.a, .bool o.b, .bool o.c] 25)).cell? ⟨w.heap.size, 1, none⟩ = some (.slice a n c) := by first | (simp; done) | (rw [World.cell?_alloc_at _ _ _ _ (by simp)]; rfl) | (rw [World.cell?_alloc_past _ _ _ (by simp <;> omega), World.cell?_alloc_at _ _ _ _ (by simp)]; rfl) | (rw [World.cell?_alloc_past _ _ _ (by simp <;> omega), World.cell?_alloc_past _ _ _ (by simp <;> omega), World.cell?_alloc_at _ _ _ _ (by simp)]; rfl)
  have ss2 : (w.alloc (.cells #[.int .i64 r, .slice a n c, .bool o.a, .bool o.b, .bool o.c] 25)).cell? ⟨w.heap.size, 2, none⟩ = some (.bool o.a) := by first | (simp; done) | (rw [World.cell?_alloc_at _ _ _ _ (by simp)]; rfl) | (rw [World.cell?_alloc_past _ _ _ (by simp <;> omega), World.cell?_alloc_at _ _ _ _ (by simp)]; rfl) | (rw [World.cell?_alloc_past _ _ _ (by simp <;> omega), World.cell?_alloc_past _ _ _ (by simp <;> omega), World.cell?_alloc_at _ _ _ _ (by simp)]; rfl)
  have ss3 : (w.alloc (.cells #[.int .i64 r, .slice a n c, .bool o.a, .bool o.b, .bool o.c] 25)).cell? ⟨w.heap.size, 3, none⟩ = some (.bool o.b) := by first | (simp; done) | (rw [World.cell?_alloc_at _ _ _ _ (by simp)]; rfl) | (rw [World.cell?_alloc_past _ _ _ (by simp <;> omega), World.cell?_alloc_at _ _ _ _ (by simp)]; rfl) | (rw [World.cell?_alloc_past _ _ _ (by simp <;> omega), World.cell?_alloc_past _ _ _ (by simp <;> omega), World.cell?_alloc_at _ _ _ _ (by simp)]; rfl)
  have ss4 : (w.alloc (.cells #[.int .i64 r, .slice a n c, .bool o.a, .bool o.b, .bool o.c] 25)).cell? ⟨w.heap.size, 4, none⟩ = some (.bool o.c) := by first | (simp; done) | (rw [World.cell?_alloc_at _ _ _ _ (by simp)]; rfl) | (rw [World.cell?_alloc_past _ _ _ (by simp <;> omega), World.cell?_alloc_at _ _ _ _ (by simp)]; rfl) | (rw [World.cell?_alloc_past _ _ _ (by simp <;> omega), World.cell?_alloc_past _ _ _ (by simp <;> omega), World.cell?_alloc_at _ _ _ _ (by simp)]; rfl)
  have hb2 := (by repeat (first | exact hbel | refine belAlloc ?_ _ | refine belDrew ?_ | refine belSet ?_ _ _ (by simp)) : Below w.heap.size w (w.alloc (.cells #[.int .i64 r, .slice a n c, .bool o.a, .bool o.b, .bool o.c] 25)))
  replace hw := belStep hw hb2
  clear hb2 hbel
  generalize w.alloc (.cells #[.int .i64 r, .slice a n c, .bool o.a, .bool o.b, .bool o.c] 25) = W1 at *
  replace ss0 := keep ss0
  replace ss1 := keep ss1
  replace ss2 := keep ss2
  replace ss3 := keep ss3
  replace ss4 := keep ss4
  have hbel : Below W1.heap.size W1 W1 := Below.refl _ _
  skip
  go_upto_region 3 with (first | (go_at_call 11; (with_reducible refine (awake24 _).mono ?_); rintro e w1 ⟨rfl, hb1⟩; replace hbel := belStep hbel hb1; clear hb1) | (go_at_call 12; (with_reducible refine (CFW.out _ (belStep hw hbel)).mono ?_); rintro e wf ⟨rfl, hbf⟩; replace hbel := belStep hbel hbf; clear hbf; rcases fs with _ | _))
  · go_ret
    exact ⟨rfl, belStep hw hbel⟩
  have HW1 := Lib.hid hw
  clear hw CFW
  have HB := Lib.hid hbel
  have CSR := Lib.hid (fun u (hu : Below W1.heap.size W1 u) => HRS.out ▸ st_Right r a n c o L u HLN.out HOK.out (HR.out.later (belStep HW1.out hu)))
  have CRR := Lib.hid (fun u (hu : Below W1.heap.size W1 u) => CRT.out u (belStep HW1.out hu))
  clear CRT
  cases rs with
  | false =>
    have CPN := Lib.hid (fun u (hu : Below W1.heap.size W1 u) => st_Put_no r a n c o L u HLN.out HOK.out (HR.out.later (belStep HW1.out hu)) HRS.out)
    go_upto_region 4 with (go_at_call 13; (with_reducible refine (CPN.out _ HB.out).mono ?_); rintro e w3 ⟨rfl, hb_⟩; replace HB := Lib.hid (belStep HB.out hb_); clear hb_)
    replace hbel := HB.out
    clear HB
    refine wp_region_held_drew (S := fun u => Below W1.heap.size W1 u) (by kernel_rfl) (by exact (show Below W1.heap.size W1 _ by repeat (first | assumption | exact Below.refl _ _ | refine belDrew ?_ | refine belAlloc ?_ _ | refine belStep ?_ (by assumption)))) (fun hHeld => ?_)
    refine wpAnyH_take (i := 0) (oi := ?oi_k22) (v := ?v_k22) ?hi_k22 (by kernel_rfl) ?hf_k22 ?hr_k22 ?hQ_k22 (Or.inl ⟨?hw_k22, ?hy_k22⟩) (by assumption) ?rest_k22
    case hi_k22 => ((simp only [List.getElem?_toArray, List.getElem?_cons_succ, List.getElem?_cons_zero]); rfl)
    case hf_k22 => kernel_rfl
    case hr_k22 => kernel_rfl
    case hQ_k22 => exact fun _ _ _ h => h
    case hw_k22 => rfl
    case hy_k22 => ((intro w hSw; (try dsimp only at hSw); go_simp); all_goals (with_reducible rfl))
    try simp only [Act.put, List.setIfInBounds_toArray, List.set_cons_zero, List.set_cons_succ]
    refine wpAnyH_take (i := 2) (oi := ?oi_k23) (v := ?v_k23) ?hi_k23 (by kernel_rfl) ?hf_k23 ?hr_k23 ?hQ_k23 (Or.inl ⟨?hw_k23, ?hy_k23⟩) (by assumption) ?rest_k23
    case hi_k23 => ((simp only [List.getElem?_toArray, List.getElem?_cons_succ, List.getElem?_cons_zero]); rfl)
    case hf_k23 => kernel_rfl
    case hr_k23 => kernel_rfl
    case hQ_k23 => exact fun _ _ _ h => h
    case hw_k23 => rfl
    case hy_k23 => ((intro w hSw; (try dsimp only at hSw); go_simp); all_goals (with_reducible rfl))
    try simp only [Act.put, List.setIfInBounds_toArray, List.set_cons_zero, List.set_cons_succ]
    refine wpAnyH_ready (rs := [1]) (by kernel_rfl) (by simp) ?_
    refine AllReadyH.cons (o := ?o1_k24) ?hi_k24 (fun K hK => ?rest_k24) AllReadyH.nil
    case hi_k24 => ((simp only [List.getElem?_toArray, List.getElem?_cons_succ, List.getElem?_cons_zero]); rfl)
    go_simp
    (go_at_call 14; (with_reducible refine (CSR.out _ hHeld).mono ?_); rintro e wq1 ⟨rfl, hbq⟩)
    have hu1 : Below W1.heap.size W1 wq1 := belStep hHeld hbq
    clear hbq
    try go_simp
    refine hK.out _ _ (by exact hu1) (fun hHeld => ?_)
    clear hK K
    try simp only [Act.put, List.setIfInBounds_toArray, List.set_cons_zero, List.set_cons_succ]
    refine wpAnyH_ready (rs := [3]) (by kernel_rfl) (by simp) ?_
    refine AllReadyH.cons (o := ?o1_k25) ?hi_k25 (fun K hK => ?rest_k25) AllReadyH.nil
    case hi_k25 => ((simp only [List.getElem?_toArray, List.getElem?_cons_succ, List.getElem?_cons_zero]); rfl)
    go_simp
    (go_at_call 15; (with_reducible refine (CRR.out _ hHeld).mono ?_); rintro e wq3 ⟨rfl, hbq⟩)
    have hu3 : Below W1.heap.size W1 wq3 := belStep hHeld hbq
    clear hbq
    try go_simp
    refine hK.out _ _ (by exact hu3) (fun hHeld => ?_)
    clear hK K
    try simp only [Act.put, List.setIfInBounds_toArray, List.set_cons_zero, List.set_cons_succ]
    refine wpAnyH_take (i := 4) (oi := ?oi_k26) (v := ?v_k26) ?hi_k26 (by kernel_rfl) ?hf_k26 ?hr_k26 ?hQ_k26 (Or.inl ⟨?hw_k26, ?hy_k26⟩) (by assumption) ?rest_k26
    case hi_k26 => ((simp only [List.getElem?_toArray, List.getElem?_cons_succ, List.getElem?_cons_zero]); rfl)
    case hf_k26 => kernel_rfl
    case hr_k26 => kernel_rfl
    case hQ_k26 => exact fun _ _ _ h => h
    case hw_k26 => rfl
    case hy_k26 => ((intro w hSw; (try dsimp only at hSw); go_simp); all_goals (with_reducible rfl))
    try simp only [Act.put, List.setIfInBounds_toArray, List.set_cons_zero, List.set_cons_succ]
    refine wpAnyH_done (by kernel_rfl) ?_ _
    have hbel2 := hHeld
    clear hHeld hbel
    have hbel := hbel2
    clear hbel2
    go_wp2_with (go_at_call 15; (with_reducible refine (CRR.out _ hbel).mono ?_); rintro e w5 ⟨rfl, hb_⟩; replace hbel := belStep hbel hb_; clear hb_)
    go_ret
    exact ⟨rfl, belStep HW1.out hbel⟩
  | true =>
    have CP1 := Lib.hid (fun u (hu : Below W1.heap.size W1 u) => st_PutI r a n c o L u HLN.out HOK.out (HR.out.later (belStep HW1.out hu)) HRS.out)
    have CPR := Lib.hid (fun u (hu : Below W1.heap.size W1 u) => sref_PutI r a n c o L u HLN.out HOK.out (HR.out.later (belStep HW1.out hu)) HRS.out)
    obtain ⟨l, hl⟩ : ∃ l, stBytes r.toNat o L = l := ⟨_, rfl⟩
    rw [hl] at CP1 CPR
    clear hl
    obtain ⟨N, hN⟩ : ∃ N, l.length = N := ⟨_, rfl⟩
    have HLEN := Lib.hid hN
    rw [hN] at CP1 CPR
    clear hN
    go_upto_region 4 with (go_at_call 13; (with_reducible refine (CP1.out _ HB.out).mono ?_); rintro e w3 ⟨b1, d1, rfl, _, hi, hb_⟩; replace HB := Lib.hid (belStep HB.out hb_); have HI := Lib.hid hi; clear hi; clear hb_)
    replace hbel := HB.out
    clear HB
    have HB3 := Lib.hid hbel
    clear hbel
    replace ss0 := keepOn ss0 HB3.out
    replace ss1 := keepOn ss1 HB3.out
    replace ss2 := keepOn ss2 HB3.out
    replace ss3 := keepOn ss3 HB3.out
    replace ss4 := keepOn ss4 HB3.out
    have hbel : Below w3.heap.size w3 w3 := Below.refl _ _
    refine wp_region_held_drew (S := fun u => Below w3.heap.size w3 u) (by kernel_rfl) (by exact (show Below w3.heap.size w3 _ by repeat (first | assumption | exact Below.refl _ _ | refine belDrew ?_ | refine belAlloc ?_ _ | refine belStep ?_ (by assumption)))) (fun hHeld => ?_)
    refine wpAnyH_take (i := 0) (oi := ?oi_k27) (v := ?v_k27) ?hi_k27 (by kernel_rfl) ?hf_k27 ?hr_k27 ?hQ_k27 (Or.inl ⟨?hw_k27, ?hy_k27⟩) (by assumption) ?rest_k27
    case hi_k27 => ((simp only [List.getElem?_toArray, List.getElem?_cons_succ, List.getElem?_cons_zero]); rfl)
    case hf_k27 => kernel_rfl
    case hr_k27 => kernel_rfl
    case hQ_k27 => exact fun _ _ _ h => h
    case hw_k27 => rfl
    case hy_k27 => ((intro w hSw; (try dsimp only at hSw); go_simp); all_goals (with_reducible rfl))
    try simp only [Act.put, List.setIfInBounds_toArray, List.set_cons_zero, List.set_cons_succ]
    refine wpAnyH_take (i := 2) (oi := ?oi_k28) (v := ?v_k28) ?hi_k28 (by kernel_rfl) ?hf_k28 ?hr_k28 ?hQ_k28 (Or.inl ⟨?hw_k28, ?hy_k28⟩) (by assumption) ?rest_k28
    case hi_k28 => ((simp only [List.getElem?_toArray, List.getElem?_cons_succ, List.getElem?_cons_zero]); rfl)
    case hf_k28 => kernel_rfl
    case hr_k28 => kernel_rfl
    case hQ_k28 => exact fun _ _ _ h => h
    case hw_k28 => rfl
    case hy_k28 => ((intro w hSw; (try dsimp only at hSw); go_simp); all_goals (with_reducible rfl))
    try simp only [Act.put, List.setIfInBounds_toArray, List.set_cons_zero, List.set_cons_succ]
    refine wpAnyH_ready (rs := [1]) (by kernel_rfl) (by simp) ?_
    refine AllReadyH.cons (o := ?o1_k29) ?hi_k29 (fun K hK => ?rest_k29) AllReadyH.nil
    case hi_k29 => ((simp only [List.getElem?_toArray, List.getElem?_cons_succ, List.getElem?_cons_zero]); rfl)
    go_simp
    (go_at_call 14; (with_reducible refine (CSR.out _ (belStep HB3.out hHeld)).mono ?_); rintro e wq1 ⟨rfl, hbq⟩)
    have hu1 : Below w3.heap.size w3 wq1 := belStep hHeld hbq
    clear hbq
    try go_simp
    refine hK.out _ _ (by exact hu1) (fun hHeld => ?_)
    clear hK K
    try simp only [Act.put, List.setIfInBounds_toArray, List.set_cons_zero, List.set_cons_succ]
    refine wpAnyH_ready (rs := [3]) (by kernel_rfl) (by simp) ?_
    refine AllReadyH.cons (o := ?o1_k30) ?hi_k30 (fun K hK => ?rest_k30) AllReadyH.nil
    case hi_k30 => ((simp only [List.getElem?_toArray, List.getElem?_cons_succ, List.getElem?_cons_zero]); rfl)
    go_simp
    (go_at_call 15; (with_reducible refine (CRR.out _ (belStep HB3.out hHeld)).mono ?_); rintro e wq3 ⟨rfl, hbq⟩)
    have hu3 : Below w3.heap.size w3 wq3 := belStep hHeld hbq
    clear hbq
    try go_simp
    refine hK.out _ _ (by exact hu3) (fun hHeld => ?_)
    clear hK K
    try simp only [Act.put, List.setIfInBounds_toArray, List.set_cons_zero, List.set_cons_succ]
    refine wpAnyH_take (i := 4) (oi := ?oi_k31) (v := ?v_k31) ?hi_k31 (by kernel_rfl) ?hf_k31 ?hr_k31 ?hQ_k31 (Or.inl ⟨?hw_k31, ?hy_k31⟩) (by assumption) ?rest_k31
    case hi_k31 => ((simp only [List.getElem?_toArray, List.getElem?_cons_succ, List.getElem?_cons_zero]); rfl)
    case hf_k31 => kernel_rfl
    case hr_k31 => kernel_rfl
    case hQ_k31 => exact fun _ _ _ h => h
    case hw_k31 => rfl
    case hy_k31 => ((intro w hSw; (try dsimp only at hSw); go_simp); all_goals (with_reducible rfl))
    try simp only [Act.put, List.setIfInBounds_toArray, List.set_cons_zero, List.set_cons_succ]
    refine wpAnyH_done (by kernel_rfl) ?_ _
    have hbel2 := hHeld
    clear hHeld hbel
    have hbel := hbel2
    clear hbel2
    go_wp2_with (first | (go_at_call 15; (with_reducible refine (CRR.out _ (belStep HB3.out hbel)).mono ?_); rintro e w5 ⟨rfl, hb_⟩; replace hbel := belStep hbel hb_; clear hb_) | (go_at_call 17; (with_reducible refine (CPR.out _ (belStep HB3.out hbel)).mono ?_); rintro e w6 ⟨b6, d6, rfl, hi6, hb_⟩; have HI6 := Lib.hid hi6; replace hbel := belStep hbel hb_; clear hb_ hi6) | (go_at_call 16; (with_reducible refine (sref_Same b1 N d1 l b6 N d6 l _ (HI.out.later hbel) HI6.out).mono ?_); rintro e w7 ⟨rfl, rfl⟩))
    go_ret
    exact ⟨by simp, belStep HW1.out (belStep HB3.out hbel)⟩

set_option maxRecDepth 100000 in
theorem lifted (os : Os) (started : os.Started) (H : Type) (enc : TypeId × Value → H) :
    ReturnsInHanded {} Try.checked os 3 .any (Rows.statePutsSpec.pre6 enc Try.prog Try.f3 Rows.statePutsRow.domain false) (Rows.statePutsSpec.post enc Try.prog Try.f3 false true false false) := by
  refine returnsInHanded_of_change (C := Try.checked) own started (by kernel_rfl) Try.func3
    (ChangeSpec.witness6 (enc := enc) (C := Try.checked) false ⟨#[], #[.agg #[.int .i64 0, .slice none 0 0, .bool false, .bool false, .bool false]], []⟩ 8 (by kernel_rfl) (by kernel_rfl) (by kernel_rfl) (by kernel_rfl)) ?_
  intro W base args ds gs before hval0 hW hcnd _
  have hval : ∀ (j : Nat) t v, Try.f3.params[j]? = some t → args[j]? = some v → Value.okWide Try.prog W .any base t v := hval0
  have hW' := hW
  obtain ⟨p, q, hA0, hV, rfl, hfz, hnd⟩ := hW
  have hA : DataW.TrodAll enc Try.prog W 0 (fun _ => true) true Try.f3.params.toList args.toList ds p := hA0
  rw [Try.params3] at hA hval
  obtain ⟨v0, vs0, d0, ds0, p0, q0, hargs, rfl, rfl, h0, r0⟩ := trodAll_cons hA
  obtain ⟨rfl, rfl, rfl⟩ := trodAll_nil r0
  obtain rfl : args = #[v0] := by cases args; simp_all
  obtain ⟨rfl, rfl⟩ := trodVars_none hV
  have k0 := h0
  have lt0 : ∀ x ∈ p0, x.block < W.heap.size := by obtain ⟨m, hm⟩ := k0; exact DataW.trod_lt m _ _ _ hm
  have o0 : Value.okWide Try.prog W .any base 25 v0 := hval 0 25 v0 rfl rfl
  obtain ⟨xr0, xa0, xn0, xc0, xo0, xl0, rfl, fa0, fb0, fc0, fd0⟩ := open_state o0 h0
  clear hA0 hval0
  refine (walk xr0 xa0 xn0 xc0 xo0 xl0 W fa0 fb0 fc0 fd0).mono fun e W' ⟨he, bel⟩ => ?_
  subst he
  exact ⟨_, rfl, _, _, _, [], _, [], hW', trodAll_mk1 (shut_bool Try.underlying4 _), (trodAll_cons_mk (Below.trod laidOut (by kernel_rfl) (of_decide_eq_true (by kernel_rfl)) k0 bel lt0) trodAll_mk0), rfl, bel.frame _, fun h => by cases h⟩

theorem over : Rows.statePutsRow.holds Try.pinned (OpenSpec.ofChange Rows.statePutsSpec) :=
  OpenClaim.holds_of_wide 3 Try.f3 rfl rfl rfl rfl rfl rfl rfl ⟨rfl, rfl, rfl, rfl, rfl⟩ rfl rfl rfl rfl rfl (by kernel_rfl) Try.func3 (by kernel_rfl)
    (of_decide_eq_true (by kernel_rfl)) (by unfold Func.isWrapper; first | (rw [if_pos (by decide +kernel)]; kernel_rfl) | (rw [if_neg (by decide +kernel)]; exact ⟨rfl, rfl⟩))
    (fun os started H enc _ => lifted os started H enc)

/-- The statement. -/
theorem proved : Rows.StatePutsSaid := over
#print axioms proved

end Go.Proofs.Ytpmkhimmlpnbpaa.statePuts
