
/- Stage 16: Create: contract. -/
import Derived.Test.YtcnjcldfbidkmaaWd3
import Derived.Test.YtcnjcldfbidkmaaUpc
namespace Go.Proofs.Ytcnjcldfbidkmaa
open Go.RowKit Go.Sort
set_option linter.unusedVariables false
set_option linter.unusedSimpArgs false
theorem WTo.preA {u x v : World} {B M : Nat} {F : List Nat} {m : WorldV} (ha : Apart F u x) (h : WTo x v B M F m) : WTo u v B M F m := by
  obtain ⟨G, h1, h2, h3⟩ := h
  exact ⟨G, h1, ha.trans h2, fun b hb2 => (h3 b hb2).imp id (fun q => Nat.le_trans ha.size q)⟩
theorem WTo.same {u x : World} {B M : Nat} {F : List Nat} {m : WorldV} (ha : Apart F u x) (h : WAt x B M F m) : WTo u x B M F m := ⟨F, h, ha, fun _ k => .inl k⟩
theorem own_setST {w : World} {B g n cap p : Nat} {L : List ContV} {x : ContV} (h : OwnR w B 44 4 (.slice (some ⟨g, 0, none⟩) n cap) n (L.flatMap ContV.cells)) (hx : L[p]? = some x) (s t : Int) :
    OwnR ((w.setCell ⟨g, p * 4 + 1, none⟩ (.int .i64 s)).setCell ⟨g, p * 4 + 2, none⟩ (.int .i64 t)) B 44 4 (.slice (some ⟨g, 0, none⟩) n cap) n ((L.set p { x with state := s, tries := t }).flatMap ContV.cells) ∧
    w.grownBy ((w.setCell ⟨g, p * 4 + 1, none⟩ (.int .i64 s)).setCell ⟨g, p * 4 + 2, none⟩ (.int .i64 t)) (some g) := by
  have hp := (List.getElem?_eq_some_iff.1 hx).1
  have h1 := World.ownsRow.stored h (p * 4 + 1) (.int .i64 s)
  have h2 := World.ownsRow.stored h1.1 (p * 4 + 2) (.int .i64 t)
  refine ⟨?_, h1.2.trans h2.2⟩
  have h3 := h2.1
  rw [flat_setc ContV.cells_len (by omega) (y := { x with state := s }) rfl hx] at h3
  rw [flat_setc ContV.cells_len (by omega) (x := { x with state := s }) (y := { x with state := s, tries := t }) rfl (by rw [List.getElem?_set_self hp]), List.set_set] at h3
  exact h3
theorem own_setL {w : World} {B g n cap p : Nat} {L : List ContV} {x : ContV} (h : OwnR w B 44 4 (.slice (some ⟨g, 0, none⟩) n cap) n (L.flatMap ContV.cells)) (hx : L[p]? = some x) (t : Int) :
    OwnR (w.setCell ⟨g, p * 4 + 3, none⟩ (.int .i64 t)) B 44 4 (.slice (some ⟨g, 0, none⟩) n cap) n ((L.set p { x with last := t }).flatMap ContV.cells) ∧
    w.grownBy (w.setCell ⟨g, p * 4 + 3, none⟩ (.int .i64 t)) (some g) := by
  have h1 := World.ownsRow.stored h (p * 4 + 3) (.int .i64 t)
  refine ⟨?_, h1.2⟩
  have h3 := h1.1
  rw [flat_setc ContV.cells_len (by omega) (y := { x with last := t }) rfl hx] at h3
  exact h3
/-- The cells of one container of an own row. -/
theorem own_cells {w : World} {B g n cap p : Nat} {L : List ContV} {x : ContV} (h : OwnR w B 44 4 (.slice (some ⟨g, 0, none⟩) n cap) n (L.flatMap ContV.cells)) (hx : L[p]? = some x) :
    w.cell? ⟨g, p * 4, none⟩ = some (.string x.id) ∧ w.cell? ⟨g, p * 4 + 1, none⟩ = some (.int .i64 x.state) ∧ w.cell? ⟨g, p * 4 + 2, none⟩ = some (.int .i64 x.tries) ∧ w.cell? ⟨g, p * 4 + 3, none⟩ = some (.int .i64 x.last) := by
  obtain ⟨a2, c2, e, hr⟩ := rowR_of_own h
  simp only [Value.slice.injEq] at e
  obtain ⟨rfl, _, rfl⟩ := e
  obtain ⟨b, o, e2, _, hc⟩ := hr.elem ContV.cells_len (by omega) hx
  simp only [Option.some.injEq, Addr.mk.injEq, and_true] at e2
  obtain ⟨rfl, rfl⟩ := e2
  have h0 := hc 0 _ rfl
  have h1 := hc 1 _ rfl
  have h2 := hc 2 _ rfl
  have h3 := hc 3 _ rfl
  simp only [Nat.zero_add, Nat.add_zero] at h0 h1 h2 h3
  exact ⟨h0, h1, h2, h3⟩
def createE (L : List ContV) (s : ByteArray) : Int := if thereC L s then 5 else 0
set_option maxRecDepth 100000 in
set_option maxHeartbeats 16000000 in
theorem wd_Create (B M : Nat) (F : List Nat) (m : WorldV) (s : ByteArray) (round : Int) (w : World) (hW : WAt w B M F m) (hri : RisesC m.boxes) (hn : m.boxes.length ≤ 100000) :
    Calls Try.prog 55 #[.pointer (some ⟨M, 0, none⟩), .string s, .int .i64 round] w fun e w' => e = .returned (.int .i64 (createE m.boxes s)) ∧ WTo w w' B M F { m with boxes := createC m.boxes s round } := by
  obtain ⟨q, b, i, rfl, hC⟩ := hW
  obtain ⟨qa, qc, hq, hqr⟩ := hC.wait.row
  obtain ⟨ba, bc, hb, hbr⟩ := rowR_of_own hC.cont
  obtain ⟨ia, ic, hi, hir⟩ := rowR_of_own hC.imgs
  subst hq hb hi
  have m0 := keep (hC.blk.cell (j := 0) rfl)
  have m1 := keep (hC.blk.cell (j := 1) rfl)
  have m2 := keep (hC.blk.cell (j := 2) rfl)
  have m3 := keep (hC.blk.cell (j := 3) rfl)
  have HC := Lib.hid hC
  have hw : Below w.heap.size w w := Below.refl _ _
  have hbel := hw
  have CP := Lib.hid (fun u (hu : Below w.heap.size w u) => wd_place B M _ m s u (HC.out.later hu).at hri hn)
  have HRI := Lib.hid hri
  clear hC hqr hbr hir hri
  obtain ⟨th, hth⟩ : ∃ t, thereC m.boxes s = t := ⟨_, rfl⟩
  obtain ⟨p, hp⟩ : ∃ p, placeC m.boxes s = p := ⟨_, rfl⟩
  rw [hth, hp] at CP
  have HTH := Lib.hid hth
  have HPL := Lib.hid hp
  clear hth hp
  cases th with
  | true =>
    have HE := Lib.hid (show createE m.boxes s = 5 ∧ createC m.boxes s round = m.boxes by unfold createE createC; rw [HTH.out]; exact ⟨rfl, rfl⟩)
    go_enter Try.func55, Try.ntmps55
    go_wp2_with (go_at_call 65; (with_reducible refine (CP.out _ hbel).mono ?_); rintro e w2 ⟨rfl, hb_⟩; have hbz := belStep hbel hb_; clear hbel; have hbel := hbz; clear hbz hb_)
    go_ret
    exact ⟨by rw [HE.out.1]; rfl, by rw [HE.out.2]; exact WTo.refl HC.out.at hbel⟩
  | false =>
    have HE := Lib.hid (show createE m.boxes s = 0 ∧ createC m.boxes s round = m.boxes.take p ++ ⟨s, 1, 0, round⟩ :: m.boxes.drop p by unfold createE createC; rw [HTH.out, HPL.out]; exact ⟨rfl, rfl⟩)
    have hpl : p ≤ m.boxes.length := by have h := (partsC_of HRI.out s).le; rw [HPL.out] at h; exact h
    go_enter Try.func55, Try.ntmps55
    go_upto_region 4 with (go_at_call 65; (with_reducible refine (CP.out _ hbel).mono ?_); rintro e w2 ⟨rfl, hb_⟩; have hbz := belStep hbel hb_; clear hbel; have hbel := hbz; clear hbz hb_)
    clear CP
    have HBW := Lib.hid hbel
    replace m0 := keepOn m0 hbel
    replace m1 := keepOn m1 hbel
    replace m2 := keepOn m2 hbel
    replace m3 := keepOn m3 hbel
    have HCW := Lib.hid (HC.out.later hbel)
    clear hbel hw
    generalize w2 = W2 at *
    have hbel : Below W2.heap.size W2 W2 := Below.refl _ _
    refine wp_region_upc (S := fun u => Below W2.heap.size W2 u) [11, 14] (by kernel_rfl) (by exact (show Below W2.heap.size W2 _ by repeat (first | assumption | exact Below.refl _ _ | refine belDrew ?_ | refine belAlloc ?_ _ | refine belStep ?_ (by assumption)))) (fun hHeld => ?_)
    refine UpC.pure (i := 0) (oi := ?oi_uc1) (v := ?v_uc1) ?hi_uc1 (by kernel_rfl) ?hf_uc1 ?hr_uc1 ?hQ_uc1 (Or.inl ⟨?hw_uc1, ?hy_uc1⟩) ?rest_uc1
    case hi_uc1 => ((simp only [List.getElem?_toArray, List.getElem?_cons_succ, List.getElem?_cons_zero]); rfl)
    case hf_uc1 => kernel_rfl
    case hr_uc1 => kernel_rfl
    case hQ_uc1 => exact fun _ _ _ h => h
    case hw_uc1 => rfl
    case hy_uc1 => ((intro w hSw; (try dsimp only at hSw); go_simp); all_goals (with_reducible rfl))
    try simp only [Act.put, List.setIfInBounds_toArray, List.set_cons_zero, List.set_cons_succ]
    refine UpC.take (i := 1) (oi := ?oi_uc2) (v := ?v_uc2) ?hi_uc2 (by kernel_rfl) ?hf_uc2 ?hr_uc2 (by kernel_rfl) ?hQ_uc2 (Or.inl ⟨?hw_uc2, ?hy_uc2⟩) (by assumption) ?rest_uc2
    case hi_uc2 => ((simp only [List.getElem?_toArray, List.getElem?_cons_succ, List.getElem?_cons_zero]); rfl)
    case hf_uc2 => kernel_rfl
    case hr_uc2 => kernel_rfl
    case hQ_uc2 => exact fun _ _ _ h => h
    case hw_uc2 => rfl
    case hy_uc2 => ((intro w hSw; (try dsimp only at hSw); go_simp); all_goals (with_reducible rfl))
    try simp only [Act.put, List.setIfInBounds_toArray, List.set_cons_zero, List.set_cons_succ]
    refine UpC.take (i := 2) (oi := ?oi_uc3) (v := ?v_uc3) ?hi_uc3 (by kernel_rfl) ?hf_uc3 ?hr_uc3 (by kernel_rfl) ?hQ_uc3 (Or.inl ⟨?hw_uc3, ?hy_uc3⟩) (by assumption) ?rest_uc3
    case hi_uc3 => ((simp only [List.getElem?_toArray, List.getElem?_cons_succ, List.getElem?_cons_zero]); rfl)
    case hf_uc3 => kernel_rfl
    case hr_uc3 => kernel_rfl
    case hQ_uc3 => exact fun _ _ _ h => h
    case hw_uc3 => rfl
    case hy_uc3 => ((intro w hSw; (try dsimp only at hSw); go_simp); all_goals (with_reducible rfl))
    try simp only [Act.put, List.setIfInBounds_toArray, List.set_cons_zero, List.set_cons_succ]
    refine UpC.take (i := 3) (oi := ?oi_uc4) (v := ?v_uc4) ?hi_uc4 (by kernel_rfl) ?hf_uc4 ?hr_uc4 (by kernel_rfl) ?hQ_uc4 (Or.inl ⟨?hw_uc4, ?hy_uc4⟩) (by assumption) ?rest_uc4
    case hi_uc4 => ((simp only [List.getElem?_toArray, List.getElem?_cons_succ, List.getElem?_cons_zero]); rfl)
    case hf_uc4 => kernel_rfl
    case hr_uc4 => kernel_rfl
    case hQ_uc4 => exact fun _ _ _ h => h
    case hw_uc4 => rfl
    case hy_uc4 => ((intro w hSw; (try dsimp only at hSw); go_simp); all_goals (with_reducible rfl))
    try simp only [Act.put, List.setIfInBounds_toArray, List.set_cons_zero, List.set_cons_succ]
    refine UpC.take (i := 4) (oi := ?oi_uc5) (v := ?v_uc5) ?hi_uc5 (by kernel_rfl) ?hf_uc5 ?hr_uc5 (by kernel_rfl) ?hQ_uc5 (Or.inl ⟨?hw_uc5, ?hy_uc5⟩) (by assumption) ?rest_uc5
    case hi_uc5 => ((simp only [List.getElem?_toArray, List.getElem?_cons_succ, List.getElem?_cons_zero]); rfl)
    case hf_uc5 => kernel_rfl
    case hr_uc5 => kernel_rfl
    case hQ_uc5 => exact fun _ _ _ h => h
    case hw_uc5 => rfl
    case hy_uc5 => ((intro w hSw; (try dsimp only at hSw); go_simp); all_goals (with_reducible rfl))
    try simp only [Act.put, List.setIfInBounds_toArray, List.set_cons_zero, List.set_cons_succ]
    refine UpC.take (i := 5) (oi := ?oi_uc6) (v := ?v_uc6) ?hi_uc6 (by kernel_rfl) ?hf_uc6 ?hr_uc6 (by kernel_rfl) ?hQ_uc6 (Or.inl ⟨?hw_uc6, ?hy_uc6⟩) (by assumption) ?rest_uc6
    case hi_uc6 => ((simp only [List.getElem?_toArray, List.getElem?_cons_succ, List.getElem?_cons_zero]); rfl)
    case hf_uc6 => kernel_rfl
    case hr_uc6 => kernel_rfl
    case hQ_uc6 => exact fun _ _ _ h => h
    case hw_uc6 => rfl
    case hy_uc6 => ((intro w hSw; (try dsimp only at hSw); go_simp); all_goals (with_reducible rfl))
    try simp only [Act.put, List.setIfInBounds_toArray, List.set_cons_zero, List.set_cons_succ]
    refine UpC.take (i := 6) (oi := ?oi_uc7) (v := ?v_uc7) ?hi_uc7 (by kernel_rfl) ?hf_uc7 ?hr_uc7 (by kernel_rfl) ?hQ_uc7 (Or.inl ⟨?hw_uc7, ?hy_uc7⟩) (by assumption) ?rest_uc7
    case hi_uc7 => ((simp only [List.getElem?_toArray, List.getElem?_cons_succ, List.getElem?_cons_zero]); rfl)
    case hf_uc7 => kernel_rfl
    case hr_uc7 => kernel_rfl
    case hQ_uc7 => exact fun _ _ _ h => h
    case hw_uc7 => rfl
    case hy_uc7 => ((intro w hSw; (try dsimp only at hSw); go_simp); all_goals (with_reducible rfl))
    try simp only [Act.put, List.setIfInBounds_toArray, List.set_cons_zero, List.set_cons_succ]
    refine UpC.take (i := 8) (oi := ?oi_uc8) (v := ?v_uc8) ?hi_uc8 (by kernel_rfl) ?hf_uc8 ?hr_uc8 (by kernel_rfl) ?hQ_uc8 (Or.inl ⟨?hw_uc8, ?hy_uc8⟩) (by assumption) ?rest_uc8
    case hi_uc8 => ((simp only [List.getElem?_toArray, List.getElem?_cons_succ, List.getElem?_cons_zero]); rfl)
    case hf_uc8 => kernel_rfl
    case hr_uc8 => kernel_rfl
    case hQ_uc8 => exact fun _ _ _ h => h
    case hw_uc8 => rfl
    case hy_uc8 => ((intro w hSw; (try dsimp only at hSw); go_simp); all_goals (with_reducible rfl))
    try simp only [Act.put, List.setIfInBounds_toArray, List.set_cons_zero, List.set_cons_succ]
    refine UpC.one (i := 7) (o := ?o_uc9) (by kernel_rfl) ?hi_uc9 (fun K hK => ?rest_uc9)
    case hi_uc9 => ((simp only [List.getElem?_toArray, List.getElem?_cons_succ, List.getElem?_cons_zero]); rfl)
    go_simp
    (go_at_call 91; (with_reducible refine (box_New _).mono ?_); rintro e wq ⟨rfl, hbq⟩)
    try go_simp
    have hHq := belStep hHeld hbq
    refine hK.out _ _ (fun _ _ => by exact hHq) (fun hHeld0 => ?_)
    replace hHeld := hHeld0 (by decide) hHeld
    clear hK K hHeld0
    try simp only [Act.put, List.setIfInBounds_toArray, List.set_cons_zero, List.set_cons_succ]
    refine UpC.take (i := 9) (oi := ?oi_uc10) (v := ?v_uc10) ?hi_uc10 (by kernel_rfl) ?hf_uc10 ?hr_uc10 (by kernel_rfl) ?hQ_uc10 (Or.inl ⟨?hw_uc10, ?hy_uc10⟩) (by assumption) ?rest_uc10
    case hi_uc10 => ((simp only [List.getElem?_toArray, List.getElem?_cons_succ, List.getElem?_cons_zero]); rfl)
    case hf_uc10 => kernel_rfl
    case hr_uc10 => kernel_rfl
    case hQ_uc10 => exact fun _ _ _ h => h
    case hw_uc10 => rfl
    case hy_uc10 => ((intro w hSw; (try dsimp only at hSw); go_simp); all_goals (with_reducible rfl))
    try simp only [Act.put, List.setIfInBounds_toArray, List.set_cons_zero, List.set_cons_succ]
    have HCQ := Lib.hid (HCW.out.later hHeld)
    have hne := own_ne_new HCQ.out.cont (Nat.le_refl _)
    have HNE := Lib.hid hne
    have HXB := Lib.hid (Blk.new wq [.string s, .int .i64 1, .int .i64 0, .int .i64 round] 44)
    clear hne
    refine UpC.one (i := 10) (o := ?o_uc11) (by kernel_rfl) ?hi_uc11 (fun K hK => ?rest_uc11)
    case hi_uc11 => ((simp only [List.getElem?_toArray, List.getElem?_cons_succ, List.getElem?_cons_zero]); rfl)
    go_simp
    have hHa : Below W2.heap.size W2 (wq.alloc (.cells #[.string s, .int .i64 1, .int .i64 0, .int .i64 round] 44)) := belAlloc hHeld _
    refine hK.out _ _ (fun _ _ => by exact hHa) (fun hHeld0 => ?_)
    replace hHeld := hHeld0 (by decide) hHeld
    clear hK K hHeld0
    try simp only [Act.put, List.setIfInBounds_toArray, List.set_cons_zero, List.set_cons_succ]
    have HCX := Lib.hid (HCW.out.later hHeld)
    have HWX := Lib.hid (belStep HBW.out hHeld)
    generalize wq.alloc (.cells #[.string s, .int .i64 1, .int .i64 0, .int .i64 round] 44) = WX at *
    generalize wq.heap.size = vb at *
    clear HCQ
    have HXC := Lib.hid (show Blk WX vb (ContV.cells ⟨s, 1, 0, round⟩) 44 from HXB.out)
    refine UpC.one (i := 11) (o := ?o_uc12) (by kernel_rfl) ?hi_uc12 (fun K hK => ?rest_uc12)
    case hi_uc12 => ((simp only [List.getElem?_toArray, List.getElem?_cons_succ, List.getElem?_cons_zero]); rfl)
    go_simp
    (go_at_call 90; (with_reducible refine (ins_allCtr B m.boxes.length p _ m.boxes ⟨s, 1, 0, round⟩ vb WX HCX.out.cont rfl hn hpl HXC.out HNE.out HCX.out.lt).mono ?_); rintro e wr ⟨v', rfl, ho', _, hg', hm'⟩)
    try go_simp
    have hM9 := HCX.out.blk.grown hg' HCX.out.ne_M.2.1
    have d2 := hM9.cell (j := 2) rfl
    have df := hM9.frozen
    have ho2 : OwnR wr B 44 4 v' (m.boxes.take p ++ ⟨s, 1, 0, round⟩ :: m.boxes.drop p).length ((m.boxes.take p ++ ⟨s, 1, 0, round⟩ :: m.boxes.drop p).flatMap ContV.cells) := by rw [show (m.boxes.take p ++ (⟨s, 1, 0, round⟩ : ContV) :: m.boxes.drop p).length = m.boxes.length + 1 by simp; omega]; exact ho'
    obtain ⟨v9a, v9c, e9, _⟩ := rowR_of_own ho'
    generalize m.boxes.length + 1 = N2 at e9
    subst e9
    have HF := Lib.hid (HCX.out.setCont ho2 hg' hm')
    clear ho' ho2 hg' hm' hM9
    refine hK.out _ _ (fun q => absurd q (by decide)) (fun _ => ?_)
    clear hK K
    try simp only [Act.put, List.setIfInBounds_toArray, List.set_cons_zero, List.set_cons_succ]
    refine UpC.one (i := 12) (o := ?o_uc13) (by kernel_rfl) ?hi_uc13 (fun K hK => ?rest_uc13)
    case hi_uc13 => ((simp only [List.getElem?_toArray, List.getElem?_cons_succ, List.getElem?_cons_zero]); rfl)
    go_simp
    refine hK.out _ _ (fun _ h => h) (fun _ => ?_)
    clear hK K
    try simp only [Act.put, List.setIfInBounds_toArray, List.set_cons_zero, List.set_cons_succ]
    refine UpC.one (i := 13) (o := ?o_uc14) (by kernel_rfl) ?hi_uc14 (fun K hK => ?rest_uc14)
    case hi_uc14 => ((simp only [List.getElem?_toArray, List.getElem?_cons_succ, List.getElem?_cons_zero]); rfl)
    go_simp
    refine hK.out _ _ (fun _ h => h) (fun _ => ?_)
    clear hK K
    try simp only [Act.put, List.setIfInBounds_toArray, List.set_cons_zero, List.set_cons_succ]
    refine UpC.one (i := 14) (o := ?o_uc15) (by kernel_rfl) ?hi_uc15 (fun K hK => ?rest_uc15)
    case hi_uc15 => ((simp only [List.getElem?_toArray, List.getElem?_cons_succ, List.getElem?_cons_zero]); rfl)
    go_simp
    refine hK.out _ _ (fun q => absurd q (by decide)) (fun _ => ?_)
    clear hK K
    try simp only [Act.put, List.setIfInBounds_toArray, List.set_cons_zero, List.set_cons_succ]
    refine UpC.done (by kernel_rfl) ?_ _
    go_wp2
    go_ret
    exact ⟨by rw [HE.out.1]; rfl, by rw [HE.out.2]; exact WTo.pre HWX.out HF.out⟩
end Go.Proofs.Ytcnjcldfbidkmaa
