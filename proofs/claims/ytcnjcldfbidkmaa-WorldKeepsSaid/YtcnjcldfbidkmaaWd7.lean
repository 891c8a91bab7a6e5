
/- Stage 16: Pull: contract. -/
import Derived.Test.YtcnjcldfbidkmaaWd6
namespace Go.Proofs.Ytcnjcldfbidkmaa
open Go.RowKit Go.Sort
set_option linter.unusedVariables false
set_option linter.unusedSimpArgs false
set_option maxRecDepth 100000 in
set_option maxHeartbeats 32000000 in
theorem wd_Pull (B M : Nat) (F : List Nat) (m : WorldV) (s nm : ByteArray) (size round : Int) (w : World) (hW : WAt w B M F m) (hri : RisesC m.boxes) (hn : m.boxes.length ≤ 100000) (hok : ∀ x ∈ m.boxes, x.ok) (hrj : Rises m.images) (hnj : m.images.length ≤ 100000) :
    Calls Try.prog 56 #[.pointer (some ⟨M, 0, none⟩), .string s, .string nm, .int .i64 size, .int .i64 round] w fun e w' => e = .returned (.tuple #[.bool (pullB m s nm), .bool (pullN m s nm), .int .i64 (mayC m.boxes s 1)]) ∧ WTo w w' B M F (pullW m s nm size round) := by
  have HW := Lib.hid hW
  obtain ⟨q, b, i, rfl, hC⟩ := hW
  obtain ⟨qa, qc, hq, hqr⟩ := hC.wait.row
  obtain ⟨ba, bc, hb, hbr⟩ := rowR_of_own hC.cont
  obtain ⟨ia, ic, hi, hir⟩ := rowR_of_own hC.imgs
  subst hq hb hi
  have m0 := keep (hC.blk.cell (j := 0) rfl)
  have m1 := keep (hC.blk.cell (j := 1) rfl)
  have m2 := keep (hC.blk.cell (j := 2) rfl)
  have m3 := keep (hC.blk.cell (j := 3) rfl)
  have HC := Lib.hid hC
  have hw : Below w.heap.size w w := Below.refl _ _
  have hbel := hw
  have HLT := Lib.hid hC.lt
  have CM := Lib.hid (fun u (hu : Below w.heap.size w u) => wd_may B M _ m s 1 u (HC.out.later hu).at hri hn hok (by unfold InI; omega))
  have CT := Lib.hid (fun u (hu : Below w.heap.size w u) => wd_take B M _ m u (HC.out.later hu).at)
  have CF := Lib.hid (fun u (hu : Below w.heap.size w u) => im_Find ia m.images.length ic m.images nm u rfl (hir.later hu) hrj)
  obtain ⟨X, hX⟩ : ∃ x, fndV m.images nm = x := ⟨_, rfl⟩
  obtain ⟨th, hth⟩ : ∃ t, thereB m.images nm = t := ⟨_, rfl⟩
  obtain ⟨well, hwl⟩ : ∃ t, takeB m.outs = t := ⟨_, rfl⟩
  obtain ⟨P, hP⟩ : ∃ P, putI m.images nm size round = P := ⟨_, rfl⟩
  rw [hwl] at CT
  rw [hX, hth] at CF
  obtain ⟨xs, xz, xl⟩ := X
  dsimp only at CF
  have HTH := Lib.hid hth
  have HWL := Lib.hid hwl
  have HP := Lib.hid hP
  clear hC hqr hbr hir hX hth hwl hP
  by_cases h0 : mayC m.boxes s 1 = 0
  · obtain ⟨x, hx, hf, ht, hp, hs⟩ := may_ok hri h0
    obtain ⟨p, hpp⟩ : ∃ p, placeC m.boxes s = p := ⟨_, rfl⟩
    rw [hpp] at hx hp
    rw [h0, hp] at CM
    have HEC := Lib.hid h0
    have HR := Lib.hid (show pullW m s nm size round = { retries := m.retries, outs := if th then m.outs else m.outs.tail, boxes := settleC m.boxes p x 1 (th || well) round m.retries, images := if (th || well) then P else m.images } ∧ pullB m s nm = (th || well) ∧ pullN m s nm = ((th || well) && !th) by unfold pullW pullB pullN pullV; rw [if_pos h0, if_pos h0, if_pos h0, hpp, hf, HWL.out, HTH.out, HP.out]; exact ⟨rfl, rfl, rfl⟩)
    have CS := Lib.hid (fun G O I wl u (h : WAt u B M G ⟨m.retries, O, m.boxes, I⟩) => wd_settle B M G ⟨m.retries, O, m.boxes, I⟩ p x 1 wl round u h hx hok hn (by unfold InI; omega))
    have HPT := Lib.hid (fun ja jc u (hr : Row u ja m.images.length jc 3 (m.images.flatMap ImgV.cells)) => show Calls Try.prog 93 #[.slice ja m.images.length jc, .string nm, .int .i64 size, .int .i64 round] u fun e w' => ∃ v, e = .returned v ∧ OwnR w' u.heap.size 58 3 v P.length (P.flatMap ImgV.cells) ∧ Below u.heap.size u w' from by have h := im_Put ja m.images.length jc m.images nm size round u rfl hr hrj hnj; rw [HP.out] at h; exact h)
    clear hx hf ht hp hs hpp h0
    go_enter Try.func56, Try.ntmps56
    go_upto_region 5 with (first | (go_at_call 69; (with_reducible refine (CM.out _ hbel).mono ?_); rintro e w1 ⟨rfl, hb_⟩; have hbz := belStep hbel hb_; clear hbel; have hbel := hbz; clear hbz hb_) | (go_at_call 92; (with_reducible refine (CF.out _ hbel).mono ?_); rintro e w3 ⟨rfl, hb_⟩; have hbz := belStep hbel hb_; clear hbel; have hbel := hbz; clear hbz hb_))
    have hb5 : Below w.heap.size w (w3.alloc (.cells #[.string xs, .int .i64 xz, .int .i64 xl] 58)) := belAlloc hbel _
    replace m0 := keepOn m0 hb5
    replace m1 := keepOn m1 hb5
    replace m2 := keepOn m2 hb5
    replace m3 := keepOn m3 hb5
    clear hbel hw
    generalize (w3.alloc (.cells #[.string xs, .int .i64 xz, .int .i64 xl] 58)) = W5 at *
    have hw := hb5
    have hbel : Below W5.heap.size W5 W5 := Below.refl _ _
    have HW5 := Lib.hid hw
    have HC5 := Lib.hid (HC.out.later hw)
    have CT := Lib.hid (wd_take B M _ m _ HC5.out.at)
    rw [HWL.out] at CT
    cases th with
    | false =>
      cases well with
      | false =>
        go_wp2_with (first | (go_at_call 70; (with_reducible refine (CT.out).mono ?_); rintro e w6 ⟨rfl, hT⟩; clear m0 m1 m2 m3; obtain ⟨G, hW2, hA2, hG2⟩ := hT; obtain ⟨q6, b6, i6, rfl, hC6⟩ := hW2; replace hC6 : WCells w6 B M q6 b6 i6 ⟨m.retries, m.outs.tail, m.boxes, m.images⟩ := hC6; obtain ⟨ja, jc, e6, hr6⟩ := rowR_of_own hC6.imgs; try dsimp only at e6 hr6; subst e6; have d3 := hC6.blk.cell (j := 3) rfl; have HC6 := Lib.hid hC6; have HR6 := Lib.hid hr6; have HA2 := Lib.hid hA2; have HG2 := Lib.hid hG2; clear hC6 hA2 hG2 hr6) | (go_at_call 71; (with_reducible refine (CS.out _ m.outs.tail m.images false _ HC6.out.at).mono ?_); rintro e w9 ⟨rfl, hS⟩))
        go_ret3
        exact ⟨by rw [HR.out.2.1, HR.out.2.2, HEC.out]; rfl, by rw [HR.out.1]; exact WTo.pre HW5.out (WTo.andThen HA2.out HG2.out hS)⟩
      | true =>
        go_wp2_with (first | (go_at_call 70; (with_reducible refine (CT.out).mono ?_); rintro e w6 ⟨rfl, hT⟩; clear m0 m1 m2 m3; obtain ⟨G, hW2, hA2, hG2⟩ := hT; obtain ⟨q6, b6, i6, rfl, hC6⟩ := hW2; replace hC6 : WCells w6 B M q6 b6 i6 ⟨m.retries, m.outs.tail, m.boxes, m.images⟩ := hC6; obtain ⟨ja, jc, e6, hr6⟩ := rowR_of_own hC6.imgs; try dsimp only at e6 hr6; subst e6; have d3 := hC6.blk.cell (j := 3) rfl; have HC6 := Lib.hid hC6; have HR6 := Lib.hid hr6; have HA2 := Lib.hid hA2; have HG2 := Lib.hid hG2; clear hC6 hA2 hG2 hr6) | (go_at_call 93; (with_reducible refine (HPT.out _ _ _ HR6.out).mono ?_); rintro e w7 ⟨v7, rfl, ho7, hb7⟩; have hM9 := HC6.out.blk.later hb7; have e3 := hM9.cell (j := 3) rfl; have ef := hM9.frozen; obtain ⟨a9, c9, e9, _⟩ := rowR_of_own ho7; have HF := Lib.hid (HC6.out.setImgs ho7 (HC6.out.lt) hb7); clear hM9 ho7 hb7; generalize P.length = N1 at e9; subst e9; obtain ⟨G8, hW8, hA8, hG8⟩ := HF.out; have HW8 := Lib.hid hW8; have HA8 := Lib.hid hA8; have HG8 := Lib.hid hG8; clear hW8 hA8 hG8) | (go_at_call 71; (with_reducible refine (CS.out _ m.outs.tail P true _ HW8.out).mono ?_); rintro e w9 ⟨rfl, hS⟩))
        go_ret3
        exact ⟨by rw [HR.out.2.1, HR.out.2.2, HEC.out]; rfl, by rw [HR.out.1]; exact WTo.pre HW5.out (WTo.andThen HA2.out HG2.out (WTo.andThen HA8.out HG8.out hS))⟩
    | true =>
      obtain ⟨ja, jc, e6, hr6⟩ := rowR_of_own HC5.out.imgs
      simp only [Value.slice.injEq, true_and] at e6
      obtain ⟨rfl, rfl⟩ := e6
      have HR6 := Lib.hid hr6
      clear hr6
      go_wp2_with (first | (go_at_call 93; (with_reducible refine (HPT.out _ _ _ HR6.out).mono ?_); rintro e w7 ⟨v7, rfl, ho7, hb7⟩; have hM9 := HC5.out.blk.later hb7; have e3 := hM9.cell (j := 3) rfl; have ef := hM9.frozen; obtain ⟨a9, c9, e9, _⟩ := rowR_of_own ho7; have HF := Lib.hid (HC5.out.setImgs ho7 (HC5.out.lt) hb7); clear hM9 ho7 hb7; generalize P.length = N1 at e9; subst e9; obtain ⟨G8, hW8, hA8, hG8⟩ := HF.out; have HW8 := Lib.hid hW8; have HA8 := Lib.hid hA8; have HG8 := Lib.hid hG8; clear hW8 hA8 hG8) | (go_at_call 71; (with_reducible refine (CS.out _ m.outs P true _ HW8.out).mono ?_); rintro e w9 ⟨rfl, hS⟩))
      go_ret3
      exact ⟨by rw [HR.out.2.1, HR.out.2.2, HEC.out]; rfl, by rw [HR.out.1]; exact WTo.pre HW5.out (WTo.andThen HA8.out HG8.out hS)⟩
  · have HE := Lib.hid (show pullB m s nm = false ∧ pullN m s nm = false ∧ pullW m s nm size round = m by unfold pullB pullN pullW; rw [if_neg h0, if_neg h0, if_neg h0]; exact ⟨rfl, rfl, rfl⟩)
    obtain ⟨c, hc⟩ : ∃ c, mayC m.boxes s 1 = c := ⟨_, rfl⟩
    rw [hc] at CM h0
    have HCC := Lib.hid hc
    have hc0 : (c == 0) = false := by rw [beq_eq_false_iff_ne]; exact h0
    have hc1 : (c != 0) = true := by rw [bne, hc0]; rfl
    clear hc h0
    generalize mayP m.boxes s 1 = pz at *
    go_enter Try.func56, Try.ntmps56
    go_wp2_with (go_at_call 69; (with_reducible refine (CM.out _ hbel).mono ?_); rintro e w1 ⟨rfl, hb_⟩; have hbz := belStep hbel hb_; clear hbel; have hbel := hbz; clear hbz hb_)
    go_ret3
    exact ⟨by rw [HE.out.1, HE.out.2.1, HCC.out]; rfl, by rw [HE.out.2.2]; exact WTo.refl HC.out.at hbel⟩
end Go.Proofs.Ytcnjcldfbidkmaa
