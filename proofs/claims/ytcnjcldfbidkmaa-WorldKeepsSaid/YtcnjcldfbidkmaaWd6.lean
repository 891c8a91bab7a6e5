
/- Stage 16: Ask, Drop, Touch: contracts. -/
import Derived.Test.YtcnjcldfbidkmaaWd5
import Derived.Test.YtcnjcldfbidkmaaIm4
namespace Go.Proofs.Ytcnjcldfbidkmaa
open Go.RowKit Go.Sort
set_option linter.unusedVariables false
set_option linter.unusedSimpArgs false
theorem WTo.andThen {u v x : World} {B M : Nat} {F G : List Nat} {k : WorldV} (hA : Apart F u v) (hG : ∀ b ∈ G, b ∈ F ∨ u.heap.size ≤ b) (hk : WTo v x B M G k) : WTo u x B M F k := by
  obtain ⟨H, k1, k2, k3⟩ := hk
  refine ⟨H, k1, hA.trans2 k2 hG, fun b hb => ?_⟩
  rcases k3 b hb with q | q
  · exact hG b q
  · exact .inr (Nat.le_trans hA.size q)
/-- The images are a row that was made before. -/
theorem WCells.setImgs0 {v : World} {B M : Nat} {q b i i2 : Value} {m : WorldV} {L : List ImgV} (h : WCells v B M q b i m) (hq : OwnR v B 58 3 i2 L.length (L.flatMap ImgV.cells)) :
    WAt (v.setCell ⟨M, 3, none⟩ i2) B M (foot M q b i2) { m with images := L } ∧ Apart (foot M q b i) v (v.setCell ⟨M, 3, none⟩ i2) := by
  obtain ⟨n1, n2, n3⟩ := h.ne_M
  have hqM : i2.ownBlock ≠ some M := fun e => by obtain ⟨_, _, C, hb⟩ := own_type hq e; exact absurd (hb.type h.blk) (by decide)
  refine ⟨⟨q, b, i2, rfl, ⟨h.base, h.blk.set 3 i2, ?_, ?_, ?_⟩⟩, (Apart.refl _ _).set _ _ (foot_mem.2 (.inl rfl))⟩
  · exact h.wait.same (fun g e => heap_set_ne _ _ _ _ (fun k => n1 (by rw [e]; exact congrArg some k)))
  · exact own_same h.cont (fun g e => heap_set_ne _ _ _ _ (fun k => n2 (by rw [e]; exact congrArg some k)))
  · exact own_same hq (fun g e => heap_set_ne _ _ _ _ (fun k => hqM (by rw [e]; exact congrArg some k)))
/-- .. and made since the first world. -/
theorem WTo.setImgs0 {u w1 v : World} {B M : Nat} {F : List Nat} {q b i i2 : Value} {m : WorldV} {L : List ImgV} (hb : Below u.heap.size u w1) (hF : ∀ x ∈ F, x < u.heap.size) (hA : Apart F w1 v) (hG : ∀ x ∈ foot M q b i, x ∈ F ∨ w1.heap.size ≤ x) (h : WCells v B M q b i m) (hB : B ≤ u.heap.size)
    (hq : OwnR w1 u.heap.size 58 3 i2 L.length (L.flatMap ImgV.cells)) : WTo u (v.setCell ⟨M, 3, none⟩ i2) B M F { m with images := L } := by
  have hq2 : OwnR v u.heap.size 58 3 i2 L.length (L.flatMap ImgV.cells) := own_same hq (fun g e => by
    obtain ⟨h1, h2, _⟩ := own_type hq e
    exact hA.block g h2 (fun k => absurd (hF g k) (by omega)))
  obtain ⟨k1, k2⟩ := h.setImgs0 (OwnR.mono hq2 hB)
  refine ⟨_, k1, (Apart.of_below hb).trans (hA.trans2 k2 hG), fun x hx => ?_⟩
  have hs := hb.size
  rcases foot_mem.1 hx with rfl | e | e | e
  · exact (hG _ (foot_mem.2 (.inl rfl))).imp id (fun k => Nat.le_trans hs k)
  · exact (hG _ (foot_mem.2 (.inr (.inl e)))).imp id (fun k => Nat.le_trans hs k)
  · exact (hG _ (foot_mem.2 (.inr (.inr (.inl e))))).imp id (fun k => Nat.le_trans hs k)
  · exact .inr (own_type hq e).1
theorem may_ok {L : List ContV} {s : ByteArray} {what : Int} (hri : RisesC L) (h : mayC L s what = 0) : ∃ x, L[placeC L s]? = some x ∧ fndC L s = x ∧ thereC L s = true ∧ mayP L s what = (placeC L s : Int) ∧ toS x.state what ≠ 0 := by
  have h0 := h
  unfold mayC at h
  cases hth : thereC L s with
  | false => rw [hth] at h; simp at h
  | true =>
    obtain ⟨x, hx, he⟩ := thereC_at hri hth
    have hf := fndC_at hth hx
    refine ⟨x, hx, hf, rfl, ?_, fun hc => ?_⟩
    · unfold mayP; rw [if_pos h]
    · rw [hth, hf, if_pos rfl, if_pos hc] at h; exact absurd h (by decide)
def askC (m : WorldV) (s : ByteArray) (what : Int) : Int := if mayC m.boxes s what = 0 then (if what = 1 then 7 else 0) else mayC m.boxes s what
def askB (m : WorldV) (s : ByteArray) (what : Int) : Bool := if askC m s what = 0 then takeB m.outs else false
def askW (m : WorldV) (s : ByteArray) (what round : Int) : WorldV := if askC m s what = 0 then { m.took with boxes := settleC m.boxes (placeC m.boxes s) (fndC m.boxes s) what (takeB m.outs) round m.retries } else m
def pullV (m : WorldV) (nm : ByteArray) : Bool := thereB m.images nm || takeB m.outs
def pullB (m : WorldV) (s nm : ByteArray) : Bool := if mayC m.boxes s 1 = 0 then pullV m nm else false
def pullN (m : WorldV) (s nm : ByteArray) : Bool := if mayC m.boxes s 1 = 0 then (pullV m nm && !thereB m.images nm) else false
def pullW (m : WorldV) (s nm : ByteArray) (size round : Int) : WorldV := if mayC m.boxes s 1 = 0 then
    { retries := m.retries, outs := if thereB m.images nm then m.outs else m.outs.tail, boxes := settleC m.boxes (placeC m.boxes s) (fndC m.boxes s) 1 (pullV m nm) round m.retries, images := if pullV m nm then putI m.images nm size round else m.images } else m
def dropC (m : WorldV) (nm : ByteArray) : Int := if thereB m.images nm then 0 else 4
def dropB (m : WorldV) (nm : ByteArray) : Bool := if thereB m.images nm then takeB m.outs else false
def dropW (m : WorldV) (nm : ByteArray) : WorldV := if thereB m.images nm then { m.took with images := if takeB m.outs then dropI m.images nm else m.images } else m
def touchW (m : WorldV) (U : List ByteArray) (round : Int) : WorldV := { m with images := touchI m.images U round }
set_option maxRecDepth 100000 in
set_option maxHeartbeats 16000000 in
theorem wd_Ask (B M : Nat) (F : List Nat) (m : WorldV) (s : ByteArray) (what round : Int) (w : World) (hW : WAt w B M F m) (hri : RisesC m.boxes) (hn : m.boxes.length ≤ 100000) (hok : ∀ x ∈ m.boxes, x.ok) (hwhat : InI what) :
    Calls Try.prog 26 #[.pointer (some ⟨M, 0, none⟩), .string s, .int .i64 what, .int .i64 round] w fun e w' => e = .returned (.tuple #[.bool (askB m s what), .int .i64 (askC m s what)]) ∧ WTo w w' B M F (askW m s what round) := by
  have HW := Lib.hid hW
  have hw : Below w.heap.size w w := Below.refl _ _
  have hbel := hw
  have CM := Lib.hid (fun u (hu : Below w.heap.size w u) => wd_may B M F m s what u (HW.out.later hu) hri hn hok hwhat)
  have CT := Lib.hid (fun u (hu : Below w.heap.size w u) => wd_take B M F m u (HW.out.later hu))
  obtain ⟨well, hwl⟩ : ∃ t, takeB m.outs = t := ⟨_, rfl⟩
  rw [hwl] at CT
  have HWL := Lib.hid hwl
  clear hwl
  by_cases h0 : mayC m.boxes s what = 0
  · obtain ⟨x, hx, hf, ht, hp, hs⟩ := may_ok hri h0
    obtain ⟨p, hpp⟩ : ∃ p, placeC m.boxes s = p := ⟨_, rfl⟩
    rw [hpp] at hx hp
    rw [h0, hp] at CM
    have HR := Lib.hid (fun q => show askW m s what round = { m.took with boxes := settleC m.boxes p x what well round m.retries } by unfold askW; rw [hpp, hf, HWL.out, if_pos q])
    have CS := Lib.hid (fun G u (h : WAt u B M G m.took) => wd_settle B M G m.took p x what well round u h hx hok hn hwhat)
    have HC9 := Lib.hid (show askC m s what = if what = 1 then 7 else 0 by unfold askC; rw [if_pos h0])
    clear hx hf ht hp hs hpp h0 hW
    by_cases h1 : what = 1
    · have hq1 : (what == 1) = true := by rw [h1]; rfl
      have HE := Lib.hid (show askC m s what = 7 ∧ askB m s what = false ∧ askW m s what round = m by have h := HC9.out; rw [if_pos h1] at h; refine ⟨h, ?_, ?_⟩ <;> (first | unfold askB | unfold askW) <;> rw [h] <;> rfl)
      clear h1
      go_enter Try.func26, Try.ntmps26
      go_wp2_with (go_at_call 69; (with_reducible refine (CM.out _ hbel).mono ?_); rintro e w1 ⟨rfl, hb_⟩; have hbz := belStep hbel hb_; clear hbel; have hbel := hbz; clear hbz hb_)
      go_ret2
      exact ⟨by rw [HE.out.1, HE.out.2.1]; rfl, by rw [HE.out.2.2]; exact WTo.refl HW.out hbel⟩
    · have hq1 : (what == 1) = false := by rw [beq_eq_false_iff_ne]; exact h1
      have HE := Lib.hid (show askC m s what = 0 ∧ askB m s what = well ∧ askW m s what round = _ by have h := HC9.out; rw [if_neg h1] at h; refine ⟨h, ?_, HR.out h⟩; unfold askB; rw [if_pos h, HWL.out])
      clear h1
      go_enter Try.func26, Try.ntmps26
      go_wp2_with (first | (go_at_call 69; (with_reducible refine (CM.out _ hbel).mono ?_); rintro e w1 ⟨rfl, hb_⟩; have hbz := belStep hbel hb_; clear hbel; have hbel := hbz; clear hbz hb_) | (go_at_call 70; (with_reducible refine (CT.out _ hbel).mono ?_); rintro e w2 ⟨rfl, hT⟩; have HB1 := Lib.hid hbel; obtain ⟨G, hW2, hA2, hG2⟩ := hT; have HW2 := Lib.hid hW2; have HA2 := Lib.hid hA2; have HG2 := Lib.hid hG2; clear hW2 hA2 hG2) | (go_at_call 71; (with_reducible refine (CS.out G _ HW2.out).mono ?_); rintro e w3 ⟨rfl, hS⟩))
      go_ret2
      exact ⟨by rw [HE.out.1, HE.out.2.1]; rfl, by rw [HE.out.2.2]; exact WTo.pre HB1.out (WTo.andThen HA2.out HG2.out hS)⟩
  · have HE := Lib.hid (show askC m s what = mayC m.boxes s what ∧ askB m s what = false ∧ askW m s what round = m by have h : askC m s what = mayC m.boxes s what := (by unfold askC; rw [if_neg h0]); refine ⟨h, ?_, ?_⟩ <;> (first | unfold askB | unfold askW) <;> rw [h, if_neg h0])
    obtain ⟨c, hc⟩ : ∃ c, mayC m.boxes s what = c := ⟨_, rfl⟩
    rw [hc] at CM h0 HE
    have hc0 : (c == 0) = false := by rw [beq_eq_false_iff_ne]; exact h0
    have hc1 : (c != 0) = true := by rw [bne, hc0]; rfl
    clear hc h0 hW
    generalize mayP m.boxes s what = pz at *
    go_enter Try.func26, Try.ntmps26
    go_wp2_with (go_at_call 69; (with_reducible refine (CM.out _ hbel).mono ?_); rintro e w1 ⟨rfl, hb_⟩; have hbz := belStep hbel hb_; clear hbel; have hbel := hbz; clear hbz hb_)
    go_ret2
    exact ⟨by rw [HE.out.1, HE.out.2.1]; rfl, by rw [HE.out.2.2]; exact WTo.refl HW.out hbel⟩
set_option maxRecDepth 100000 in
set_option maxHeartbeats 16000000 in
theorem wd_Drop (B M : Nat) (F : List Nat) (m : WorldV) (nm : ByteArray) (w : World) (hW : WAt w B M F m) (hrj : Rises m.images) (hnj : m.images.length ≤ 100000) :
    Calls Try.prog 27 #[.pointer (some ⟨M, 0, none⟩), .string nm] w fun e w' => e = .returned (.tuple #[.bool (dropB m nm), .int .i64 (dropC m nm)]) ∧ WTo w w' B M F (dropW m nm) := by
  have HW := Lib.hid hW
  have HFL := Lib.hid (fun x hx => (hW.foot_lt x hx).2)
  obtain ⟨q, b, i, rfl, hC⟩ := hW
  obtain ⟨qa, qc, hq, hqr⟩ := hC.wait.row
  obtain ⟨ba, bc, hb, hbr⟩ := rowR_of_own hC.cont
  obtain ⟨ia, ic, hi, hir⟩ := rowR_of_own hC.imgs
  subst hq hb hi
  have m0 := keep (hC.blk.cell (j := 0) rfl)
  have m1 := keep (hC.blk.cell (j := 1) rfl)
  have m2 := keep (hC.blk.cell (j := 2) rfl)
  have m3 := keep (hC.blk.cell (j := 3) rfl)
  have HC := Lib.hid hC
  have hw : Below w.heap.size w w := Below.refl _ _
  have hbel := hw
  have CT := Lib.hid (fun u (hu : Below w.heap.size w u) => wd_take B M _ m u (HC.out.later hu).at)
  have CD := Lib.hid (fun u (hu : Below w.heap.size w u) => im_Drop ia m.images.length ic m.images nm u rfl (hir.later hu) hrj hnj)
  have HLT := Lib.hid hC.lt
  obtain ⟨well, hwl⟩ : ∃ t, takeB m.outs = t := ⟨_, rfl⟩
  rw [hwl] at CT
  have HWL := Lib.hid hwl
  clear hwl hC hqr hbr hir
  obtain ⟨D, hD⟩ : ∃ D, dropI m.images nm = D := ⟨_, rfl⟩
  rw [hD] at CD
  have HD := Lib.hid hD
  clear hD
  obtain ⟨th, hth⟩ : ∃ t, thereB m.images nm = t := ⟨_, rfl⟩
  rw [hth] at CD
  have HTH := Lib.hid hth
  clear hth
  cases th with
  | false =>
    have HE := Lib.hid (show dropC m nm = 4 ∧ dropB m nm = false ∧ dropW m nm = m by unfold dropC dropB dropW; rw [HTH.out]; exact ⟨rfl, rfl, rfl⟩)
    go_enter Try.func27, Try.ntmps27
    go_wp2_with (go_at_call 72; (with_reducible refine (CD.out _ hbel).mono ?_); rintro e w1 ⟨v1, rfl, ho1, hb1⟩; have HO1 := Lib.hid (OwnR.mono ho1 hbel.size); obtain ⟨a9, c9, e9, _⟩ := rowR_of_own ho1; have hbz := belStep hbel hb1; clear hbel ho1; have hbel := hbz; clear hbz hb1; generalize D.length = N1 at e9; subst e9)
    go_ret2
    exact ⟨by rw [HE.out.1, HE.out.2.1]; rfl, by rw [HE.out.2.2]; exact WTo.refl HC.out.at hbel⟩
  | true =>
    cases well with
    | false =>
      have HE := Lib.hid (show dropC m nm = 0 ∧ dropB m nm = false ∧ dropW m nm = m.took by unfold dropC dropB dropW; rw [HTH.out, HWL.out]; exact ⟨rfl, rfl, rfl⟩)
      go_enter Try.func27, Try.ntmps27
      go_wp2_with (first | (go_at_call 72; (with_reducible refine (CD.out _ hbel).mono ?_); rintro e w1 ⟨v1, rfl, ho1, hb1⟩; have HO1 := Lib.hid (OwnR.mono ho1 hbel.size); obtain ⟨a9, c9, e9, _⟩ := rowR_of_own ho1; have hbz := belStep hbel hb1; clear hbel ho1; have hbel := hbz; clear hbz hb1; generalize D.length = N1 at e9; subst e9) | (go_at_call 70; (with_reducible refine (CT.out _ hbel).mono ?_); rintro e w2 ⟨rfl, hT⟩; have HB1 := Lib.hid hbel; obtain ⟨G, hW2, hA2, hG2⟩ := hT; obtain ⟨q2, b2, i2, rfl, hC2⟩ := hW2; have d3 := hC2.blk.cell (j := 3) rfl; have df := hC2.blk.frozen; have HC2 := Lib.hid hC2; have HA2 := Lib.hid hA2; have HG2 := Lib.hid hG2; clear hC2 hA2 hG2))
      go_ret2
      exact ⟨by rw [HE.out.1, HE.out.2.1]; rfl, by rw [HE.out.2.2]; exact WTo.pre HB1.out ⟨_, HC2.out.at, HA2.out, HG2.out⟩⟩
    | true =>
      have HE := Lib.hid (show dropC m nm = 0 ∧ dropB m nm = true ∧ dropW m nm = { m.took with images := D } by unfold dropC dropB dropW; rw [HTH.out, HWL.out, HD.out]; exact ⟨rfl, rfl, rfl⟩)
      go_enter Try.func27, Try.ntmps27
      go_wp2_with (first | (go_at_call 72; (with_reducible refine (CD.out _ hbel).mono ?_); rintro e w1 ⟨v1, rfl, ho1, hb1⟩; have HO1 := Lib.hid (OwnR.mono ho1 hbel.size); obtain ⟨a9, c9, e9, _⟩ := rowR_of_own ho1; have hbz := belStep hbel hb1; clear hbel ho1; have hbel := hbz; clear hbz hb1; generalize D.length = N1 at e9; subst e9) | (go_at_call 70; (with_reducible refine (CT.out _ hbel).mono ?_); rintro e w2 ⟨rfl, hT⟩; have HB1 := Lib.hid hbel; obtain ⟨G, hW2, hA2, hG2⟩ := hT; obtain ⟨q2, b2, i2, rfl, hC2⟩ := hW2; have d3 := hC2.blk.cell (j := 3) rfl; have df := hC2.blk.frozen; have HC2 := Lib.hid hC2; have HA2 := Lib.hid hA2; have HG2 := Lib.hid hG2; clear hC2 hA2 hG2))
      go_ret2
      exact ⟨by rw [HE.out.1, HE.out.2.1]; rfl, by rw [HE.out.2.2]; exact WTo.setImgs0 HB1.out HFL.out HA2.out HG2.out HC2.out HLT.out HO1.out⟩
set_option maxRecDepth 100000 in
set_option maxHeartbeats 16000000 in
theorem wd_Touch (B M : Nat) (F : List Nat) (m : WorldV) (d : Option Addr) (ul uc : Nat) (U : List ByteArray) (round : Int) (w : World) (hW : WAt w B M F m) (hrj : Rises m.images) (hnj : m.images.length ≤ 100000) (hu9 : U.length = ul) (hRU : Row w d ul uc 1 (U.map Value.string)) :
    Calls Try.prog 63 #[.pointer (some ⟨M, 0, none⟩), .slice d ul uc, .int .i64 round] w fun e w' => e = .returned (.tuple #[]) ∧ WTo w w' B M F (touchW m U round) := by
  obtain ⟨q, b, i, rfl, hC⟩ := hW
  obtain ⟨qa, qc, hq, hqr⟩ := hC.wait.row
  obtain ⟨ba, bc, hb, hbr⟩ := rowR_of_own hC.cont
  obtain ⟨ia, ic, hi, hir⟩ := rowR_of_own hC.imgs
  subst hq hb hi
  have m0 := keep (hC.blk.cell (j := 0) rfl)
  have m1 := keep (hC.blk.cell (j := 1) rfl)
  have m2 := keep (hC.blk.cell (j := 2) rfl)
  have m3 := keep (hC.blk.cell (j := 3) rfl)
  have HC := Lib.hid hC
  have hw : Below w.heap.size w w := Below.refl _ _
  have hbel := hw
  have CT := Lib.hid (fun u (hu : Below w.heap.size w u) => im_Touch ia m.images.length ic m.images d ul uc U round u rfl (hir.later hu) hrj hu9 (hRU.later hu) hnj)
  have HLT := Lib.hid hC.lt
  clear hC hqr hbr hir hRU hu9
  obtain ⟨D, hD⟩ : ∃ D, touchI m.images U round = D := ⟨_, rfl⟩
  rw [hD] at CT
  have HD := Lib.hid (show touchW m U round = { m with images := D } by unfold touchW; rw [hD])
  clear hD
  go_enter Try.func63, Try.ntmps63
  go_wp2_with (go_at_call 100; (with_reducible refine (CT.out _ hbel).mono ?_); rintro e w1 ⟨v1, rfl, ho1, hb1⟩; obtain ⟨a9, c9, e9, _⟩ := rowR_of_own ho1; have hC1 := HC.out.later hbel; have hM9 := hC1.blk.later hb1; have d3 := hM9.cell (j := 3) rfl; have df := hM9.frozen; have HF := Lib.hid (hC1.setImgs ho1 (Nat.le_trans HLT.out hbel.size) hb1); have HB1 := Lib.hid hbel; clear hC1 hM9 ho1 hb1; generalize D.length = N1 at e9; subst e9)
  go_end0
  exact ⟨rfl, by rw [HD.out]; exact WTo.pre HB1.out HF.out⟩
end Go.Proofs.Ytcnjcldfbidkmaa
