
/- Stage 16: New, Box, Containers, Images, Waiting, take, Feed, may: contracts. -/
import Derived.Test.YtcnjcldfbidkmaaWd2
import Derived.Test.YtcnjcldfbidkmaaInsW
import Derived.Test.YtcnjcldfbidkmaaBoxM
namespace Go.Proofs.Ytcnjcldfbidkmaa
open Go.RowKit Go.Sort
set_option linter.unusedVariables false
set_option linter.unusedSimpArgs false
theorem WTo.pre {u x v : World} {B M : Nat} {F : List Nat} {m : WorldV} (hb : Below u.heap.size u x) (h : WTo x v B M F m) : WTo u v B M F m := by
  obtain ⟨G, h1, h2, h3⟩ := h
  exact ⟨G, h1, (Apart.of_below hb).trans h2, fun b hb2 => (h3 b hb2).imp id (fun q => Nat.le_trans hb.size q)⟩
theorem WCells.at {u : World} {B M : Nat} {q b i : Value} {m : WorldV} (h : WCells u B M q b i m) : WAt u B M (foot M q b i) m := ⟨q, b, i, rfl, h⟩
theorem WCells.lt {u : World} {B M : Nat} {q b i : Value} {m : WorldV} (h : WCells u B M q b i m) : B ≤ u.heap.size := by have := h.base; have := h.blk.lt; omega
/-- The containers' row is written in its place. -/
theorem WCells.contIn {u v : World} {B M : Nat} {q b i : Value} {m : WorldV} {L : List ContV} (h : WCells u B M q b i m) (hq : OwnR v B 44 4 b L.length (L.flatMap ContV.cells)) (hg : u.grownBy v b.ownBlock) :
    WCells v B M q b i { m with boxes := L } ∧ Apart (foot M q b i) u v := by
  obtain ⟨n1, n2, n3⟩ := h.ne_M
  obtain ⟨a1, a2⟩ := h.apart
  refine ⟨⟨h.base, h.blk.grown hg n2, ?_, hq, ?_⟩, Apart.of_grown hg (fun g e => foot_mem.2 (.inr (.inr (.inl e))))⟩
  · exact h.wait.same (fun g e => hg.block g (h.wait.lt e).2.1 (fun k => (a1 g e).1 k.symm))
  · exact own_same h.imgs (fun g e => hg.block g (own_type h.imgs e).2.1 (fun k => a2 g k.symm e))
theorem WTo.contIn {u v : World} {B M : Nat} {q b i : Value} {m : WorldV} {L : List ContV} (h : WCells u B M q b i m) (hq : OwnR v B 44 4 b L.length (L.flatMap ContV.cells)) (hg : u.grownBy v b.ownBlock) :
    WTo u v B M (foot M q b i) { m with boxes := L } := ⟨_, (h.contIn hq hg).1.at, (h.contIn hq hg).2, fun _ k => .inl k⟩
theorem grownBy_refl (w : World) (r : Option Nat) : w.grownBy w r := ⟨rfl, rfl, rfl, Nat.le_refl _, fun _ _ _ => rfl⟩
def takeB (l : List Bool) : Bool := l.headD true
def WorldV.took (m : WorldV) : WorldV := { m with outs := m.outs.tail }
def feedE (m : WorldV) (V : List Bool) : Int := if 4096 < m.outs.length + V.length then 6 else 0
def WorldV.fed (m : WorldV) (V : List Bool) : WorldV := if 4096 < m.outs.length + V.length then m else { m with outs := m.outs ++ V }
def zeroC : ContV := ⟨⟨#[]⟩, 0, 0, 0⟩
/-- The container of that name; or nothing. -/
def fndC (L : List ContV) (s : ByteArray) : ContV := if thereC L s then (L[placeC L s]?).getD zeroC else zeroC
theorem fndC_no {L : List ContV} {s : ByteArray} (h : thereC L s = false) : fndC L s = zeroC := by unfold fndC; rw [h]; rfl
theorem fndC_at {L : List ContV} {s : ByteArray} {x : ContV} (h : thereC L s = true) (hx : L[placeC L s]? = some x) : fndC L s = x := by unfold fndC; rw [h, if_pos rfl, hx]; rfl
def mayP (L : List ContV) (s : ByteArray) (what : Int) : Int := if (if thereC L s then (if toS (fndC L s).state what = 0 then 7 else 0) else 4 : Int) = 0 then (placeC L s : Int) else 0
def mayC (L : List ContV) (s : ByteArray) (what : Int) : Int := if thereC L s then (if toS (fndC L s).state what = 0 then 7 else 0) else 4
def createC (L : List ContV) (s : ByteArray) (round : Int) : List ContV := if thereC L s then L else L.take (placeC L s) ++ ⟨s, 1, 0, round⟩ :: L.drop (placeC L s)
def newC (x : ContV) (what : Int) (well : Bool) (round r : Int) : ContV := ⟨x.id, doS x.state x.tries what well r, doN x.state x.tries what well r, if well then round else x.last⟩
def settleC (L : List ContV) (p : Nat) (x : ContV) (what : Int) (well : Bool) (round r : Int) : List ContV :=
  if (newC x what well round r).state = 5 then L.take p ++ L.drop (p + 1) else L.set p (newC x what well round r)
set_option maxRecDepth 100000 in
set_option maxHeartbeats 16000000 in
theorem wd_New (r : Int) (w : World) :
    Calls Try.prog 18 #[.int .i64 r] w fun e w' => e = .returned (.pointer (some ⟨w.heap.size, 0, none⟩)) ∧ WAt w' w.heap.size w.heap.size [w.heap.size] ⟨r, [], [], []⟩ ∧ Below w.heap.size w w' := by
  have hX := Blk.new w [.slice none 0 0, .int .i64 r, .slice none 0 0, .slice none 0 0] 53
  have hb : Below w.heap.size w (w.alloc (.cells #[.slice none 0 0, .int .i64 r, .slice none 0 0, .slice none 0 0] 53)) := belAlloc (Below.refl _ _) _
  go_enter Try.func18, Try.ntmps18
  go_wp2
  go_ret
  exact ⟨rfl, ⟨_, _, _, rfl, ⟨Nat.le_refl _, hX, .inl ⟨rfl, rfl⟩, OwnR.nil _ _ _ _, OwnR.nil _ _ _ _⟩⟩, hb⟩
set_option maxRecDepth 100000 in
set_option maxHeartbeats 16000000 in
theorem wd_Containers (B M : Nat) (F : List Nat) (m : WorldV) (w : World) (hW : WAt w B M F m) (hn : m.boxes.length ≤ 100000) :
    Calls Try.prog 23 #[.pointer (some ⟨M, 0, none⟩)] w fun e w' => ∃ v, e = .returned v ∧ OwnR w' w.heap.size 44 4 v m.boxes.length (m.boxes.flatMap ContV.cells) ∧ Below w.heap.size w w' := by
  obtain ⟨q, b, i, rfl, hC⟩ := hW
  obtain ⟨qa, qc, hq, hqr⟩ := hC.wait.row
  obtain ⟨ba, bc, hb, hbr⟩ := rowR_of_own hC.cont
  obtain ⟨ia, ic, hi, hir⟩ := rowR_of_own hC.imgs
  subst hq hb hi
  have m0 := keep (hC.blk.cell (j := 0) rfl)
  have m1 := keep (hC.blk.cell (j := 1) rfl)
  have m2 := keep (hC.blk.cell (j := 2) rfl)
  have m3 := keep (hC.blk.cell (j := 3) rfl)
  have HC := Lib.hid hC
  have hw : Below w.heap.size w w := Below.refl _ _
  have hbel := hw
  have CC := Lib.hid (fun u (hu : Below w.heap.size w u) => cln_allCtr ba m.boxes.length bc m.boxes u rfl (hbr.later hu) hn)
  clear hC hqr hbr hir
  go_enter Try.func23, Try.ntmps23
  go_wp2_with (go_at_call 67; (with_reducible refine (CC.out _ hbel).mono ?_); rintro e w1 ⟨v1, rfl, ho_, hb_⟩)
  go_ret
  exact ⟨_, rfl, OwnR.mono ho_ hbel.size, belStep hw (belStep hbel hb_)⟩
set_option maxRecDepth 100000 in
set_option maxHeartbeats 16000000 in
theorem wd_Images (B M : Nat) (F : List Nat) (m : WorldV) (w : World) (hW : WAt w B M F m) (hn : m.images.length ≤ 100000) :
    Calls Try.prog 24 #[.pointer (some ⟨M, 0, none⟩)] w fun e w' => ∃ v, e = .returned v ∧ OwnR w' w.heap.size 58 3 v m.images.length (m.images.flatMap ImgV.cells) ∧ Below w.heap.size w w' := by
  obtain ⟨q, b, i, rfl, hC⟩ := hW
  obtain ⟨qa, qc, hq, hqr⟩ := hC.wait.row
  obtain ⟨ba, bc, hb, hbr⟩ := rowR_of_own hC.cont
  obtain ⟨ia, ic, hi, hir⟩ := rowR_of_own hC.imgs
  subst hq hb hi
  have m0 := keep (hC.blk.cell (j := 0) rfl)
  have m1 := keep (hC.blk.cell (j := 1) rfl)
  have m2 := keep (hC.blk.cell (j := 2) rfl)
  have m3 := keep (hC.blk.cell (j := 3) rfl)
  have HC := Lib.hid hC
  have hw : Below w.heap.size w w := Below.refl _ _
  have hbel := hw
  have CC := Lib.hid (fun u (hu : Below w.heap.size w u) => cln_allImg ia m.images.length ic m.images u rfl (hir.later hu) hn)
  clear hC hqr hbr hir
  go_enter Try.func24, Try.ntmps24
  go_wp2_with (go_at_call 68; (with_reducible refine (CC.out _ hbel).mono ?_); rintro e w1 ⟨v1, rfl, ho_, hb_⟩)
  go_ret
  exact ⟨_, rfl, OwnR.mono ho_ hbel.size, belStep hw (belStep hbel hb_)⟩
set_option maxRecDepth 100000 in
set_option maxHeartbeats 16000000 in
theorem wd_Waiting (B M : Nat) (F : List Nat) (m : WorldV) (w : World) (hW : WAt w B M F m) (hn : m.outs.length ≤ 100000) :
    Calls Try.prog 29 #[.pointer (some ⟨M, 0, none⟩)] w fun e w' => ∃ v, e = .returned v ∧ OwnR w' w.heap.size 4 1 v m.outs.length (m.outs.map Value.bool) ∧ Below w.heap.size w w' := by
  obtain ⟨q, b, i, rfl, hC⟩ := hW
  obtain ⟨qa, qc, hq, hqr⟩ := hC.wait.row
  obtain ⟨ba, bc, hb, hbr⟩ := rowR_of_own hC.cont
  obtain ⟨ia, ic, hi, hir⟩ := rowR_of_own hC.imgs
  subst hq hb hi
  have m0 := keep (hC.blk.cell (j := 0) rfl)
  have m1 := keep (hC.blk.cell (j := 1) rfl)
  have m2 := keep (hC.blk.cell (j := 2) rfl)
  have m3 := keep (hC.blk.cell (j := 3) rfl)
  have HC := Lib.hid hC
  have hw : Below w.heap.size w w := Below.refl _ _
  have hbel := hw
  have CC := Lib.hid (fun u (hu : Below w.heap.size w u) => cln_allBoo qa m.outs.length qc (m.outs.map BoolW.mk) u (by simp) ((boolW_map m.outs).symm ▸ hqr.later hu) hn)
  clear hC hqr hbr hir
  go_enter Try.func29, Try.ntmps29
  go_wp2_with (go_at_call 73; (with_reducible refine (CC.out _ hbel).mono ?_); rintro e w1 ⟨v1, rfl, ho_, hb_⟩)
  go_ret
  exact ⟨_, rfl, by have h := OwnR.mono ho_ hbel.size; rwa [boolW_map] at h, belStep hw (belStep hbel hb_)⟩
theorem wdbox_ret (W : World) (R : Nat) (tm : Array Value) (s t : Int) (q : Bool) (Q : Ending → World → Prop) (h2 : tm.getD 4 undef = .pointer (some ⟨R, 0, none⟩)) (h3 : tm.getD 5 undef = .bool q) (hb : Blk W R [.int .i64 s, .int .i64 t] 38) (hR : Q (.returned (.tuple #[.agg #[.int .i64 s, .int .i64 t], .bool q])) W) :
    bodyPost Try.prog Try.f20 Q Exit.ret { tmps := tm, defers := [] } W := by
  have z0 := hb.cell (j := 0) rfl
  have z1 := hb.cell (j := 1) rfl
  refine bodyPost_ret (v := .tuple #[.agg #[.int .i64 s, .int .i64 t], .bool q]) ?_ rfl hR
  simp only [Array.getD_eq_getD_getElem?] at h2 h3
  simp [results, Try.results20, go_sem, h2, h3, z0, z1]
set_option maxRecDepth 100000 in
set_option maxHeartbeats 16000000 in
theorem wd_Box (B M : Nat) (F : List Nat) (m : WorldV) (s : ByteArray) (w : World) (hW : WAt w B M F m) (hri : RisesC m.boxes) (hn : m.boxes.length ≤ 100000) :
    Calls Try.prog 20 #[.pointer (some ⟨M, 0, none⟩), .string s] w fun e w' => e = .returned (.tuple #[.agg #[.int .i64 (fndC m.boxes s).state, .int .i64 (fndC m.boxes s).tries], .bool (thereC m.boxes s)]) ∧ Below w.heap.size w w' := by
  obtain ⟨q, b, i, rfl, hC⟩ := hW
  obtain ⟨qa, qc, hq, hqr⟩ := hC.wait.row
  obtain ⟨ba, bc, hb, hbr⟩ := rowR_of_own hC.cont
  obtain ⟨ia, ic, hi, hir⟩ := rowR_of_own hC.imgs
  subst hq hb hi
  have m0 := keep (hC.blk.cell (j := 0) rfl)
  have m1 := keep (hC.blk.cell (j := 1) rfl)
  have m2 := keep (hC.blk.cell (j := 2) rfl)
  have m3 := keep (hC.blk.cell (j := 3) rfl)
  have HC := Lib.hid hC
  have hw : Below w.heap.size w w := Below.refl _ _
  have hbel := hw
  have CP := Lib.hid (fun u (hu : Below w.heap.size w u) => wd_place B M _ m s u (HC.out.later hu).at hri hn)
  have HBR := Lib.hid hbr
  have HRI := Lib.hid hri
  clear hC hqr hbr hir hri
  obtain ⟨th, hth⟩ : ∃ t, thereC m.boxes s = t := ⟨_, rfl⟩
  obtain ⟨p, hp⟩ : ∃ p, placeC m.boxes s = p := ⟨_, rfl⟩
  rw [hth, hp] at CP
  rw [hth]
  have HTH := Lib.hid hth
  have HPL := Lib.hid hp
  clear hth hp
  have hZ0 : Blk (w.alloc (.cells #[.int .i64 0, .int .i64 0] 38)) w.heap.size [.int .i64 0, .int .i64 0] 38 := Blk.new w [.int .i64 0, .int .i64 0] 38
  go_enter Try.func20, Try.ntmps20
  go_upto_region 1 with fail
  have rz0 : (w.alloc (.cells #[.int .i64 0, .int .i64 0] 38)).cell? ⟨w.heap.size, 0, none⟩ = some (.int .i64 0) := by first | (simp; done) | (rw [World.cell?_alloc_at _ _ _ _ (by simp)]; rfl) | (rw [World.cell?_alloc_past _ _ _ (by simp <;> omega), World.cell?_alloc_at _ _ _ _ (by simp)]; rfl) | (rw [World.cell?_alloc_past _ _ _ (by simp <;> omega), World.cell?_alloc_past _ _ _ (by simp <;> omega), World.cell?_alloc_at _ _ _ _ (by simp)]; rfl)
  have rz1 : (w.alloc (.cells #[.int .i64 0, .int .i64 0] 38)).cell? ⟨w.heap.size, 1, none⟩ = some (.int .i64 0) := by first | (simp; done) | (rw [World.cell?_alloc_at _ _ _ _ (by simp)]; rfl) | (rw [World.cell?_alloc_past _ _ _ (by simp <;> omega), World.cell?_alloc_at _ _ _ _ (by simp)]; rfl) | (rw [World.cell?_alloc_past _ _ _ (by simp <;> omega), World.cell?_alloc_past _ _ _ (by simp <;> omega), World.cell?_alloc_at _ _ _ _ (by simp)]; rfl)
  have hb2 := (by repeat (first | exact hbel | refine belAlloc ?_ _ | refine belDrew ?_ | refine belSet ?_ _ _ (by simp)) : Below w.heap.size w (w.alloc (.cells #[.int .i64 0, .int .i64 0] 38)))
  replace m0 := keepOnP m0 hb2
  replace m1 := keepOnP m1 hb2
  replace m2 := keepOnP m2 hb2
  replace m3 := keepOnP m3 hb2
  replace hw := belStep hw hb2
  clear hb2 hbel
  generalize w.alloc (.cells #[.int .i64 0, .int .i64 0] 38) = W1 at *
  replace rz0 := keep rz0
  replace rz1 := keep rz1
  have hbel : Below W1.heap.size W1 W1 := Below.refl _ _
  skip
  have rzf := Blk.keepF hZ0
  have HZ := Lib.hid hZ0
  have HW1 := Lib.hid hw
  clear hw hZ0
  cases th with
  | false =>
    have HRES := Lib.hid (fndC_no HTH.out)
    go_wp2_with (go_at_call 65; (with_reducible refine (CP.out _ (belStep HW1.out hbel)).mono ?_); rintro e w2 ⟨rfl, hb_⟩; have hbz := belStep hbel hb_; clear hbel; have hbel := hbz; clear hbz hb_)
    refine wdbox_ret _ w.heap.size _ 0 0 false _ rfl rfl (((HZ.out.later hbel).set 0 (.int .i64 0)).set 1 (.int .i64 0)) ⟨by rw [HRES.out] <;> rfl, (belSet (belSet (belStep HW1.out hbel) ⟨w.heap.size, 0, none⟩ (.int .i64 0) (Nat.le_refl _)) ⟨w.heap.size, 1, none⟩ (.int .i64 0) (Nat.le_refl _))⟩
  | true =>
    obtain ⟨x, hx, he⟩ := thereC_at HRI.out HTH.out
    have HRES := Lib.hid (fndC_at HTH.out hx)
    rw [HPL.out] at hx
    have hpl := (List.getElem?_eq_some_iff.1 hx).1
    have hpi : (p : Int) < (m.boxes.length : Int) := by omega
    have hp0 : (0 : Int) ≤ (p : Int) := by omega
    obtain ⟨bc, oc, ec, _, hcc⟩ := (HBR.out.later HW1.out).elem ContV.cells_len (by omega) hx
    subst ec
    have c0 := keep (hcc 0 _ rfl)
    have c1 := keep (hcc 1 _ rfl)
    have c2 := keep (hcc 2 _ rfl)
    have c3 := keep (hcc 3 _ rfl)
    rw [Nat.add_zero] at c0
    clear hx he hcc
    go_wp2_with (go_at_call 65; (with_reducible refine (CP.out _ (belStep HW1.out hbel)).mono ?_); rintro e w2 ⟨rfl, hb_⟩; have hbz := belStep hbel hb_; clear hbel; have hbel := hbz; clear hbz hb_)
    refine wdbox_ret _ w.heap.size _ x.state x.tries true _ rfl rfl (((HZ.out.later hbel).set 0 (.int .i64 x.state)).set 1 (.int .i64 x.tries)) ⟨by rw [HRES.out] <;> rfl, (belSet (belSet (belStep HW1.out hbel) ⟨w.heap.size, 0, none⟩ (.int .i64 x.state) (Nat.le_refl _)) ⟨w.heap.size, 1, none⟩ (.int .i64 x.tries) (Nat.le_refl _))⟩
set_option maxRecDepth 100000 in
set_option maxHeartbeats 16000000 in
theorem wd_take (B M : Nat) (F : List Nat) (m : WorldV) (w : World) (hW : WAt w B M F m) :
    Calls Try.prog 70 #[.pointer (some ⟨M, 0, none⟩)] w fun e w' => e = .returned (.bool (takeB m.outs)) ∧ WTo w w' B M F m.took := by
  obtain ⟨r, O, L, I⟩ := m
  obtain ⟨q, b, i, rfl, hC⟩ := hW
  have HC := Lib.hid hC
  have mf := hC.blk.frozen
  have m0 := hC.blk.cell (j := 0) rfl
  have m1 := hC.blk.cell (j := 1) rfl
  have m2 := hC.blk.cell (j := 2) rfl
  have m3 := hC.blk.cell (j := 3) rfl
  dsimp only at m0 m1 ⊢
  cases O with
  | nil =>
    obtain ⟨qa, qc, hq, hqr⟩ := hC.wait.row
    subst hq
    clear hC hqr
    go_enter Try.func70, Try.ntmps70
    go_wp2
    go_ret
    exact ⟨rfl, WTo.refl HC.out.at (Below.refl _ _)⟩
  | cons v l =>
    rcases hC.wait with ⟨_, h0⟩ | ⟨g, off, cap, C, rfl, _⟩
    · cases h0
    obtain ⟨t1, t2, t3, t4, t5, t6⟩ := hC.wait.tail
    have hbdc : cap ≤ 9223372036854775807 := by unfold maxLen at t6; exact t6
    obtain ⟨n, hn⟩ : ∃ n, (v :: l).length = n := ⟨_, rfl⟩
    rw [hn] at m0 t5
    have hn1 : 1 ≤ n := by rw [← hn]; simp
    have hnl : n - 1 = l.length := by rw [← hn]; simp
    have hn0 : ((n : Int) == 0) = false := by rw [beq_eq_false_iff_ne]; omega
    have hni : (0 : Int) < (n : Int) := by omega
    have hnb : (n : Int) ≤ 9223372036854775807 := by omega
    have HNL := Lib.hid hnl
    have T1 := Lib.hid t1
    have T2 := Lib.hid t2
    clear hnl hn t1 t2 t4 t6 hC
    by_cases hc1 : cap = 1
    · subst hc1
      obtain rfl : n = 1 := by omega
      have HF := Lib.hid (HC.out.setWait (q2 := .slice (some ⟨g, off, none⟩) 0 0) (show OwnQ w B (.slice (some ⟨g, off, none⟩) 0 0) l by have h := T2.out rfl; rwa [← HNL.out] at h) (grownBy_refl _ _) (fun _ h => .inl h))
      go_enter Try.func70, Try.ntmps70
      go_wp2
      go_ret
      exact ⟨rfl, HF.out⟩
    · have h1c : (1 : Int) ≤ (cap : Int) := by omega
      have h1n : (1 : Int) ≤ (n : Int) := by omega
      have HF := Lib.hid (HC.out.setWait (q2 := .slice (some ⟨g, off + 1, none⟩) (n - 1) (cap - 1)) (show OwnQ w B (.slice (some ⟨g, off + 1, none⟩) (n - 1) (cap - 1)) l by rw [HNL.out]; exact T1.out hc1) (grownBy_refl _ _) (fun _ h => .inl h))
      go_enter Try.func70, Try.ntmps70
      go_wp2
      go_ret
      exact ⟨rfl, HF.out⟩
set_option maxRecDepth 100000 in
set_option maxHeartbeats 16000000 in
theorem wd_Feed (B M : Nat) (F : List Nat) (m : WorldV) (d : Option Addr) (wl wc : Nat) (V : List Bool) (w : World) (hW : WAt w B M F m) (hv : V.length = wl) (hRV : Row w d wl wc 1 (V.map Value.bool)) (ho : m.outs.length ≤ 4096) (hw9 : wl ≤ 50000) :
    Calls Try.prog 25 #[.pointer (some ⟨M, 0, none⟩), .slice d wl wc] w fun e w' => e = .returned (.int .i64 (feedE m V)) ∧ WTo w w' B M F (m.fed V) := by
  obtain ⟨r, O, L, I⟩ := m
  obtain ⟨q, b, i, rfl, hC⟩ := hW
  obtain ⟨qa, qc, hq, hqr⟩ := hC.wait.row
  subst hq
  have HC := Lib.hid hC
  have mf := hC.blk.frozen
  have m0 := hC.blk.cell (j := 0) rfl
  have m1 := hC.blk.cell (j := 1) rfl
  have m2 := hC.blk.cell (j := 2) rfl
  have m3 := hC.blk.cell (j := 3) rfl
  have HQ := Lib.hid hC.wait
  have hlt := hC.lt
  dsimp only at m0 m1 hqr HQ ⊢
  have hon : O.length ≤ 4096 := ho
  have hbq : O.length ≤ qc ∧ qc ≤ 9223372036854775807 := by obtain ⟨_, h1, h2, _⟩ := hqr; unfold maxLen at h2; exact ⟨h1, h2⟩
  obtain ⟨hbq1, hbq2⟩ := hbq
  have hbv : wl ≤ wc ∧ wc ≤ 9223372036854775807 := by obtain ⟨_, h1, h2, _⟩ := hRV; unfold maxLen at h2; exact ⟨h1, h2⟩
  obtain ⟨hbv1, hbv2⟩ := hbv
  have HRV := Lib.hid hRV
  have HVL := Lib.hid hv
  have hs1 : IntKind.i64.wrap (4096 - (O.length : Int)) = 4096 - (O.length : Int) := IntWalk.i64_in _ (by omega)
  clear hC hqr hRV
  by_cases hf : 4096 < O.length + wl
  · have hd : decide (4096 - (O.length : Int) < (wl : Int)) = true := decide_eq_true (by omega)
    have hdi : 4096 - (O.length : Int) < (wl : Int) := by omega
    have HE := Lib.hid (show feedE ⟨r, O, L, I⟩ V = 6 ∧ WorldV.fed ⟨r, O, L, I⟩ V = ⟨r, O, L, I⟩ by unfold feedE WorldV.fed; rw [HVL.out, if_pos hf, if_pos hf]; exact ⟨rfl, rfl⟩)
    go_enter Try.func25, Try.ntmps25
    go_wp2
    go_ret
    exact ⟨by rw [HE.out.1]; rfl, by rw [HE.out.2]; exact WTo.refl HC.out.at (Below.refl _ _)⟩
  · have hd : decide (4096 - (O.length : Int) < (wl : Int)) = false := decide_eq_false (by omega)
    have hdi : ¬ 4096 - (O.length : Int) < (wl : Int) := by omega
    have HE := Lib.hid (show feedE ⟨r, O, L, I⟩ V = 0 ∧ WorldV.fed ⟨r, O, L, I⟩ V = ⟨r, O ++ V, L, I⟩ by unfold feedE WorldV.fed; rw [HVL.out, if_neg hf, if_neg hf]; exact ⟨rfl, rfl⟩)
    go_enter Try.func25, Try.ntmps25
    go_wp2_with (at_builtin; go_loud (refine wpList_app_q rfl _ _ 27 rfl Try.underlying27 info_boolI B _ O rfl HQ.out d wl wc V rfl HVL.out HRV.out hlt (by omega) ?_); intro v' w1 hq1 hg1 hm1; obtain ⟨qa2, qc2, e2, _⟩ := hq1.row; generalize (O ++ V).length = N2 at e2; subst e2; have hM1 := HC.out.blk.grown hg1 HC.out.ne_M.1; have d0 := hM1.cell (j := 0) rfl; have df := hM1.frozen; have HF := Lib.hid (HC.out.setWait hq1 hg1 hm1); clear hq1 hg1 hm1 hM1)
    go_ret
    exact ⟨by rw [HE.out.1]; rfl, by rw [HE.out.2]; exact HF.out⟩
set_option maxRecDepth 100000 in
set_option maxHeartbeats 16000000 in
theorem wd_may (B M : Nat) (F : List Nat) (m : WorldV) (s : ByteArray) (what : Int) (w : World) (hW : WAt w B M F m) (hri : RisesC m.boxes) (hn : m.boxes.length ≤ 100000) (hok : ∀ x ∈ m.boxes, x.ok) (hwhat : InI what) :
    Calls Try.prog 69 #[.pointer (some ⟨M, 0, none⟩), .string s, .int .i64 what] w fun e w' => e = .returned (.tuple #[.int .i64 (mayP m.boxes s what), .int .i64 (mayC m.boxes s what)]) ∧ Below w.heap.size w w' := by
  obtain ⟨q, b, i, rfl, hC⟩ := hW
  obtain ⟨qa, qc, hq, hqr⟩ := hC.wait.row
  obtain ⟨ba, bc, hb, hbr⟩ := rowR_of_own hC.cont
  obtain ⟨ia, ic, hi, hir⟩ := rowR_of_own hC.imgs
  subst hq hb hi
  have m0 := keep (hC.blk.cell (j := 0) rfl)
  have m1 := keep (hC.blk.cell (j := 1) rfl)
  have m2 := keep (hC.blk.cell (j := 2) rfl)
  have m3 := keep (hC.blk.cell (j := 3) rfl)
  have HC := Lib.hid hC
  have hw : Below w.heap.size w w := Below.refl _ _
  have hbel := hw
  have CP := Lib.hid (fun u (hu : Below w.heap.size w u) => wd_place B M _ m s u (HC.out.later hu).at hri hn)
  have HBR := Lib.hid hbr
  have HRI := Lib.hid hri
  clear hC hqr hbr hir hri
  obtain ⟨th, hth⟩ : ∃ t, thereC m.boxes s = t := ⟨_, rfl⟩
  obtain ⟨p, hp⟩ : ∃ p, placeC m.boxes s = p := ⟨_, rfl⟩
  rw [hth, hp] at CP
  have HTH := Lib.hid hth
  have HPL := Lib.hid hp
  clear hth hp
  cases th with
  | false =>
    have HE := Lib.hid (show mayC m.boxes s what = 4 ∧ mayP m.boxes s what = 0 by unfold mayC mayP; rw [HTH.out]; exact ⟨rfl, rfl⟩)
    go_enter Try.func69, Try.ntmps69
    go_wp2_with (go_at_call 65; (with_reducible refine (CP.out _ hbel).mono ?_); rintro e w2 ⟨rfl, hb_⟩; have hbz := belStep hbel hb_; clear hbel; have hbel := hbz; clear hbz hb_)
    go_ret2
    exact ⟨by rw [HE.out.1, HE.out.2]; rfl, hbel⟩
  | true =>
    obtain ⟨x, hx, he⟩ := thereC_at HRI.out HTH.out
    have hfx := fndC_at HTH.out hx
    rw [HPL.out] at hx
    have hxo := hok x (List.mem_of_getElem? hx)
    have hpl := (List.getElem?_eq_some_iff.1 hx).1
    have hpi : (p : Int) < (m.boxes.length : Int) := by omega
    have hp0 : (0 : Int) ≤ (p : Int) := by omega
    obtain ⟨bc, oc, ec, _, hcc⟩ := (HBR.out).elem ContV.cells_len (by omega) hx
    subst ec
    have c0 := keep (hcc 0 _ rfl)
    have c1 := keep (hcc 1 _ rfl)
    have c2 := keep (hcc 2 _ rfl)
    have c3 := keep (hcc 3 _ rfl)
    rw [Nat.add_zero] at c0
    have CM := Lib.hid (fun u => box_May x.state x.tries what u hxo.2.1 hwhat)
    clear hx he hcc hxo
    by_cases ht : toS x.state what = 0
    · have HE := Lib.hid (show mayC m.boxes s what = 7 ∧ mayP m.boxes s what = 0 by unfold mayC mayP; rw [HTH.out, hfx, if_pos rfl, if_pos ht]; exact ⟨rfl, rfl⟩)
      rw [show (toS x.state what != 0) = false by rw [ht]; rfl] at CM
      clear ht hfx
      go_enter Try.func69, Try.ntmps69
      go_wp2_with (first | (go_at_call 65; (with_reducible refine (CP.out _ hbel).mono ?_); rintro e w2 ⟨rfl, hb_⟩; have hbz := belStep hbel hb_; clear hbel; have hbel := hbz; clear hbz hb_) | (go_at_call 107; (with_reducible refine (CM.out _).mono ?_); rintro e w3 ⟨rfl, hb_⟩; have hbz := belStep hbel hb_; clear hbel; have hbel := hbz; clear hbz hb_))
      go_ret2
      exact ⟨by rw [HE.out.1, HE.out.2]; rfl, hbel⟩
    · have HE := Lib.hid (show mayC m.boxes s what = 0 ∧ mayP m.boxes s what = (p : Int) by unfold mayC mayP; rw [HTH.out, hfx, if_pos rfl, if_neg ht, HPL.out]; exact ⟨rfl, rfl⟩)
      rw [show (toS x.state what != 0) = true by simpa using ht] at CM
      clear ht hfx
      go_enter Try.func69, Try.ntmps69
      go_wp2_with (first | (go_at_call 65; (with_reducible refine (CP.out _ hbel).mono ?_); rintro e w2 ⟨rfl, hb_⟩; have hbz := belStep hbel hb_; clear hbel; have hbel := hbz; clear hbz hb_) | (go_at_call 107; (with_reducible refine (CM.out _).mono ?_); rintro e w3 ⟨rfl, hb_⟩; have hbz := belStep hbel hb_; clear hbel; have hbel := hbz; clear hbz hb_))
      go_ret2
      exact ⟨by rw [HE.out.1, HE.out.2]; rfl, hbel⟩
end Go.Proofs.Ytcnjcldfbidkmaa
