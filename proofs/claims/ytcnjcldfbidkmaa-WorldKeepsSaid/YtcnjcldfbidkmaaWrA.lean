
/- The reference of stage 16: Pull. -/
import Derived.Test.YtcnjcldfbidkmaaWr8
namespace Go.Proofs.Ytcnjcldfbidkmaa
open Go.RowKit Go.Sort
set_option linter.unusedVariables false
set_option linter.unusedSimpArgs false
theorem RIs.rowI {F : List Nat} {u : World} {a b c : Value} {ia : Option Addr} {ni ic : Nat} {m : WorldV} (h : RIs F u (.agg #[a, b, c, .slice ia ni ic]) m) : Row u ia m.images.length ic 3 (m.images.flatMap ImgV.cells) := by
  obtain ⟨_, _, _, _, _, _, e, _, _, h3, _⟩ := h
  simp only [Value.agg.injEq, Array.mk.injEq, List.cons.injEq, Value.slice.injEq, true_and, and_true] at e
  obtain ⟨_, _, _, rfl, _, rfl⟩ := e
  exact h3
theorem setsz4 (u : World) (a1 : Addr) (v1 : Value) (a2 : Addr) (v2 : Value) (a3 : Addr) (v3 : Value) (a4 : Addr) (v4 : Value) : ((((u.setCell a1 v1).setCell a2 v2).setCell a3 v3).setCell a4 v4).heap.size = u.heap.size := by
  have h : ∀ (x : World) a v, (x.setCell a v).heap.size = x.heap.size := fun x a v => by unfold World.setCell; split <;> simp
  rw [h, h, h, h]
theorem r16pull_ret (W : World) (R : Nat) (tm : Array Value) (r : Int) (oa : Option Addr) (on oc : Nat) (ba : Option Addr) (bn bc : Nat) (ia : Option Addr) (inn ic : Nat) (c c2 : Bool) (d : Int) (Q : Ending → World → Prop) (h0 : tm.getD 10 undef = .bool c) (h1 : tm.getD 11 undef = .bool c2) (h2 : tm.getD 12 undef = .pointer (some ⟨R, 0, none⟩)) (h3 : tm.getD 13 undef = .int .i64 d) (hb : Blk W R [.int .i64 r, .slice oa on oc, .slice ba bn bc, .slice ia inn ic] 31) (hR : Q (.returned (.tuple #[.bool c, .bool c2, .agg #[.int .i64 r, .slice oa on oc, .slice ba bn bc, .slice ia inn ic], .int .i64 d])) W) :
    bodyPost Try.prog Try.f61 Q Exit.ret { tmps := tm, defers := [] } W := by
  have z0 := hb.cell (j := 0) rfl
  have z1 := hb.cell (j := 1) rfl
  have z2 := hb.cell (j := 2) rfl
  have z3 := hb.cell (j := 3) rfl
  refine bodyPost_ret (v := .tuple #[.bool c, .bool c2, .agg #[.int .i64 r, .slice oa on oc, .slice ba bn bc, .slice ia inn ic], .int .i64 d]) ?_ rfl hR
  simp only [Array.getD_eq_getD_getElem?] at h0 h1 h2 h3
  simp [results, Try.results61, go_sem, h0, h1, h2, h3, z0, z1, z2, z3]
set_option maxRecDepth 100000 in
set_option maxHeartbeats 64000000 in
theorem r16_Pull (s nm : ByteArray) (size round : Int) (F : List Nat) (v : Value) (m : WorldV) (w : World) (hv : RIs F w v m) (hF : ∀ b ∈ F, b < w.heap.size) (n9 : Nat) (hg : m.Good n9) (hn : n9 ≤ 100000) :
    Calls Try.prog 61 #[v, .string s, .string nm, .int .i64 size, .int .i64 round] w fun e w' => ∃ v', e = .returned (.tuple #[.bool (pullB m s nm), .bool (pullN m s nm), v', .int .i64 (mayC m.boxes s 1)]) ∧ RIs F w' v' (pullW m s nm size round) ∧ Below w.heap.size w w' := by
  have CM := Lib.hid (fun v u (h : RIs F u v m) (hF : ∀ b ∈ F, b < u.heap.size) => r16_may s 1 F v m u h hF hg.rises)
  have HG := Lib.hid hg
  clear hg
  have HFF := Lib.hid hF
  have HV := Lib.hid hv
  clear hF
  obtain ⟨oa, oc, ba, bc, ia, ic, rfl, hO, hL, hI, hN⟩ := hv
  have hbo : m.outs.length ≤ oc ∧ oc ≤ 9223372036854775807 := by obtain ⟨_, h1, h2, _⟩ := hO; unfold maxLen at h2; exact ⟨h1, h2⟩
  obtain ⟨hbo1, hbo2⟩ := hbo
  have hbb : m.boxes.length ≤ bc ∧ bc ≤ 9223372036854775807 := by obtain ⟨_, h1, h2, _⟩ := hL; unfold maxLen at h2; exact ⟨h1, h2⟩
  obtain ⟨hbb1, hbb2⟩ := hbb
  have hbi : m.images.length ≤ ic ∧ ic ≤ 9223372036854775807 := by obtain ⟨_, h1, h2, _⟩ := hI; unfold maxLen at h2; exact ⟨h1, h2⟩
  obtain ⟨hbi1, hbi2⟩ := hbi
  have HRO := Lib.hid hO
  have HRL := Lib.hid hL
  have HRI := Lib.hid hI
  clear hO hL hI hN
  have hw : Below w.heap.size w w := Below.refl _ _
  have hbel := hw
  go_enter Try.func61, Try.ntmps61
  go_upto_region 1 with fail
  have pp0 : ((w.alloc (.cells #[.int .i64 m.retries, .slice oa m.outs.length oc, .slice ba m.boxes.length bc, .slice ia m.images.length ic] 31)).alloc (.cells #[.int .i64 0, .slice none 0 0, .slice none 0 0, .slice none 0 0] 31)).cell? ⟨w.heap.size, 0, none⟩ = some (.int .i64 m.retries) := by first | (simp; done) | (rw [World.cell?_alloc_at _ _ _ _ (by simp)]; rfl) | (rw [World.cell?_alloc_past _ _ _ (by simp <;> omega), World.cell?_alloc_at _ _ _ _ (by simp)]; rfl) | (rw [World.cell?_alloc_past _ _ _ (by simp <;> omega), World.cell?_alloc_past _ _ _ (by simp <;> omega), World.cell?_alloc_at _ _ _ _ (by simp)]; rfl)
  have pp1 : ((w.alloc (.cells #[.int .i64 m.retries, .slice oa m.outs.length oc, .slice ba m.boxes.length bc, .slice ia m.images.length ic] 31)).alloc (.cells #[.int .i64 0, .slice none 0 0, .slice none 0 0, .slice none 0 0] 31)).cell? ⟨w.heap.size, 1, none⟩ = some (.slice oa m.outs.length oc) := by first | (simp; done) | (rw [World.cell?_alloc_at _ _ _ _ (by simp)]; rfl) | (rw [World.cell?_alloc_past _ _ _ (by simp <;> omega), World.cell?_alloc_at _ _ _ _ (by simp)]; rfl) | (rw [World.cell?_alloc_past _ _ _ (by simp <;> omega), World.cell?_alloc_past _ _ _ (by simp <;> omega), World.cell?_alloc_at _ _ _ _ (by simp)]; rfl)
  have pp2 : ((w.alloc (.cells #[.int .i64 m.retries, .slice oa m.outs.length oc, .slice ba m.boxes.length bc, .slice ia m.images.length ic] 31)).alloc (.cells #[.int .i64 0, .slice none 0 0, .slice none 0 0, .slice none 0 0] 31)).cell? ⟨w.heap.size, 2, none⟩ = some (.slice ba m.boxes.length bc) := by first | (simp; done) | (rw [World.cell?_alloc_at _ _ _ _ (by simp)]; rfl) | (rw [World.cell?_alloc_past _ _ _ (by simp <;> omega), World.cell?_alloc_at _ _ _ _ (by simp)]; rfl) | (rw [World.cell?_alloc_past _ _ _ (by simp <;> omega), World.cell?_alloc_past _ _ _ (by simp <;> omega), World.cell?_alloc_at _ _ _ _ (by simp)]; rfl)
  have pp3 : ((w.alloc (.cells #[.int .i64 m.retries, .slice oa m.outs.length oc, .slice ba m.boxes.length bc, .slice ia m.images.length ic] 31)).alloc (.cells #[.int .i64 0, .slice none 0 0, .slice none 0 0, .slice none 0 0] 31)).cell? ⟨w.heap.size, 3, none⟩ = some (.slice ia m.images.length ic) := by first | (simp; done) | (rw [World.cell?_alloc_at _ _ _ _ (by simp)]; rfl) | (rw [World.cell?_alloc_past _ _ _ (by simp <;> omega), World.cell?_alloc_at _ _ _ _ (by simp)]; rfl) | (rw [World.cell?_alloc_past _ _ _ (by simp <;> omega), World.cell?_alloc_past _ _ _ (by simp <;> omega), World.cell?_alloc_at _ _ _ _ (by simp)]; rfl)
  have zz0 : ((w.alloc (.cells #[.int .i64 m.retries, .slice oa m.outs.length oc, .slice ba m.boxes.length bc, .slice ia m.images.length ic] 31)).alloc (.cells #[.int .i64 0, .slice none 0 0, .slice none 0 0, .slice none 0 0] 31)).cell? ⟨w.heap.size + 1, 0, none⟩ = some (.int .i64 0) := by first | (simp; done) | (rw [World.cell?_alloc_at _ _ _ _ (by simp)]; rfl) | (rw [World.cell?_alloc_past _ _ _ (by simp <;> omega), World.cell?_alloc_at _ _ _ _ (by simp)]; rfl) | (rw [World.cell?_alloc_past _ _ _ (by simp <;> omega), World.cell?_alloc_past _ _ _ (by simp <;> omega), World.cell?_alloc_at _ _ _ _ (by simp)]; rfl)
  have zz1 : ((w.alloc (.cells #[.int .i64 m.retries, .slice oa m.outs.length oc, .slice ba m.boxes.length bc, .slice ia m.images.length ic] 31)).alloc (.cells #[.int .i64 0, .slice none 0 0, .slice none 0 0, .slice none 0 0] 31)).cell? ⟨w.heap.size + 1, 1, none⟩ = some (.slice none 0 0) := by first | (simp; done) | (rw [World.cell?_alloc_at _ _ _ _ (by simp)]; rfl) | (rw [World.cell?_alloc_past _ _ _ (by simp <;> omega), World.cell?_alloc_at _ _ _ _ (by simp)]; rfl) | (rw [World.cell?_alloc_past _ _ _ (by simp <;> omega), World.cell?_alloc_past _ _ _ (by simp <;> omega), World.cell?_alloc_at _ _ _ _ (by simp)]; rfl)
  have zz2 : ((w.alloc (.cells #[.int .i64 m.retries, .slice oa m.outs.length oc, .slice ba m.boxes.length bc, .slice ia m.images.length ic] 31)).alloc (.cells #[.int .i64 0, .slice none 0 0, .slice none 0 0, .slice none 0 0] 31)).cell? ⟨w.heap.size + 1, 2, none⟩ = some (.slice none 0 0) := by first | (simp; done) | (rw [World.cell?_alloc_at _ _ _ _ (by simp)]; rfl) | (rw [World.cell?_alloc_past _ _ _ (by simp <;> omega), World.cell?_alloc_at _ _ _ _ (by simp)]; rfl) | (rw [World.cell?_alloc_past _ _ _ (by simp <;> omega), World.cell?_alloc_past _ _ _ (by simp <;> omega), World.cell?_alloc_at _ _ _ _ (by simp)]; rfl)
  have zz3 : ((w.alloc (.cells #[.int .i64 m.retries, .slice oa m.outs.length oc, .slice ba m.boxes.length bc, .slice ia m.images.length ic] 31)).alloc (.cells #[.int .i64 0, .slice none 0 0, .slice none 0 0, .slice none 0 0] 31)).cell? ⟨w.heap.size + 1, 3, none⟩ = some (.slice none 0 0) := by first | (simp; done) | (rw [World.cell?_alloc_at _ _ _ _ (by simp)]; rfl) | (rw [World.cell?_alloc_past _ _ _ (by simp <;> omega), World.cell?_alloc_at _ _ _ _ (by simp)]; rfl) | (rw [World.cell?_alloc_past _ _ _ (by simp <;> omega), World.cell?_alloc_past _ _ _ (by simp <;> omega), World.cell?_alloc_at _ _ _ _ (by simp)]; rfl)
  have hb2 := (by repeat (first | exact hbel | refine belAlloc ?_ _ | refine belDrew ?_ | refine belSet ?_ _ _ (by simp)) : Below w.heap.size w ((w.alloc (.cells #[.int .i64 m.retries, .slice oa m.outs.length oc, .slice ba m.boxes.length bc, .slice ia m.images.length ic] 31)).alloc (.cells #[.int .i64 0, .slice none 0 0, .slice none 0 0, .slice none 0 0] 31)))
  replace hw := belStep hw hb2
  have ppB : Blk ((w.alloc (.cells #[.int .i64 m.retries, .slice oa m.outs.length oc, .slice ba m.boxes.length bc, .slice ia m.images.length ic] 31)).alloc (.cells #[.int .i64 0, .slice none 0 0, .slice none 0 0, .slice none 0 0] 31)) (w.heap.size) [.int .i64 m.retries, .slice oa m.outs.length oc, .slice ba m.boxes.length bc, .slice ia m.images.length ic] 31 := (Blk.at (by simp) : Blk (w.alloc (.cells #[.int .i64 m.retries, .slice oa m.outs.length oc, .slice ba m.boxes.length bc, .slice ia m.images.length ic] 31)) (w.heap.size) [.int .i64 m.retries, .slice oa m.outs.length oc, .slice ba m.boxes.length bc, .slice ia m.images.length ic] 31).later (by repeat (first | exact Below.refl _ _ | refine belAlloc ?_ _))
  have ppF := Blk.keepF ppB
  replace ppB := Blk.keepB ppB
  have zzB : Blk ((w.alloc (.cells #[.int .i64 m.retries, .slice oa m.outs.length oc, .slice ba m.boxes.length bc, .slice ia m.images.length ic] 31)).alloc (.cells #[.int .i64 0, .slice none 0 0, .slice none 0 0, .slice none 0 0] 31)) (w.heap.size + 1) [.int .i64 0, .slice none 0 0, .slice none 0 0, .slice none 0 0] 31 := (Blk.at (by simp) : Blk ((w.alloc (.cells #[.int .i64 m.retries, .slice oa m.outs.length oc, .slice ba m.boxes.length bc, .slice ia m.images.length ic] 31)).alloc (.cells #[.int .i64 0, .slice none 0 0, .slice none 0 0, .slice none 0 0] 31)) (w.heap.size + 1) [.int .i64 0, .slice none 0 0, .slice none 0 0, .slice none 0 0] 31).later (by repeat (first | exact Below.refl _ _ | refine belAlloc ?_ _))
  have zzF := Blk.keepF zzB
  replace zzB := Blk.keepB zzB
  clear hb2 hbel
  generalize (w.alloc (.cells #[.int .i64 m.retries, .slice oa m.outs.length oc, .slice ba m.boxes.length bc, .slice ia m.images.length ic] 31)).alloc (.cells #[.int .i64 0, .slice none 0 0, .slice none 0 0, .slice none 0 0] 31) = W1 at *
  replace pp0 := keep pp0
  replace pp1 := keep pp1
  replace pp2 := keep pp2
  replace pp3 := keep pp3
  replace zz0 := keep zz0
  replace zz1 := keep zz1
  replace zz2 := keep zz2
  replace zz3 := keep zz3
  have hbel : Below W1.heap.size W1 W1 := Below.refl _ _
  skip
  have HP := Lib.hid (ppB W1 (Below.refl _ _))
  have HZ := Lib.hid (zzB W1 (Below.refl _ _))
  have HB := Lib.hid hw
  clear hw ppB zzB
  clear pp0 pp1 pp2 pp3 zz0 zz1 zz2 zz3 ppF zzF
  have pp0 := keep (HP.out.cell (j := 0) rfl)
  have pp1 := keep (HP.out.cell (j := 1) rfl)
  have pp2 := keep (HP.out.cell (j := 2) rfl)
  have pp3 := keep (HP.out.cell (j := 3) rfl)
  have HFW := Lib.hid (fun u (hu : Below w.heap.size w u) b (hb : b ∈ F) => Nat.lt_of_lt_of_le (HFF.out b hb) hu.size)
  have CP := Lib.hid (fun u (hu : Below w.heap.size w u) => iref_Place ia m.images.length ic m.images nm u rfl (HRI.out.later hu))
  obtain ⟨c0, hc0⟩ : ∃ c, mayC m.boxes s 1 = c := ⟨_, rfl⟩
  have CMM := Lib.hid (fun v u (h : RIs F u v m) (hF : ∀ b ∈ F, b < u.heap.size) => hc0 ▸ CM.out v u h hF)
  have HC0 := Lib.hid hc0
  clear hc0 CM
  by_cases h0 : c0 = 0
  · subst h0
    obtain ⟨x, hx, hf, ht, hp, hs⟩ := may_ok HG.out.rises HC0.out
    have HDS := Lib.hid (fun wl => show doL m.boxes s 1 wl round m.retries = settleC m.boxes (placeC m.boxes s) (fndC m.boxes s) 1 wl round m.retries by rw [hf]; exact doL_settle 1 wl round m.retries HG.out.rises (fun y hy => (HG.out.ok y hy).2) hx (by obtain ⟨y, hy, he⟩ := thereC_at HG.out.rises ht; cases hx.symm.trans hy; exact he))
    clear hx hf ht hp hs
    have HVG := Lib.hid (fun u (hu : Below w.heap.size w u) => ((HV.out.more (G := (w.heap.size :: (w.heap.size + 1) :: F)) (fun b hb => by rcases List.mem_cons.1 hb with rfl | hb; exact .inr (Nat.le_refl _); rcases List.mem_cons.1 hb with rfl | hb; exact .inr (Nat.le_succ _); exact .inl hb)).later hu))
    cases hth : thereB m.images nm with
    | false =>
      rw [placeR_no hth] at CP
      obtain ⟨well, hwl⟩ : ∃ t, takeB m.outs = t := ⟨_, rfl⟩
      have hv : pullV m nm = well := by unfold pullV; rw [hth, hwl]; rfl
      obtain ⟨K2, hK2⟩ : ∃ k, ({ m.took with boxes := doL m.took.boxes s 1 well round m.took.retries } : WorldV) = k := ⟨_, rfl⟩
      have HE := Lib.hid (show pullB m s nm = well ∧ pullN m s nm = well ∧ pullW m s nm size round = { K2 with images := if well then putI K2.images nm size round else K2.images } by refine ⟨by unfold pullB; rw [if_pos HC0.out, hv], by unfold pullN; rw [if_pos HC0.out, hv, hth]; simp, ?_⟩; rw [← hK2]; unfold pullW; rw [if_pos HC0.out, hv, ← HDS.out, hth]; rfl)
      have HKR := Lib.hid (show Rises K2.images by rw [← hK2]; exact HG.out.risesI)
      have HKL := Lib.hid (show K2.images.length ≤ n9 by rw [← hK2]; exact HG.out.lenI)
      have HTK := Lib.hid (good_took HG.out)
      have CN := Lib.hid (fun G v u (h : RIs G u v m) hG => r16_Next G v m u h hG (Nat.le_trans HG.out.outs (by omega)))
      obtain ⟨K, hK⟩ : ∃ k, m.took = k := ⟨_, rfl⟩
      rw [hwl, hK] at CN
      rw [hK] at HTK hK2
      have CD := Lib.hid (fun v u (h : RIs (w.heap.size :: (w.heap.size + 1) :: F) u v K) hG => r16_do s 1 well round _ v K u h hG HTK.out.ok (Nat.le_trans HTK.out.len (by omega)))
      rw [hK2] at CD
      clear hth hwl hv hK hK2
      go_upto_region 7 with (first | (go_at_call 94; (with_reducible refine (CMM.out _ _ (HV.out.later (belStep HB.out hbel)) (HFW.out _ (belStep HB.out hbel))).mono ?_); rintro e w2 ⟨rfl, hb_⟩; have hbz := belStep hbel hb_; clear hbel; have hbel := hbz; clear hbz hb_) | (go_at_call 97; (with_reducible refine (CP.out _ (belStep HB.out hbel)).mono ?_); rintro e w2 ⟨rfl, hb_⟩; have hbz := belStep hbel hb_; clear hbel; have hbel := hbz; clear hbz hb_))
      have HZ2 := Lib.hid (HZ.out.later hbel)
      have HP2 := Lib.hid (HP.out.later hbel)
      have HB2 := Lib.hid (belStep HB.out hbel)
      replace pp0 := keepOn pp0 hbel
      replace pp1 := keepOn pp1 hbel
      replace pp2 := keepOn pp2 hbel
      replace pp3 := keepOn pp3 hbel
      clear hbel
      generalize w2 = W2 at *
      have hbel : Below W2.heap.size W2 W2 := Below.refl _ _
      have hlt := HZ2.out.lt
      have HV2 := Lib.hid (HVG.out W2 HB2.out)
      have HF2 := Lib.hid (show ∀ b ∈ (w.heap.size :: (w.heap.size + 1) :: F), b < W2.heap.size from fun b hb => by rcases List.mem_cons.1 hb with rfl | hb; omega; rcases List.mem_cons.1 hb with rfl | hb; exact hlt; exact HFW.out W2 HB2.out b hb)
      go_upto_region 8 with (go_at_call 95; (with_reducible refine (CN.out _ _ _ HV2.out HF2.out).mono ?_); rintro e w4 ⟨v4, rfl, hR4, hb4⟩; have HVq := Lib.hid hR4; obtain ⟨oa1, oc1, ba1, bc1, ia1, ic1, rfl, hO1, hL1, hI1, hN1⟩ := hR4; have hbo1 := hO1.2; have hbb1 := hL1.2; have hbi1 := hI1.2; have HRI1 := Lib.hid hI1; clear hO1 hL1 hI1 hN1; have HBq := Lib.hid hb4; clear hb4; have y0 := (HP2.out.later HBq.out).cell (j := 0) rfl; have y1 := (HP2.out.later HBq.out).cell (j := 1) rfl; have y2 := (HP2.out.later HBq.out).cell (j := 2) rfl; have y3 := (HP2.out.later HBq.out).cell (j := 3) rfl; have yf := (HP2.out.later HBq.out).frozen)
      clear y0 y1 y2 y3 yf hbel pp0 pp1 pp2 pp3
      have HF3 := Lib.hid (show ∀ b ∈ (w.heap.size :: (w.heap.size + 1) :: F), b < w4.heap.size from fun b hb => Nat.lt_of_lt_of_le (HF2.out b hb) HBq.out.size)
      have HSZ := Lib.hid (setsz4 w4 ⟨w.heap.size, 0, none⟩ (.int .i64 K.retries) ⟨w.heap.size, 1, none⟩ (.slice oa1 K.outs.length oc1) ⟨w.heap.size, 2, none⟩ (.slice ba1 K.boxes.length bc1) ⟨w.heap.size, 3, none⟩ (.slice ia1 K.images.length ic1))
      have HP3 := Lib.hid (((((HP2.out.later HBq.out).set 0 (.int .i64 K.retries)).set 1 (.slice oa1 K.outs.length oc1)).set 2 (.slice ba1 K.boxes.length bc1)).set 3 (.slice ia1 K.images.length ic1))
      have HZ3 := Lib.hid ((HZ2.out.later HBq.out).apart (((((Apart.refl [w.heap.size] w4).set ⟨w.heap.size, 0, none⟩ (.int .i64 K.retries) (by simp)).set ⟨w.heap.size, 1, none⟩ (.slice oa1 K.outs.length oc1) (by simp)).set ⟨w.heap.size, 2, none⟩ (.slice ba1 K.boxes.length bc1) (by simp)).set ⟨w.heap.size, 3, none⟩ (.slice ia1 K.images.length ic1) (by simp)) (by simp))
      have HB3 := Lib.hid (belSet (belSet (belSet (belSet (belStep HB2.out HBq.out) ⟨w.heap.size, 0, none⟩ (.int .i64 K.retries) (Nat.le_refl _)) ⟨w.heap.size, 1, none⟩ (.slice oa1 K.outs.length oc1) (Nat.le_refl _)) ⟨w.heap.size, 2, none⟩ (.slice ba1 K.boxes.length bc1) (Nat.le_refl _)) ⟨w.heap.size, 3, none⟩ (.slice ia1 K.images.length ic1) (Nat.le_refl _))
      have HV3 := Lib.hid (HVq.out.apart (((((Apart.refl (w.heap.size :: (w.heap.size + 1) :: F) w4).set ⟨w.heap.size, 0, none⟩ (.int .i64 K.retries) List.mem_cons_self).set ⟨w.heap.size, 1, none⟩ (.slice oa1 K.outs.length oc1) List.mem_cons_self).set ⟨w.heap.size, 2, none⟩ (.slice ba1 K.boxes.length bc1) List.mem_cons_self).set ⟨w.heap.size, 3, none⟩ (.slice ia1 K.images.length ic1) List.mem_cons_self))
      clear HP2 HZ2 HB2 HV2 HBq HVq
      generalize (World.setCell (World.setCell (World.setCell (World.setCell w4 ⟨w.heap.size, 0, none⟩ (.int .i64 K.retries)) ⟨w.heap.size, 1, none⟩ (.slice oa1 K.outs.length oc1)) ⟨w.heap.size, 2, none⟩ (.slice ba1 K.boxes.length bc1)) ⟨w.heap.size, 3, none⟩ (.slice ia1 K.images.length ic1)) = W4 at *
      have pp0 := keep (HP3.out.cell (j := 0) rfl)
      have pp1 := keep (HP3.out.cell (j := 1) rfl)
      have pp2 := keep (HP3.out.cell (j := 2) rfl)
      have pp3 := keep (HP3.out.cell (j := 3) rfl)
      have HP2 := HP3
      have HZ2 := HZ3
      have HB2 := HB3
      have HV2 := HV3
      clear HP3 HZ3 HB3 HV3
      have hbel : Below W4.heap.size W4 W4 := Below.refl _ _
      replace HF2 := Lib.hid (show ∀ b ∈ (w.heap.size :: (w.heap.size + 1) :: F), b < W4.heap.size from fun b hb => by rw [HSZ.out]; exact HF3.out b hb)
      clear HF3 HSZ
      go_upto_region 9 with (go_at_call 96; (with_reducible refine (CD.out _ _ HV2.out HF2.out).mono ?_); rintro e w8 ⟨v8, rfl, hR8, hb8⟩; have HVq := Lib.hid hR8; obtain ⟨oa2, oc2, ba2, bc2, ia2, ic2, rfl, hO2, hL2, hI2, hN2⟩ := hR8; have hbo2 := hO2.2; have hbb2 := hL2.2; have hbi2 := hI2.2; have HRI2 := Lib.hid hI2; clear hO2 hL2 hI2 hN2; have HBq := Lib.hid hb8; clear hb8; have y0 := (HP2.out.later HBq.out).cell (j := 0) rfl; have y1 := (HP2.out.later HBq.out).cell (j := 1) rfl; have y2 := (HP2.out.later HBq.out).cell (j := 2) rfl; have y3 := (HP2.out.later HBq.out).cell (j := 3) rfl; have yf := (HP2.out.later HBq.out).frozen)
      clear y0 y1 y2 y3 yf hbel pp0 pp1 pp2 pp3
      have HF3 := Lib.hid (show ∀ b ∈ (w.heap.size :: (w.heap.size + 1) :: F), b < w8.heap.size from fun b hb => Nat.lt_of_lt_of_le (HF2.out b hb) HBq.out.size)
      have HSZ := Lib.hid (setsz4 w8 ⟨w.heap.size, 0, none⟩ (.int .i64 K2.retries) ⟨w.heap.size, 1, none⟩ (.slice oa2 K2.outs.length oc2) ⟨w.heap.size, 2, none⟩ (.slice ba2 K2.boxes.length bc2) ⟨w.heap.size, 3, none⟩ (.slice ia2 K2.images.length ic2))
      have HP3 := Lib.hid (((((HP2.out.later HBq.out).set 0 (.int .i64 K2.retries)).set 1 (.slice oa2 K2.outs.length oc2)).set 2 (.slice ba2 K2.boxes.length bc2)).set 3 (.slice ia2 K2.images.length ic2))
      have HZ3 := Lib.hid ((HZ2.out.later HBq.out).apart (((((Apart.refl [w.heap.size] w8).set ⟨w.heap.size, 0, none⟩ (.int .i64 K2.retries) (by simp)).set ⟨w.heap.size, 1, none⟩ (.slice oa2 K2.outs.length oc2) (by simp)).set ⟨w.heap.size, 2, none⟩ (.slice ba2 K2.boxes.length bc2) (by simp)).set ⟨w.heap.size, 3, none⟩ (.slice ia2 K2.images.length ic2) (by simp)) (by simp))
      have HB3 := Lib.hid (belSet (belSet (belSet (belSet (belStep HB2.out HBq.out) ⟨w.heap.size, 0, none⟩ (.int .i64 K2.retries) (Nat.le_refl _)) ⟨w.heap.size, 1, none⟩ (.slice oa2 K2.outs.length oc2) (Nat.le_refl _)) ⟨w.heap.size, 2, none⟩ (.slice ba2 K2.boxes.length bc2) (Nat.le_refl _)) ⟨w.heap.size, 3, none⟩ (.slice ia2 K2.images.length ic2) (Nat.le_refl _))
      have HV3 := Lib.hid (HVq.out.apart (((((Apart.refl (w.heap.size :: (w.heap.size + 1) :: F) w8).set ⟨w.heap.size, 0, none⟩ (.int .i64 K2.retries) List.mem_cons_self).set ⟨w.heap.size, 1, none⟩ (.slice oa2 K2.outs.length oc2) List.mem_cons_self).set ⟨w.heap.size, 2, none⟩ (.slice ba2 K2.boxes.length bc2) List.mem_cons_self).set ⟨w.heap.size, 3, none⟩ (.slice ia2 K2.images.length ic2) List.mem_cons_self))
      clear HP2 HZ2 HB2 HV2 HBq HVq
      generalize (World.setCell (World.setCell (World.setCell (World.setCell w8 ⟨w.heap.size, 0, none⟩ (.int .i64 K2.retries)) ⟨w.heap.size, 1, none⟩ (.slice oa2 K2.outs.length oc2)) ⟨w.heap.size, 2, none⟩ (.slice ba2 K2.boxes.length bc2)) ⟨w.heap.size, 3, none⟩ (.slice ia2 K2.images.length ic2)) = W9 at *
      have pp0 := keep (HP3.out.cell (j := 0) rfl)
      have pp1 := keep (HP3.out.cell (j := 1) rfl)
      have pp2 := keep (HP3.out.cell (j := 2) rfl)
      have pp3 := keep (HP3.out.cell (j := 3) rfl)
      have HP2 := HP3
      have HZ2 := HZ3
      have HB2 := HB3
      have HV2 := HV3
      clear HP3 HZ3 HB3 HV3
      have hbel : Below W9.heap.size W9 W9 := Below.refl _ _
      replace HF2 := Lib.hid (show ∀ b ∈ (w.heap.size :: (w.heap.size + 1) :: F), b < W9.heap.size from fun b hb => by rw [HSZ.out]; exact HF3.out b hb)
      clear HF3 HSZ
      cases well with
      | false =>
        have zz0 := keep (HZ2.out.cell (j := 0) rfl)
        have zz1 := keep (HZ2.out.cell (j := 1) rfl)
        have zz2 := keep (HZ2.out.cell (j := 2) rfl)
        have zz3 := keep (HZ2.out.cell (j := 3) rfl)
        have zf := Blk.keepF HZ2.out
        go_upto_region 11 with fail
        refine wp_region_upc (S := fun u => Below W9.heap.size W9 u) [9] (by kernel_rfl) (by exact (show Below W9.heap.size W9 _ by repeat (first | assumption | exact Below.refl _ _ | refine belDrew ?_ | refine belAlloc ?_ _ | refine belStep ?_ (by assumption)))) (fun hHeld => ?_)
        refine UpC.take (i := 0) (oi := ?oi_uc18) (v := ?v_uc18) ?hi_uc18 (by kernel_rfl) ?hf_uc18 ?hr_uc18 (by kernel_rfl) ?hQ_uc18 (Or.inl ⟨?hw_uc18, ?hy_uc18⟩) (by assumption) ?rest_uc18
        case hi_uc18 => ((simp only [List.getElem?_toArray, List.getElem?_cons_succ, List.getElem?_cons_zero]); rfl)
        case hf_uc18 => kernel_rfl
        case hr_uc18 => kernel_rfl
        case hQ_uc18 => exact fun _ _ _ h => h
        case hw_uc18 => rfl
        case hy_uc18 => ((intro w hSw; (try dsimp only at hSw); go_simp); all_goals (with_reducible rfl))
        try simp only [Act.put, List.setIfInBounds_toArray, List.set_cons_zero, List.set_cons_succ]
        refine UpC.take (i := 1) (oi := ?oi_uc19) (v := ?v_uc19) ?hi_uc19 (by kernel_rfl) ?hf_uc19 ?hr_uc19 (by kernel_rfl) ?hQ_uc19 (Or.inl ⟨?hw_uc19, ?hy_uc19⟩) (by assumption) ?rest_uc19
        case hi_uc19 => ((simp only [List.getElem?_toArray, List.getElem?_cons_succ, List.getElem?_cons_zero]); rfl)
        case hf_uc19 => kernel_rfl
        case hr_uc19 => kernel_rfl
        case hQ_uc19 => exact fun _ _ _ h => h
        case hw_uc19 => rfl
        case hy_uc19 => ((intro w hSw; (try dsimp only at hSw); go_simp); all_goals (with_reducible rfl))
        try simp only [Act.put, List.setIfInBounds_toArray, List.set_cons_zero, List.set_cons_succ]
        refine UpC.take (i := 2) (oi := ?oi_uc20) (v := ?v_uc20) ?hi_uc20 (by kernel_rfl) ?hf_uc20 ?hr_uc20 (by kernel_rfl) ?hQ_uc20 (Or.inl ⟨?hw_uc20, ?hy_uc20⟩) (by assumption) ?rest_uc20
        case hi_uc20 => ((simp only [List.getElem?_toArray, List.getElem?_cons_succ, List.getElem?_cons_zero]); rfl)
        case hf_uc20 => kernel_rfl
        case hr_uc20 => kernel_rfl
        case hQ_uc20 => exact fun _ _ _ h => h
        case hw_uc20 => rfl
        case hy_uc20 => ((intro w hSw; (try dsimp only at hSw); go_simp); all_goals (with_reducible rfl))
        try simp only [Act.put, List.setIfInBounds_toArray, List.set_cons_zero, List.set_cons_succ]
        refine UpC.take (i := 3) (oi := ?oi_uc21) (v := undef) ?hi_uc21 (by kernel_rfl) ?hf_uc21 ?hr_uc21 (by kernel_rfl) ?hQ_uc21 (Or.inr ⟨?hw_uc21, rfl⟩) (by assumption) ?rest_uc21
        case hi_uc21 => ((simp only [List.getElem?_toArray, List.getElem?_cons_succ, List.getElem?_cons_zero]); rfl)
        case hf_uc21 => kernel_rfl
        case hr_uc21 => kernel_rfl
        case hQ_uc21 => exact fun _ _ _ h => h
        case hw_uc21 => rfl
        try simp only [Act.put, List.setIfInBounds_toArray, List.set_cons_zero, List.set_cons_succ]
        refine UpC.take (i := 4) (oi := ?oi_uc22) (v := undef) ?hi_uc22 (by kernel_rfl) ?hf_uc22 ?hr_uc22 (by kernel_rfl) ?hQ_uc22 (Or.inr ⟨?hw_uc22, rfl⟩) (by assumption) ?rest_uc22
        case hi_uc22 => ((simp only [List.getElem?_toArray, List.getElem?_cons_succ, List.getElem?_cons_zero]); rfl)
        case hf_uc22 => kernel_rfl
        case hr_uc22 => kernel_rfl
        case hQ_uc22 => exact fun _ _ _ h => h
        case hw_uc22 => rfl
        try simp only [Act.put, List.setIfInBounds_toArray, List.set_cons_zero, List.set_cons_succ]
        refine UpC.take (i := 5) (oi := ?oi_uc23) (v := ?v_uc23) ?hi_uc23 (by kernel_rfl) ?hf_uc23 ?hr_uc23 (by kernel_rfl) ?hQ_uc23 (Or.inl ⟨?hw_uc23, ?hy_uc23⟩) (by assumption) ?rest_uc23
        case hi_uc23 => ((simp only [List.getElem?_toArray, List.getElem?_cons_succ, List.getElem?_cons_zero]); rfl)
        case hf_uc23 => kernel_rfl
        case hr_uc23 => kernel_rfl
        case hQ_uc23 => exact fun _ _ _ h => h
        case hw_uc23 => rfl
        case hy_uc23 => ((intro w hSw; (try dsimp only at hSw); go_simp); all_goals (with_reducible rfl))
        try simp only [Act.put, List.setIfInBounds_toArray, List.set_cons_zero, List.set_cons_succ]
        refine UpC.take (i := 6) (oi := ?oi_uc24) (v := ?v_uc24) ?hi_uc24 (by kernel_rfl) ?hf_uc24 ?hr_uc24 (by kernel_rfl) ?hQ_uc24 (Or.inl ⟨?hw_uc24, ?hy_uc24⟩) (by assumption) ?rest_uc24
        case hi_uc24 => ((simp only [List.getElem?_toArray, List.getElem?_cons_succ, List.getElem?_cons_zero]); rfl)
        case hf_uc24 => kernel_rfl
        case hr_uc24 => kernel_rfl
        case hQ_uc24 => exact fun _ _ _ h => h
        case hw_uc24 => rfl
        case hy_uc24 => ((intro w hSw; (try dsimp only at hSw); go_simp); all_goals (with_reducible rfl))
        try simp only [Act.put, List.setIfInBounds_toArray, List.set_cons_zero, List.set_cons_succ]
        refine UpC.take (i := 7) (oi := ?oi_uc25) (v := ?v_uc25) ?hi_uc25 (by kernel_rfl) ?hf_uc25 ?hr_uc25 (by kernel_rfl) ?hQ_uc25 (Or.inl ⟨?hw_uc25, ?hy_uc25⟩) (by assumption) ?rest_uc25
        case hi_uc25 => ((simp only [List.getElem?_toArray, List.getElem?_cons_succ, List.getElem?_cons_zero]); rfl)
        case hf_uc25 => kernel_rfl
        case hr_uc25 => kernel_rfl
        case hQ_uc25 => exact fun _ _ _ h => h
        case hw_uc25 => rfl
        case hy_uc25 => ((intro w hSw; (try dsimp only at hSw); go_simp); all_goals (with_reducible rfl))
        try simp only [Act.put, List.setIfInBounds_toArray, List.set_cons_zero, List.set_cons_succ]
        refine UpC.take (i := 8) (oi := ?oi_uc26) (v := ?v_uc26) ?hi_uc26 (by kernel_rfl) ?hf_uc26 ?hr_uc26 (by kernel_rfl) ?hQ_uc26 (Or.inl ⟨?hw_uc26, ?hy_uc26⟩) (by assumption) ?rest_uc26
        case hi_uc26 => ((simp only [List.getElem?_toArray, List.getElem?_cons_succ, List.getElem?_cons_zero]); rfl)
        case hf_uc26 => kernel_rfl
        case hr_uc26 => kernel_rfl
        case hQ_uc26 => exact fun _ _ _ h => h
        case hw_uc26 => rfl
        case hy_uc26 => ((intro w hSw; (try dsimp only at hSw); go_simp); all_goals (with_reducible rfl))
        try simp only [Act.put, List.setIfInBounds_toArray, List.set_cons_zero, List.set_cons_succ]
        refine UpC.one (i := 9) (o := ?o_uc27) (by kernel_rfl) ?hi_uc27 (fun K hK => ?rest_uc27)
        case hi_uc27 => ((simp only [List.getElem?_toArray, List.getElem?_cons_succ, List.getElem?_cons_zero]); rfl)
        go_simp
        refine hK.out _ _ (fun q => absurd q (by decide)) (fun _ => ?_)
        clear hK K
        try simp only [Act.put, List.setIfInBounds_toArray, List.set_cons_zero, List.set_cons_succ]
        refine UpC.one (i := 10) (o := ?o_uc28) (by kernel_rfl) ?hi_uc28 (fun K hK => ?rest_uc28)
        case hi_uc28 => ((simp only [List.getElem?_toArray, List.getElem?_cons_succ, List.getElem?_cons_zero]); rfl)
        go_simp
        refine hK.out _ _ (fun _ h => h) (fun _ => ?_)
        clear hK K
        try simp only [Act.put, List.setIfInBounds_toArray, List.set_cons_zero, List.set_cons_succ]
        refine UpC.done (by kernel_rfl) ?_ _
        go_wp2
        have hfa := Lib.hid (Apart.drew (((((Apart.refl (w.heap.size :: (w.heap.size + 1) :: F) W9).set ⟨w.heap.size + 1, 0, none⟩ (.int .i64 K2.retries) (List.mem_cons_of_mem _ List.mem_cons_self)).set ⟨w.heap.size + 1, 1, none⟩ (.slice oa2 K2.outs.length oc2) (List.mem_cons_of_mem _ List.mem_cons_self)).set ⟨w.heap.size + 1, 2, none⟩ (.slice ba2 K2.boxes.length bc2) (List.mem_cons_of_mem _ List.mem_cons_self)).set ⟨w.heap.size + 1, 3, none⟩ (.slice ia2 K2.images.length ic2) (List.mem_cons_of_mem _ List.mem_cons_self)))
        have hfb := Lib.hid (belDrew (belSet (belSet (belSet (belSet HB2.out ⟨w.heap.size + 1, 0, none⟩ (.int .i64 K2.retries) (Nat.le_succ _)) ⟨w.heap.size + 1, 1, none⟩ (.slice oa2 K2.outs.length oc2) (Nat.le_succ _)) ⟨w.heap.size + 1, 2, none⟩ (.slice ba2 K2.boxes.length bc2) (Nat.le_succ _)) ⟨w.heap.size + 1, 3, none⟩ (.slice ia2 K2.images.length ic2) (Nat.le_succ _)))
        refine r16pull_ret _ (w.heap.size + 1) _ _ oa2 _ oc2 ba2 _ bc2 ia2 _ ic2 false false 0 _ rfl rfl rfl rfl  ((((HZ2.out.set 0 (.int .i64 K2.retries)).set 1 (.slice oa2 K2.outs.length oc2)).set 2 (.slice ba2 K2.boxes.length bc2)).set 3 (.slice ia2 K2.images.length ic2)) ⟨_, by rw [HE.out.1, HE.out.2.1, HC0.out], ?_, hfb.out⟩
        rw [HE.out.2.2]
        exact (HV2.out.apart hfa.out).more (fun b hb => .inl (List.mem_cons_of_mem _ (List.mem_cons_of_mem _ hb)))
      | true =>
        obtain ⟨M, hM⟩ : ∃ M, putI K2.images nm size round = M := ⟨_, rfl⟩
        have CPU := Lib.hid (fun (_ : Unit) => iref_Put ia2 K2.images.length ic2 K2.images nm size round W9 rfl HV2.out.rowI HKR.out (Nat.le_trans HKL.out (by omega)))
        simp only [hM] at CPU HE
        obtain ⟨n, hn⟩ : ∃ n, M.length = n := ⟨_, rfl⟩
        rw [hn] at CPU
        have HNL := Lib.hid hn
        clear hM hn
        go_upto_region 11 with (go_at_call 98; (with_reducible refine (CPU.out ()).mono ?_); rintro e w9 ⟨v9, rfl, ho9, hb9⟩; obtain ⟨na, nc, e9, hr9⟩ := rowR_of_own ho9; subst e9; have HO9 := Lib.hid ho9; have HB9 := Lib.hid hb9; have y3 := (HP2.out.later hb9).cell (j := 3) rfl; have yf := (HP2.out.later hb9).frozen; clear ho9 hb9 hr9)
        clear y3 yf pp0 pp1 pp2 pp3 hbel
        have HP9 := Lib.hid ((HP2.out.later HB9.out).set 3 (.slice na n nc))
        have HV9 := Lib.hid (((HV2.out.later HB9.out).imgs (own_row HO9.out) HNL.out (notin_own HO9.out HF2.out)).apart ((Apart.refl (w.heap.size :: (w.heap.size + 1) :: F) w9).set ⟨w.heap.size, 3, none⟩ (.slice na n nc) List.mem_cons_self))
        have HZ9 := Lib.hid ((HZ2.out.later HB9.out).apart ((Apart.refl [w.heap.size] w9).set ⟨w.heap.size, 3, none⟩ (.slice na n nc) (by simp)) (by simp))
        have HB10 := Lib.hid (belSet (belStep HB2.out HB9.out) ⟨w.heap.size, 3, none⟩ (.slice na n nc) (Nat.le_refl _))
        generalize w9.setCell ⟨w.heap.size, 3, none⟩ (.slice na n nc) = WA at *
        have pp0 := keep (HP9.out.cell (j := 0) rfl)
        have pp1 := keep (HP9.out.cell (j := 1) rfl)
        have pp2 := keep (HP9.out.cell (j := 2) rfl)
        have pp3 := keep (HP9.out.cell (j := 3) rfl)
        have zz0 := keep (HZ9.out.cell (j := 0) rfl)
        have zz1 := keep (HZ9.out.cell (j := 1) rfl)
        have zz2 := keep (HZ9.out.cell (j := 2) rfl)
        have zz3 := keep (HZ9.out.cell (j := 3) rfl)
        have zf := Blk.keepF HZ9.out
        have hbel : Below WA.heap.size WA WA := Below.refl _ _
        refine wp_region_upc (S := fun u => Below WA.heap.size WA u) [9] (by kernel_rfl) (by exact (show Below WA.heap.size WA _ by repeat (first | assumption | exact Below.refl _ _ | refine belDrew ?_ | refine belAlloc ?_ _ | refine belStep ?_ (by assumption)))) (fun hHeld => ?_)
        refine UpC.take (i := 0) (oi := ?oi_uc29) (v := ?v_uc29) ?hi_uc29 (by kernel_rfl) ?hf_uc29 ?hr_uc29 (by kernel_rfl) ?hQ_uc29 (Or.inl ⟨?hw_uc29, ?hy_uc29⟩) (by assumption) ?rest_uc29
        case hi_uc29 => ((simp only [List.getElem?_toArray, List.getElem?_cons_succ, List.getElem?_cons_zero]); rfl)
        case hf_uc29 => kernel_rfl
        case hr_uc29 => kernel_rfl
        case hQ_uc29 => exact fun _ _ _ h => h
        case hw_uc29 => rfl
        case hy_uc29 => ((intro w hSw; (try dsimp only at hSw); go_simp); all_goals (with_reducible rfl))
        try simp only [Act.put, List.setIfInBounds_toArray, List.set_cons_zero, List.set_cons_succ]
        refine UpC.take (i := 1) (oi := ?oi_uc30) (v := ?v_uc30) ?hi_uc30 (by kernel_rfl) ?hf_uc30 ?hr_uc30 (by kernel_rfl) ?hQ_uc30 (Or.inl ⟨?hw_uc30, ?hy_uc30⟩) (by assumption) ?rest_uc30
        case hi_uc30 => ((simp only [List.getElem?_toArray, List.getElem?_cons_succ, List.getElem?_cons_zero]); rfl)
        case hf_uc30 => kernel_rfl
        case hr_uc30 => kernel_rfl
        case hQ_uc30 => exact fun _ _ _ h => h
        case hw_uc30 => rfl
        case hy_uc30 => ((intro w hSw; (try dsimp only at hSw); go_simp); all_goals (with_reducible rfl))
        try simp only [Act.put, List.setIfInBounds_toArray, List.set_cons_zero, List.set_cons_succ]
        refine UpC.take (i := 2) (oi := ?oi_uc31) (v := ?v_uc31) ?hi_uc31 (by kernel_rfl) ?hf_uc31 ?hr_uc31 (by kernel_rfl) ?hQ_uc31 (Or.inl ⟨?hw_uc31, ?hy_uc31⟩) (by assumption) ?rest_uc31
        case hi_uc31 => ((simp only [List.getElem?_toArray, List.getElem?_cons_succ, List.getElem?_cons_zero]); rfl)
        case hf_uc31 => kernel_rfl
        case hr_uc31 => kernel_rfl
        case hQ_uc31 => exact fun _ _ _ h => h
        case hw_uc31 => rfl
        case hy_uc31 => ((intro w hSw; (try dsimp only at hSw); go_simp); all_goals (with_reducible rfl))
        try simp only [Act.put, List.setIfInBounds_toArray, List.set_cons_zero, List.set_cons_succ]
        refine UpC.take (i := 3) (oi := ?oi_uc32) (v := ?v_uc32) ?hi_uc32 (by kernel_rfl) ?hf_uc32 ?hr_uc32 (by kernel_rfl) ?hQ_uc32 (Or.inl ⟨?hw_uc32, ?hy_uc32⟩) (by assumption) ?rest_uc32
        case hi_uc32 => ((simp only [List.getElem?_toArray, List.getElem?_cons_succ, List.getElem?_cons_zero]); rfl)
        case hf_uc32 => kernel_rfl
        case hr_uc32 => kernel_rfl
        case hQ_uc32 => exact fun _ _ _ h => h
        case hw_uc32 => rfl
        case hy_uc32 => ((intro w hSw; (try dsimp only at hSw); go_simp); all_goals (with_reducible rfl))
        try simp only [Act.put, List.setIfInBounds_toArray, List.set_cons_zero, List.set_cons_succ]
        refine UpC.take (i := 4) (oi := ?oi_uc33) (v := ?v_uc33) ?hi_uc33 (by kernel_rfl) ?hf_uc33 ?hr_uc33 (by kernel_rfl) ?hQ_uc33 (Or.inl ⟨?hw_uc33, ?hy_uc33⟩) (by assumption) ?rest_uc33
        case hi_uc33 => ((simp only [List.getElem?_toArray, List.getElem?_cons_succ, List.getElem?_cons_zero]); rfl)
        case hf_uc33 => kernel_rfl
        case hr_uc33 => kernel_rfl
        case hQ_uc33 => exact fun _ _ _ h => h
        case hw_uc33 => rfl
        case hy_uc33 => ((intro w hSw; (try dsimp only at hSw); go_simp); all_goals (with_reducible rfl))
        try simp only [Act.put, List.setIfInBounds_toArray, List.set_cons_zero, List.set_cons_succ]
        refine UpC.take (i := 5) (oi := ?oi_uc34) (v := ?v_uc34) ?hi_uc34 (by kernel_rfl) ?hf_uc34 ?hr_uc34 (by kernel_rfl) ?hQ_uc34 (Or.inl ⟨?hw_uc34, ?hy_uc34⟩) (by assumption) ?rest_uc34
        case hi_uc34 => ((simp only [List.getElem?_toArray, List.getElem?_cons_succ, List.getElem?_cons_zero]); rfl)
        case hf_uc34 => kernel_rfl
        case hr_uc34 => kernel_rfl
        case hQ_uc34 => exact fun _ _ _ h => h
        case hw_uc34 => rfl
        case hy_uc34 => ((intro w hSw; (try dsimp only at hSw); go_simp); all_goals (with_reducible rfl))
        try simp only [Act.put, List.setIfInBounds_toArray, List.set_cons_zero, List.set_cons_succ]
        refine UpC.take (i := 6) (oi := ?oi_uc35) (v := ?v_uc35) ?hi_uc35 (by kernel_rfl) ?hf_uc35 ?hr_uc35 (by kernel_rfl) ?hQ_uc35 (Or.inl ⟨?hw_uc35, ?hy_uc35⟩) (by assumption) ?rest_uc35
        case hi_uc35 => ((simp only [List.getElem?_toArray, List.getElem?_cons_succ, List.getElem?_cons_zero]); rfl)
        case hf_uc35 => kernel_rfl
        case hr_uc35 => kernel_rfl
        case hQ_uc35 => exact fun _ _ _ h => h
        case hw_uc35 => rfl
        case hy_uc35 => ((intro w hSw; (try dsimp only at hSw); go_simp); all_goals (with_reducible rfl))
        try simp only [Act.put, List.setIfInBounds_toArray, List.set_cons_zero, List.set_cons_succ]
        refine UpC.take (i := 7) (oi := ?oi_uc36) (v := ?v_uc36) ?hi_uc36 (by kernel_rfl) ?hf_uc36 ?hr_uc36 (by kernel_rfl) ?hQ_uc36 (Or.inl ⟨?hw_uc36, ?hy_uc36⟩) (by assumption) ?rest_uc36
        case hi_uc36 => ((simp only [List.getElem?_toArray, List.getElem?_cons_succ, List.getElem?_cons_zero]); rfl)
        case hf_uc36 => kernel_rfl
        case hr_uc36 => kernel_rfl
        case hQ_uc36 => exact fun _ _ _ h => h
        case hw_uc36 => rfl
        case hy_uc36 => ((intro w hSw; (try dsimp only at hSw); go_simp); all_goals (with_reducible rfl))
        try simp only [Act.put, List.setIfInBounds_toArray, List.set_cons_zero, List.set_cons_succ]
        refine UpC.take (i := 8) (oi := ?oi_uc37) (v := ?v_uc37) ?hi_uc37 (by kernel_rfl) ?hf_uc37 ?hr_uc37 (by kernel_rfl) ?hQ_uc37 (Or.inl ⟨?hw_uc37, ?hy_uc37⟩) (by assumption) ?rest_uc37
        case hi_uc37 => ((simp only [List.getElem?_toArray, List.getElem?_cons_succ, List.getElem?_cons_zero]); rfl)
        case hf_uc37 => kernel_rfl
        case hr_uc37 => kernel_rfl
        case hQ_uc37 => exact fun _ _ _ h => h
        case hw_uc37 => rfl
        case hy_uc37 => ((intro w hSw; (try dsimp only at hSw); go_simp); all_goals (with_reducible rfl))
        try simp only [Act.put, List.setIfInBounds_toArray, List.set_cons_zero, List.set_cons_succ]
        refine UpC.one (i := 9) (o := ?o_uc38) (by kernel_rfl) ?hi_uc38 (fun K hK => ?rest_uc38)
        case hi_uc38 => ((simp only [List.getElem?_toArray, List.getElem?_cons_succ, List.getElem?_cons_zero]); rfl)
        go_simp
        refine hK.out _ _ (fun q => absurd q (by decide)) (fun _ => ?_)
        clear hK K
        try simp only [Act.put, List.setIfInBounds_toArray, List.set_cons_zero, List.set_cons_succ]
        refine UpC.one (i := 10) (o := ?o_uc39) (by kernel_rfl) ?hi_uc39 (fun K hK => ?rest_uc39)
        case hi_uc39 => ((simp only [List.getElem?_toArray, List.getElem?_cons_succ, List.getElem?_cons_zero]); rfl)
        go_simp
        refine hK.out _ _ (fun _ h => h) (fun _ => ?_)
        clear hK K
        try simp only [Act.put, List.setIfInBounds_toArray, List.set_cons_zero, List.set_cons_succ]
        refine UpC.done (by kernel_rfl) ?_ _
        go_wp2
        have hfa := Lib.hid (Apart.drew (((((Apart.refl (w.heap.size :: (w.heap.size + 1) :: F) WA).set ⟨w.heap.size + 1, 0, none⟩ (.int .i64 K2.retries) (List.mem_cons_of_mem _ List.mem_cons_self)).set ⟨w.heap.size + 1, 1, none⟩ (.slice oa2 K2.outs.length oc2) (List.mem_cons_of_mem _ List.mem_cons_self)).set ⟨w.heap.size + 1, 2, none⟩ (.slice ba2 K2.boxes.length bc2) (List.mem_cons_of_mem _ List.mem_cons_self)).set ⟨w.heap.size + 1, 3, none⟩ (.slice na n nc) (List.mem_cons_of_mem _ List.mem_cons_self)))
        have hfb := Lib.hid (belDrew (belSet (belSet (belSet (belSet HB10.out ⟨w.heap.size + 1, 0, none⟩ (.int .i64 K2.retries) (Nat.le_succ _)) ⟨w.heap.size + 1, 1, none⟩ (.slice oa2 K2.outs.length oc2) (Nat.le_succ _)) ⟨w.heap.size + 1, 2, none⟩ (.slice ba2 K2.boxes.length bc2) (Nat.le_succ _)) ⟨w.heap.size + 1, 3, none⟩ (.slice na n nc) (Nat.le_succ _)))
        refine r16pull_ret _ (w.heap.size + 1) _ _ oa2 _ oc2 ba2 _ bc2 na n nc true true 0 _ rfl rfl rfl rfl  ((((HZ9.out.set 0 (.int .i64 K2.retries)).set 1 (.slice oa2 K2.outs.length oc2)).set 2 (.slice ba2 K2.boxes.length bc2)).set 3 (.slice na n nc)) ⟨_, by rw [HE.out.1, HE.out.2.1, HC0.out], ?_, hfb.out⟩
        rw [HE.out.2.2]
        exact (HV9.out.apart hfa.out).more (fun b hb => .inl (List.mem_cons_of_mem _ (List.mem_cons_of_mem _ hb)))
    | true =>
      obtain ⟨q, hq⟩ := placeR_pos hth
      rw [hq] at CP
      have q0 : decide ((0 : Int) ≤ (q : Int)) = true := decide_eq_true (by omega)
      have q1 : (0 : Int) ≤ (q : Int) := by omega
      have hv : pullV m nm = true := by unfold pullV; rw [hth]; rfl
      obtain ⟨K2, hK2⟩ : ∃ k, ({ m with boxes := doL m.boxes s 1 true round m.retries } : WorldV) = k := ⟨_, rfl⟩
      have HE := Lib.hid (show pullB m s nm = true ∧ pullN m s nm = false ∧ pullW m s nm size round = { K2 with images := putI K2.images nm size round } by refine ⟨by unfold pullB; rw [if_pos HC0.out, hv], by unfold pullN; rw [if_pos HC0.out, hv, hth]; rfl, ?_⟩; rw [← hK2]; unfold pullW; rw [if_pos HC0.out, hv, ← HDS.out, hth]; rfl)
      have HKR := Lib.hid (show Rises K2.images by rw [← hK2]; exact HG.out.risesI)
      have HKL := Lib.hid (show K2.images.length ≤ n9 by rw [← hK2]; exact HG.out.lenI)
      have CD := Lib.hid (fun v u (h : RIs (w.heap.size :: (w.heap.size + 1) :: F) u v m) hG => r16_do s 1 true round _ v m u h hG HG.out.ok (Nat.le_trans HG.out.len (by omega)))
      rw [hK2] at CD
      clear hth hq hv hK2
      go_upto_region 8 with (first | (go_at_call 94; (with_reducible refine (CMM.out _ _ (HV.out.later (belStep HB.out hbel)) (HFW.out _ (belStep HB.out hbel))).mono ?_); rintro e w2 ⟨rfl, hb_⟩; have hbz := belStep hbel hb_; clear hbel; have hbel := hbz; clear hbz hb_) | (go_at_call 97; (with_reducible refine (CP.out _ (belStep HB.out hbel)).mono ?_); rintro e w2 ⟨rfl, hb_⟩; have hbz := belStep hbel hb_; clear hbel; have hbel := hbz; clear hbz hb_))
      clear q0 q1
      have HZ2 := Lib.hid (HZ.out.later hbel)
      have HP2 := Lib.hid (HP.out.later hbel)
      have HB2 := Lib.hid (belStep HB.out hbel)
      replace pp0 := keepOn pp0 hbel
      replace pp1 := keepOn pp1 hbel
      replace pp2 := keepOn pp2 hbel
      replace pp3 := keepOn pp3 hbel
      clear hbel
      generalize w2 = W2 at *
      have hbel : Below W2.heap.size W2 W2 := Below.refl _ _
      have hlt := HZ2.out.lt
      have HV2 := Lib.hid (HVG.out W2 HB2.out)
      have HF2 := Lib.hid (show ∀ b ∈ (w.heap.size :: (w.heap.size + 1) :: F), b < W2.heap.size from fun b hb => by rcases List.mem_cons.1 hb with rfl | hb; omega; rcases List.mem_cons.1 hb with rfl | hb; exact hlt; exact HFW.out W2 HB2.out b hb)
      go_upto_region 9 with (go_at_call 96; (with_reducible refine (CD.out _ _ HV2.out HF2.out).mono ?_); rintro e w8 ⟨v8, rfl, hR8, hb8⟩; have HVq := Lib.hid hR8; obtain ⟨oa2, oc2, ba2, bc2, ia2, ic2, rfl, hO2, hL2, hI2, hN2⟩ := hR8; have hbo2 := hO2.2; have hbb2 := hL2.2; have hbi2 := hI2.2; have HRI2 := Lib.hid hI2; clear hO2 hL2 hI2 hN2; have HBq := Lib.hid hb8; clear hb8; have y0 := (HP2.out.later HBq.out).cell (j := 0) rfl; have y1 := (HP2.out.later HBq.out).cell (j := 1) rfl; have y2 := (HP2.out.later HBq.out).cell (j := 2) rfl; have y3 := (HP2.out.later HBq.out).cell (j := 3) rfl; have yf := (HP2.out.later HBq.out).frozen)
      clear y0 y1 y2 y3 yf hbel pp0 pp1 pp2 pp3
      have HF3 := Lib.hid (show ∀ b ∈ (w.heap.size :: (w.heap.size + 1) :: F), b < w8.heap.size from fun b hb => Nat.lt_of_lt_of_le (HF2.out b hb) HBq.out.size)
      have HSZ := Lib.hid (setsz4 w8 ⟨w.heap.size, 0, none⟩ (.int .i64 K2.retries) ⟨w.heap.size, 1, none⟩ (.slice oa2 K2.outs.length oc2) ⟨w.heap.size, 2, none⟩ (.slice ba2 K2.boxes.length bc2) ⟨w.heap.size, 3, none⟩ (.slice ia2 K2.images.length ic2))
      have HP3 := Lib.hid (((((HP2.out.later HBq.out).set 0 (.int .i64 K2.retries)).set 1 (.slice oa2 K2.outs.length oc2)).set 2 (.slice ba2 K2.boxes.length bc2)).set 3 (.slice ia2 K2.images.length ic2))
      have HZ3 := Lib.hid ((HZ2.out.later HBq.out).apart (((((Apart.refl [w.heap.size] w8).set ⟨w.heap.size, 0, none⟩ (.int .i64 K2.retries) (by simp)).set ⟨w.heap.size, 1, none⟩ (.slice oa2 K2.outs.length oc2) (by simp)).set ⟨w.heap.size, 2, none⟩ (.slice ba2 K2.boxes.length bc2) (by simp)).set ⟨w.heap.size, 3, none⟩ (.slice ia2 K2.images.length ic2) (by simp)) (by simp))
      have HB3 := Lib.hid (belSet (belSet (belSet (belSet (belStep HB2.out HBq.out) ⟨w.heap.size, 0, none⟩ (.int .i64 K2.retries) (Nat.le_refl _)) ⟨w.heap.size, 1, none⟩ (.slice oa2 K2.outs.length oc2) (Nat.le_refl _)) ⟨w.heap.size, 2, none⟩ (.slice ba2 K2.boxes.length bc2) (Nat.le_refl _)) ⟨w.heap.size, 3, none⟩ (.slice ia2 K2.images.length ic2) (Nat.le_refl _))
      have HV3 := Lib.hid (HVq.out.apart (((((Apart.refl (w.heap.size :: (w.heap.size + 1) :: F) w8).set ⟨w.heap.size, 0, none⟩ (.int .i64 K2.retries) List.mem_cons_self).set ⟨w.heap.size, 1, none⟩ (.slice oa2 K2.outs.length oc2) List.mem_cons_self).set ⟨w.heap.size, 2, none⟩ (.slice ba2 K2.boxes.length bc2) List.mem_cons_self).set ⟨w.heap.size, 3, none⟩ (.slice ia2 K2.images.length ic2) List.mem_cons_self))
      clear HP2 HZ2 HB2 HV2 HBq HVq
      generalize (World.setCell (World.setCell (World.setCell (World.setCell w8 ⟨w.heap.size, 0, none⟩ (.int .i64 K2.retries)) ⟨w.heap.size, 1, none⟩ (.slice oa2 K2.outs.length oc2)) ⟨w.heap.size, 2, none⟩ (.slice ba2 K2.boxes.length bc2)) ⟨w.heap.size, 3, none⟩ (.slice ia2 K2.images.length ic2)) = W9 at *
      have pp0 := keep (HP3.out.cell (j := 0) rfl)
      have pp1 := keep (HP3.out.cell (j := 1) rfl)
      have pp2 := keep (HP3.out.cell (j := 2) rfl)
      have pp3 := keep (HP3.out.cell (j := 3) rfl)
      have HP2 := HP3
      have HZ2 := HZ3
      have HB2 := HB3
      have HV2 := HV3
      clear HP3 HZ3 HB3 HV3
      have hbel : Below W9.heap.size W9 W9 := Below.refl _ _
      replace HF2 := Lib.hid (show ∀ b ∈ (w.heap.size :: (w.heap.size + 1) :: F), b < W9.heap.size from fun b hb => by rw [HSZ.out]; exact HF3.out b hb)
      clear HF3 HSZ
      obtain ⟨M, hM⟩ : ∃ M, putI K2.images nm size round = M := ⟨_, rfl⟩
      have CPU := Lib.hid (fun (_ : Unit) => iref_Put ia2 K2.images.length ic2 K2.images nm size round W9 rfl HV2.out.rowI HKR.out (Nat.le_trans HKL.out (by omega)))
      simp only [hM] at CPU HE
      obtain ⟨n, hn⟩ : ∃ n, M.length = n := ⟨_, rfl⟩
      rw [hn] at CPU
      have HNL := Lib.hid hn
      clear hM hn
      go_upto_region 11 with (go_at_call 98; (with_reducible refine (CPU.out ()).mono ?_); rintro e w9 ⟨v9, rfl, ho9, hb9⟩; obtain ⟨na, nc, e9, hr9⟩ := rowR_of_own ho9; subst e9; have HO9 := Lib.hid ho9; have HB9 := Lib.hid hb9; have y3 := (HP2.out.later hb9).cell (j := 3) rfl; have yf := (HP2.out.later hb9).frozen; clear ho9 hb9 hr9)
      clear y3 yf pp0 pp1 pp2 pp3 hbel
      have HP9 := Lib.hid ((HP2.out.later HB9.out).set 3 (.slice na n nc))
      have HV9 := Lib.hid (((HV2.out.later HB9.out).imgs (own_row HO9.out) HNL.out (notin_own HO9.out HF2.out)).apart ((Apart.refl (w.heap.size :: (w.heap.size + 1) :: F) w9).set ⟨w.heap.size, 3, none⟩ (.slice na n nc) List.mem_cons_self))
      have HZ9 := Lib.hid ((HZ2.out.later HB9.out).apart ((Apart.refl [w.heap.size] w9).set ⟨w.heap.size, 3, none⟩ (.slice na n nc) (by simp)) (by simp))
      have HB10 := Lib.hid (belSet (belStep HB2.out HB9.out) ⟨w.heap.size, 3, none⟩ (.slice na n nc) (Nat.le_refl _))
      generalize w9.setCell ⟨w.heap.size, 3, none⟩ (.slice na n nc) = WA at *
      have pp0 := keep (HP9.out.cell (j := 0) rfl)
      have pp1 := keep (HP9.out.cell (j := 1) rfl)
      have pp2 := keep (HP9.out.cell (j := 2) rfl)
      have pp3 := keep (HP9.out.cell (j := 3) rfl)
      have zz0 := keep (HZ9.out.cell (j := 0) rfl)
      have zz1 := keep (HZ9.out.cell (j := 1) rfl)
      have zz2 := keep (HZ9.out.cell (j := 2) rfl)
      have zz3 := keep (HZ9.out.cell (j := 3) rfl)
      have zf := Blk.keepF HZ9.out
      have hbel : Below WA.heap.size WA WA := Below.refl _ _
      refine wp_region_upc (S := fun u => Below WA.heap.size WA u) [9] (by kernel_rfl) (by exact (show Below WA.heap.size WA _ by repeat (first | assumption | exact Below.refl _ _ | refine belDrew ?_ | refine belAlloc ?_ _ | refine belStep ?_ (by assumption)))) (fun hHeld => ?_)
      refine UpC.take (i := 0) (oi := ?oi_uc7) (v := ?v_uc7) ?hi_uc7 (by kernel_rfl) ?hf_uc7 ?hr_uc7 (by kernel_rfl) ?hQ_uc7 (Or.inl ⟨?hw_uc7, ?hy_uc7⟩) (by assumption) ?rest_uc7
      case hi_uc7 => ((simp only [List.getElem?_toArray, List.getElem?_cons_succ, List.getElem?_cons_zero]); rfl)
      case hf_uc7 => kernel_rfl
      case hr_uc7 => kernel_rfl
      case hQ_uc7 => exact fun _ _ _ h => h
      case hw_uc7 => rfl
      case hy_uc7 => ((intro w hSw; (try dsimp only at hSw); go_simp); all_goals (with_reducible rfl))
      try simp only [Act.put, List.setIfInBounds_toArray, List.set_cons_zero, List.set_cons_succ]
      refine UpC.take (i := 1) (oi := ?oi_uc8) (v := ?v_uc8) ?hi_uc8 (by kernel_rfl) ?hf_uc8 ?hr_uc8 (by kernel_rfl) ?hQ_uc8 (Or.inl ⟨?hw_uc8, ?hy_uc8⟩) (by assumption) ?rest_uc8
      case hi_uc8 => ((simp only [List.getElem?_toArray, List.getElem?_cons_succ, List.getElem?_cons_zero]); rfl)
      case hf_uc8 => kernel_rfl
      case hr_uc8 => kernel_rfl
      case hQ_uc8 => exact fun _ _ _ h => h
      case hw_uc8 => rfl
      case hy_uc8 => ((intro w hSw; (try dsimp only at hSw); go_simp); all_goals (with_reducible rfl))
      try simp only [Act.put, List.setIfInBounds_toArray, List.set_cons_zero, List.set_cons_succ]
      refine UpC.take (i := 2) (oi := ?oi_uc9) (v := ?v_uc9) ?hi_uc9 (by kernel_rfl) ?hf_uc9 ?hr_uc9 (by kernel_rfl) ?hQ_uc9 (Or.inl ⟨?hw_uc9, ?hy_uc9⟩) (by assumption) ?rest_uc9
      case hi_uc9 => ((simp only [List.getElem?_toArray, List.getElem?_cons_succ, List.getElem?_cons_zero]); rfl)
      case hf_uc9 => kernel_rfl
      case hr_uc9 => kernel_rfl
      case hQ_uc9 => exact fun _ _ _ h => h
      case hw_uc9 => rfl
      case hy_uc9 => ((intro w hSw; (try dsimp only at hSw); go_simp); all_goals (with_reducible rfl))
      try simp only [Act.put, List.setIfInBounds_toArray, List.set_cons_zero, List.set_cons_succ]
      refine UpC.take (i := 3) (oi := ?oi_uc10) (v := ?v_uc10) ?hi_uc10 (by kernel_rfl) ?hf_uc10 ?hr_uc10 (by kernel_rfl) ?hQ_uc10 (Or.inl ⟨?hw_uc10, ?hy_uc10⟩) (by assumption) ?rest_uc10
      case hi_uc10 => ((simp only [List.getElem?_toArray, List.getElem?_cons_succ, List.getElem?_cons_zero]); rfl)
      case hf_uc10 => kernel_rfl
      case hr_uc10 => kernel_rfl
      case hQ_uc10 => exact fun _ _ _ h => h
      case hw_uc10 => rfl
      case hy_uc10 => ((intro w hSw; (try dsimp only at hSw); go_simp); all_goals (with_reducible rfl))
      try simp only [Act.put, List.setIfInBounds_toArray, List.set_cons_zero, List.set_cons_succ]
      refine UpC.take (i := 4) (oi := ?oi_uc11) (v := ?v_uc11) ?hi_uc11 (by kernel_rfl) ?hf_uc11 ?hr_uc11 (by kernel_rfl) ?hQ_uc11 (Or.inl ⟨?hw_uc11, ?hy_uc11⟩) (by assumption) ?rest_uc11
      case hi_uc11 => ((simp only [List.getElem?_toArray, List.getElem?_cons_succ, List.getElem?_cons_zero]); rfl)
      case hf_uc11 => kernel_rfl
      case hr_uc11 => kernel_rfl
      case hQ_uc11 => exact fun _ _ _ h => h
      case hw_uc11 => rfl
      case hy_uc11 => ((intro w hSw; (try dsimp only at hSw); go_simp); all_goals (with_reducible rfl))
      try simp only [Act.put, List.setIfInBounds_toArray, List.set_cons_zero, List.set_cons_succ]
      refine UpC.take (i := 5) (oi := ?oi_uc12) (v := ?v_uc12) ?hi_uc12 (by kernel_rfl) ?hf_uc12 ?hr_uc12 (by kernel_rfl) ?hQ_uc12 (Or.inl ⟨?hw_uc12, ?hy_uc12⟩) (by assumption) ?rest_uc12
      case hi_uc12 => ((simp only [List.getElem?_toArray, List.getElem?_cons_succ, List.getElem?_cons_zero]); rfl)
      case hf_uc12 => kernel_rfl
      case hr_uc12 => kernel_rfl
      case hQ_uc12 => exact fun _ _ _ h => h
      case hw_uc12 => rfl
      case hy_uc12 => ((intro w hSw; (try dsimp only at hSw); go_simp); all_goals (with_reducible rfl))
      try simp only [Act.put, List.setIfInBounds_toArray, List.set_cons_zero, List.set_cons_succ]
      refine UpC.take (i := 6) (oi := ?oi_uc13) (v := ?v_uc13) ?hi_uc13 (by kernel_rfl) ?hf_uc13 ?hr_uc13 (by kernel_rfl) ?hQ_uc13 (Or.inl ⟨?hw_uc13, ?hy_uc13⟩) (by assumption) ?rest_uc13
      case hi_uc13 => ((simp only [List.getElem?_toArray, List.getElem?_cons_succ, List.getElem?_cons_zero]); rfl)
      case hf_uc13 => kernel_rfl
      case hr_uc13 => kernel_rfl
      case hQ_uc13 => exact fun _ _ _ h => h
      case hw_uc13 => rfl
      case hy_uc13 => ((intro w hSw; (try dsimp only at hSw); go_simp); all_goals (with_reducible rfl))
      try simp only [Act.put, List.setIfInBounds_toArray, List.set_cons_zero, List.set_cons_succ]
      refine UpC.take (i := 7) (oi := ?oi_uc14) (v := ?v_uc14) ?hi_uc14 (by kernel_rfl) ?hf_uc14 ?hr_uc14 (by kernel_rfl) ?hQ_uc14 (Or.inl ⟨?hw_uc14, ?hy_uc14⟩) (by assumption) ?rest_uc14
      case hi_uc14 => ((simp only [List.getElem?_toArray, List.getElem?_cons_succ, List.getElem?_cons_zero]); rfl)
      case hf_uc14 => kernel_rfl
      case hr_uc14 => kernel_rfl
      case hQ_uc14 => exact fun _ _ _ h => h
      case hw_uc14 => rfl
      case hy_uc14 => ((intro w hSw; (try dsimp only at hSw); go_simp); all_goals (with_reducible rfl))
      try simp only [Act.put, List.setIfInBounds_toArray, List.set_cons_zero, List.set_cons_succ]
      refine UpC.take (i := 8) (oi := ?oi_uc15) (v := ?v_uc15) ?hi_uc15 (by kernel_rfl) ?hf_uc15 ?hr_uc15 (by kernel_rfl) ?hQ_uc15 (Or.inl ⟨?hw_uc15, ?hy_uc15⟩) (by assumption) ?rest_uc15
      case hi_uc15 => ((simp only [List.getElem?_toArray, List.getElem?_cons_succ, List.getElem?_cons_zero]); rfl)
      case hf_uc15 => kernel_rfl
      case hr_uc15 => kernel_rfl
      case hQ_uc15 => exact fun _ _ _ h => h
      case hw_uc15 => rfl
      case hy_uc15 => ((intro w hSw; (try dsimp only at hSw); go_simp); all_goals (with_reducible rfl))
      try simp only [Act.put, List.setIfInBounds_toArray, List.set_cons_zero, List.set_cons_succ]
      refine UpC.one (i := 9) (o := ?o_uc16) (by kernel_rfl) ?hi_uc16 (fun K hK => ?rest_uc16)
      case hi_uc16 => ((simp only [List.getElem?_toArray, List.getElem?_cons_succ, List.getElem?_cons_zero]); rfl)
      go_simp
      refine hK.out _ _ (fun q => absurd q (by decide)) (fun _ => ?_)
      clear hK K
      try simp only [Act.put, List.setIfInBounds_toArray, List.set_cons_zero, List.set_cons_succ]
      refine UpC.one (i := 10) (o := ?o_uc17) (by kernel_rfl) ?hi_uc17 (fun K hK => ?rest_uc17)
      case hi_uc17 => ((simp only [List.getElem?_toArray, List.getElem?_cons_succ, List.getElem?_cons_zero]); rfl)
      go_simp
      refine hK.out _ _ (fun _ h => h) (fun _ => ?_)
      clear hK K
      try simp only [Act.put, List.setIfInBounds_toArray, List.set_cons_zero, List.set_cons_succ]
      refine UpC.done (by kernel_rfl) ?_ _
      go_wp2
      have hfa := Lib.hid (Apart.drew (((((Apart.refl (w.heap.size :: (w.heap.size + 1) :: F) WA).set ⟨w.heap.size + 1, 0, none⟩ (.int .i64 K2.retries) (List.mem_cons_of_mem _ List.mem_cons_self)).set ⟨w.heap.size + 1, 1, none⟩ (.slice oa2 K2.outs.length oc2) (List.mem_cons_of_mem _ List.mem_cons_self)).set ⟨w.heap.size + 1, 2, none⟩ (.slice ba2 K2.boxes.length bc2) (List.mem_cons_of_mem _ List.mem_cons_self)).set ⟨w.heap.size + 1, 3, none⟩ (.slice na n nc) (List.mem_cons_of_mem _ List.mem_cons_self)))
      have hfb := Lib.hid (belDrew (belSet (belSet (belSet (belSet HB10.out ⟨w.heap.size + 1, 0, none⟩ (.int .i64 K2.retries) (Nat.le_succ _)) ⟨w.heap.size + 1, 1, none⟩ (.slice oa2 K2.outs.length oc2) (Nat.le_succ _)) ⟨w.heap.size + 1, 2, none⟩ (.slice ba2 K2.boxes.length bc2) (Nat.le_succ _)) ⟨w.heap.size + 1, 3, none⟩ (.slice na n nc) (Nat.le_succ _)))
      refine r16pull_ret _ (w.heap.size + 1) _ _ oa2 _ oc2 ba2 _ bc2 na n nc true false 0 _ rfl rfl rfl rfl  ((((HZ9.out.set 0 (.int .i64 K2.retries)).set 1 (.slice oa2 K2.outs.length oc2)).set 2 (.slice ba2 K2.boxes.length bc2)).set 3 (.slice na n nc)) ⟨_, by rw [HE.out.1, HE.out.2.1, HC0.out], ?_, hfb.out⟩
      rw [HE.out.2.2]
      exact (HV9.out.apart hfa.out).more (fun b hb => .inl (List.mem_cons_of_mem _ (List.mem_cons_of_mem _ hb)))
  · have hc1 : (c0 == 0) = false := by rw [beq_eq_false_iff_ne]; exact h0
    have hc2 : (c0 != 0) = true := by rw [bne, hc1]; rfl
    have HE := Lib.hid (show pullB m s nm = false ∧ pullN m s nm = false ∧ pullW m s nm size round = m by have h9 : ¬ mayC m.boxes s 1 = 0 := (by rw [HC0.out]; exact h0); unfold pullB pullN pullW; rw [if_neg h9, if_neg h9, if_neg h9]; exact ⟨rfl, rfl, rfl⟩)
    clear h0
    go_upto_region 3 with (go_at_call 94; (with_reducible refine (CMM.out _ _ (HV.out.later (belStep HB.out hbel)) (HFW.out _ (belStep HB.out hbel))).mono ?_); rintro e w2 ⟨rfl, hb_⟩; have hbz := belStep hbel hb_; clear hbel; have hbel := hbz; clear hbz hb_)
    have HZ2 := Lib.hid (HZ.out.later hbel)
    have HP2 := Lib.hid (HP.out.later hbel)
    have HB2 := Lib.hid (belStep HB.out hbel)
    replace pp0 := keepOn pp0 hbel
    replace pp1 := keepOn pp1 hbel
    replace pp2 := keepOn pp2 hbel
    replace pp3 := keepOn pp3 hbel
    clear hbel
    generalize w2 = W2 at *
    have hbel : Below W2.heap.size W2 W2 := Below.refl _ _
    have zz0 := keep (HZ2.out.cell (j := 0) rfl)
    have zz1 := keep (HZ2.out.cell (j := 1) rfl)
    have zz2 := keep (HZ2.out.cell (j := 2) rfl)
    have zz3 := keep (HZ2.out.cell (j := 3) rfl)
    have zf := Blk.keepF HZ2.out
    refine wp_region_upc (S := fun u => Below W2.heap.size W2 u) [4] (by kernel_rfl) (by exact (show Below W2.heap.size W2 _ by repeat (first | assumption | exact Below.refl _ _ | refine belDrew ?_ | refine belAlloc ?_ _ | refine belStep ?_ (by assumption)))) (fun hHeld => ?_)
    refine UpC.take (i := 0) (oi := ?oi_uc1) (v := ?v_uc1) ?hi_uc1 (by kernel_rfl) ?hf_uc1 ?hr_uc1 (by kernel_rfl) ?hQ_uc1 (Or.inl ⟨?hw_uc1, ?hy_uc1⟩) (by assumption) ?rest_uc1
    case hi_uc1 => ((simp only [List.getElem?_toArray, List.getElem?_cons_succ, List.getElem?_cons_zero]); rfl)
    case hf_uc1 => kernel_rfl
    case hr_uc1 => kernel_rfl
    case hQ_uc1 => exact fun _ _ _ h => h
    case hw_uc1 => rfl
    case hy_uc1 => ((intro w hSw; (try dsimp only at hSw); go_simp); all_goals (with_reducible rfl))
    try simp only [Act.put, List.setIfInBounds_toArray, List.set_cons_zero, List.set_cons_succ]
    refine UpC.pure (i := 1) (oi := ?oi_uc2) (v := ?v_uc2) ?hi_uc2 (by kernel_rfl) ?hf_uc2 ?hr_uc2 ?hQ_uc2 (Or.inl ⟨?hw_uc2, ?hy_uc2⟩) ?rest_uc2
    case hi_uc2 => ((simp only [List.getElem?_toArray, List.getElem?_cons_succ, List.getElem?_cons_zero]); rfl)
    case hf_uc2 => kernel_rfl
    case hr_uc2 => kernel_rfl
    case hQ_uc2 => exact fun _ _ _ h => h
    case hw_uc2 => rfl
    case hy_uc2 => ((intro w hSw; (try dsimp only at hSw); go_simp); all_goals (with_reducible rfl))
    try simp only [Act.put, List.setIfInBounds_toArray, List.set_cons_zero, List.set_cons_succ]
    refine UpC.take (i := 2) (oi := ?oi_uc3) (v := ?v_uc3) ?hi_uc3 (by kernel_rfl) ?hf_uc3 ?hr_uc3 (by kernel_rfl) ?hQ_uc3 (Or.inl ⟨?hw_uc3, ?hy_uc3⟩) (by assumption) ?rest_uc3
    case hi_uc3 => ((simp only [List.getElem?_toArray, List.getElem?_cons_succ, List.getElem?_cons_zero]); rfl)
    case hf_uc3 => kernel_rfl
    case hr_uc3 => kernel_rfl
    case hQ_uc3 => exact fun _ _ _ h => h
    case hw_uc3 => rfl
    case hy_uc3 => ((intro w hSw; (try dsimp only at hSw); go_simp); all_goals (with_reducible rfl))
    try simp only [Act.put, List.setIfInBounds_toArray, List.set_cons_zero, List.set_cons_succ]
    refine UpC.take (i := 3) (oi := ?oi_uc4) (v := ?v_uc4) ?hi_uc4 (by kernel_rfl) ?hf_uc4 ?hr_uc4 (by kernel_rfl) ?hQ_uc4 (Or.inl ⟨?hw_uc4, ?hy_uc4⟩) (by assumption) ?rest_uc4
    case hi_uc4 => ((simp only [List.getElem?_toArray, List.getElem?_cons_succ, List.getElem?_cons_zero]); rfl)
    case hf_uc4 => kernel_rfl
    case hr_uc4 => kernel_rfl
    case hQ_uc4 => exact fun _ _ _ h => h
    case hw_uc4 => rfl
    case hy_uc4 => ((intro w hSw; (try dsimp only at hSw); go_simp); all_goals (with_reducible rfl))
    try simp only [Act.put, List.setIfInBounds_toArray, List.set_cons_zero, List.set_cons_succ]
    refine UpC.one (i := 4) (o := ?o_uc5) (by kernel_rfl) ?hi_uc5 (fun K hK => ?rest_uc5)
    case hi_uc5 => ((simp only [List.getElem?_toArray, List.getElem?_cons_succ, List.getElem?_cons_zero]); rfl)
    go_simp
    refine hK.out _ _ (fun q => absurd q (by decide)) (fun _ => ?_)
    clear hK K
    try simp only [Act.put, List.setIfInBounds_toArray, List.set_cons_zero, List.set_cons_succ]
    refine UpC.one (i := 5) (o := ?o_uc6) (by kernel_rfl) ?hi_uc6 (fun K hK => ?rest_uc6)
    case hi_uc6 => ((simp only [List.getElem?_toArray, List.getElem?_cons_succ, List.getElem?_cons_zero]); rfl)
    go_simp
    refine hK.out _ _ (fun _ h => h) (fun _ => ?_)
    clear hK K
    try simp only [Act.put, List.setIfInBounds_toArray, List.set_cons_zero, List.set_cons_succ]
    refine UpC.done (by kernel_rfl) ?_ _
    go_wp2
    have hfb := Lib.hid (belDrew (belSet (belSet (belSet (belSet HB2.out ⟨w.heap.size + 1, 0, none⟩ (.int .i64 m.retries) (Nat.le_succ _)) ⟨w.heap.size + 1, 1, none⟩ (.slice oa m.outs.length oc) (Nat.le_succ _)) ⟨w.heap.size + 1, 2, none⟩ (.slice ba m.boxes.length bc) (Nat.le_succ _)) ⟨w.heap.size + 1, 3, none⟩ (.slice ia m.images.length ic) (Nat.le_succ _)))
    refine r16pull_ret _ (w.heap.size + 1) _ _ oa _ oc ba _ bc ia _ ic false false c0 _ rfl rfl rfl rfl  ((((HZ2.out.set 0 (.int .i64 m.retries)).set 1 (.slice oa m.outs.length oc)).set 2 (.slice ba m.boxes.length bc)).set 3 (.slice ia m.images.length ic)) ⟨_, by rw [HE.out.1, HE.out.2.1, HC0.out], ?_, hfb.out⟩
    rw [HE.out.2.2]
    exact HV.out.later hfb.out
end Go.Proofs.Ytcnjcldfbidkmaa
