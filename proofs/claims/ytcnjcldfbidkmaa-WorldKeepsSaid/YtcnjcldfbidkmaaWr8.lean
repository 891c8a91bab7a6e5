
/- The reference of stage 16: Drop. -/
import Derived.Test.YtcnjcldfbidkmaaWr7
namespace Go.Proofs.Ytcnjcldfbidkmaa
open Go.RowKit Go.Sort
set_option linter.unusedVariables false
set_option linter.unusedSimpArgs false
theorem RIs.imgs {F : List Nat} {u : World} {r : Int} {oa ba : Option Addr} {no oc nb bc : Nat} {i : Value} {m : WorldV} {M : List ImgV} {na : Option Addr} {n nc : Nat} (h : RIs F u (.agg #[.int .i64 r, .slice oa no oc, .slice ba nb bc, i]) m) (hr : Row u na n nc 3 (M.flatMap ImgV.cells)) (hM : M.length = n) (hN : NotIn F na M) :
    RIs F u (.agg #[.int .i64 r, .slice oa no oc, .slice ba nb bc, .slice na n nc]) { m with images := M } := by
  obtain ⟨_, _, _, _, _, _, e, h1, h2, h3, n1, n2, n3⟩ := h
  simp only [Value.agg.injEq, Array.mk.injEq, List.cons.injEq, Value.slice.injEq, Value.int.injEq, true_and, and_true] at e
  obtain ⟨rfl, ⟨rfl, rfl, rfl⟩, ⟨rfl, rfl, rfl⟩, _⟩ := e
  subst hM
  exact ⟨_, _, _, _, _, _, rfl, h1, h2, hr, n1, n2, hN⟩
theorem Apart.drew {F : List Nat} {u v : World} (h : Apart F u v) : Apart F u v.drew := ⟨h.os, h.tape, h.output, h.size, h.block⟩
theorem placeR_pos {L : List ImgV} {s : ByteArray} (h : thereB L s = true) : ∃ q : Nat, placeR L s = (q : Int) := ⟨_, by unfold placeR; rw [if_pos h]⟩
theorem r16drop_ret (W : World) (R : Nat) (tm : Array Value) (r : Int) (oa : Option Addr) (on oc : Nat) (ba : Option Addr) (bn bc : Nat) (ia : Option Addr) (inn ic : Nat) (c : Bool) (d : Int) (Q : Ending → World → Prop) (h0 : tm.getD 4 undef = .bool c) (h1 : tm.getD 5 undef = .pointer (some ⟨R, 0, none⟩)) (h2 : tm.getD 6 undef = .int .i64 d) (hb : Blk W R [.int .i64 r, .slice oa on oc, .slice ba bn bc, .slice ia inn ic] 31) (hR : Q (.returned (.tuple #[.bool c, .agg #[.int .i64 r, .slice oa on oc, .slice ba bn bc, .slice ia inn ic], .int .i64 d])) W) :
    bodyPost Try.prog Try.f62 Q Exit.ret { tmps := tm, defers := [] } W := by
  have z0 := hb.cell (j := 0) rfl
  have z1 := hb.cell (j := 1) rfl
  have z2 := hb.cell (j := 2) rfl
  have z3 := hb.cell (j := 3) rfl
  refine bodyPost_ret (v := .tuple #[.bool c, .agg #[.int .i64 r, .slice oa on oc, .slice ba bn bc, .slice ia inn ic], .int .i64 d]) ?_ rfl hR
  simp only [Array.getD_eq_getD_getElem?] at h0 h1 h2
  simp [results, Try.results62, go_sem, h0, h1, h2, z0, z1, z2, z3]
set_option maxRecDepth 100000 in
set_option maxHeartbeats 64000000 in
theorem r16_Drop (nm : ByteArray) (F : List Nat) (v : Value) (m : WorldV) (w : World) (hv : RIs F w v m) (hF : ∀ b ∈ F, b < w.heap.size) (n : Nat) (hg : m.Good n) (hn : n ≤ 100000) :
    Calls Try.prog 62 #[v, .string nm] w fun e w' => ∃ v', e = .returned (.tuple #[.bool (dropB m nm), v', .int .i64 (dropC m nm)]) ∧ RIs F w' v' (dropW m nm) ∧ Below w.heap.size w w' := by
  have HG := Lib.hid hg
  clear hg
  have HFF := Lib.hid hF
  have HV := Lib.hid hv
  clear hF
  obtain ⟨oa, oc, ba, bc, ia, ic, rfl, hO, hL, hI, hN⟩ := hv
  have hbo : m.outs.length ≤ oc ∧ oc ≤ 9223372036854775807 := by obtain ⟨_, h1, h2, _⟩ := hO; unfold maxLen at h2; exact ⟨h1, h2⟩
  obtain ⟨hbo1, hbo2⟩ := hbo
  have hbb : m.boxes.length ≤ bc ∧ bc ≤ 9223372036854775807 := by obtain ⟨_, h1, h2, _⟩ := hL; unfold maxLen at h2; exact ⟨h1, h2⟩
  obtain ⟨hbb1, hbb2⟩ := hbb
  have hbi : m.images.length ≤ ic ∧ ic ≤ 9223372036854775807 := by obtain ⟨_, h1, h2, _⟩ := hI; unfold maxLen at h2; exact ⟨h1, h2⟩
  obtain ⟨hbi1, hbi2⟩ := hbi
  have HRO := Lib.hid hO
  have HRL := Lib.hid hL
  have HRI := Lib.hid hI
  clear hO hL hI hN
  have hw : Below w.heap.size w w := Below.refl _ _
  have hbel := hw
  go_enter Try.func62, Try.ntmps62
  go_upto_region 1 with fail
  have pp0 : ((w.alloc (.cells #[.int .i64 m.retries, .slice oa m.outs.length oc, .slice ba m.boxes.length bc, .slice ia m.images.length ic] 31)).alloc (.cells #[.int .i64 0, .slice none 0 0, .slice none 0 0, .slice none 0 0] 31)).cell? ⟨w.heap.size, 0, none⟩ = some (.int .i64 m.retries) := by first | (simp; done) | (rw [World.cell?_alloc_at _ _ _ _ (by simp)]; rfl) | (rw [World.cell?_alloc_past _ _ _ (by simp <;> omega), World.cell?_alloc_at _ _ _ _ (by simp)]; rfl) | (rw [World.cell?_alloc_past _ _ _ (by simp <;> omega), World.cell?_alloc_past _ _ _ (by simp <;> omega), World.cell?_alloc_at _ _ _ _ (by simp)]; rfl)
  have pp1 : ((w.alloc (.cells #[.int .i64 m.retries, .slice oa m.outs.length oc, .slice ba m.boxes.length bc, .slice ia m.images.length ic] 31)).alloc (.cells #[.int .i64 0, .slice none 0 0, .slice none 0 0, .slice none 0 0] 31)).cell? ⟨w.heap.size, 1, none⟩ = some (.slice oa m.outs.length oc) := by first | (simp; done) | (rw [World.cell?_alloc_at _ _ _ _ (by simp)]; rfl) | (rw [World.cell?_alloc_past _ _ _ (by simp <;> omega), World.cell?_alloc_at _ _ _ _ (by simp)]; rfl) | (rw [World.cell?_alloc_past _ _ _ (by simp <;> omega), World.cell?_alloc_past _ _ _ (by simp <;> omega), World.cell?_alloc_at _ _ _ _ (by simp)]; rfl)
  have pp2 : ((w.alloc (.cells #[.int .i64 m.retries, .slice oa m.outs.length oc, .slice ba m.boxes.length bc, .slice ia m.images.length ic] 31)).alloc (.cells #[.int .i64 0, .slice none 0 0, .slice none 0 0, .slice none 0 0] 31)).cell? ⟨w.heap.size, 2, none⟩ = some (.slice ba m.boxes.length bc) := by first | (simp; done) | (rw [World.cell?_alloc_at _ _ _ _ (by simp)]; rfl) | (rw [World.cell?_alloc_past _ _ _ (by simp <;> omega), World.cell?_alloc_at _ _ _ _ (by simp)]; rfl) | (rw [World.cell?_alloc_past _ _ _ (by simp <;> omega), World.cell?_alloc_past _ _ _ (by simp <;> omega), World.cell?_alloc_at _ _ _ _ (by simp)]; rfl)
  have pp3 : ((w.alloc (.cells #[.int .i64 m.retries, .slice oa m.outs.length oc, .slice ba m.boxes.length bc, .slice ia m.images.length ic] 31)).alloc (.cells #[.int .i64 0, .slice none 0 0, .slice none 0 0, .slice none 0 0] 31)).cell? ⟨w.heap.size, 3, none⟩ = some (.slice ia m.images.length ic) := by first | (simp; done) | (rw [World.cell?_alloc_at _ _ _ _ (by simp)]; rfl) | (rw [World.cell?_alloc_past _ _ _ (by simp <;> omega), World.cell?_alloc_at _ _ _ _ (by simp)]; rfl) | (rw [World.cell?_alloc_past _ _ _ (by simp <;> omega), World.cell?_alloc_past _ _ _ (by simp <;> omega), World.cell?_alloc_at _ _ _ _ (by simp)]; rfl)
  have zz0 : ((w.alloc (.cells #[.int .i64 m.retries, .slice oa m.outs.length oc, .slice ba m.boxes.length bc, .slice ia m.images.length ic] 31)).alloc (.cells #[.int .i64 0, .slice none 0 0, .slice none 0 0, .slice none 0 0] 31)).cell? ⟨w.heap.size + 1, 0, none⟩ = some (.int .i64 0) := by first | (simp; done) | (rw [World.cell?_alloc_at _ _ _ _ (by simp)]; rfl) | (rw [World.cell?_alloc_past _ _ _ (by simp <;> omega), World.cell?_alloc_at _ _ _ _ (by simp)]; rfl) | (rw [World.cell?_alloc_past _ _ _ (by simp <;> omega), World.cell?_alloc_past _ _ _ (by simp <;> omega), World.cell?_alloc_at _ _ _ _ (by simp)]; rfl)
  have zz1 : ((w.alloc (.cells #[.int .i64 m.retries, .slice oa m.outs.length oc, .slice ba m.boxes.length bc, .slice ia m.images.length ic] 31)).alloc (.cells #[.int .i64 0, .slice none 0 0, .slice none 0 0, .slice none 0 0] 31)).cell? ⟨w.heap.size + 1, 1, none⟩ = some (.slice none 0 0) := by first | (simp; done) | (rw [World.cell?_alloc_at _ _ _ _ (by simp)]; rfl) | (rw [World.cell?_alloc_past _ _ _ (by simp <;> omega), World.cell?_alloc_at _ _ _ _ (by simp)]; rfl) | (rw [World.cell?_alloc_past _ _ _ (by simp <;> omega), World.cell?_alloc_past _ _ _ (by simp <;> omega), World.cell?_alloc_at _ _ _ _ (by simp)]; rfl)
  have zz2 : ((w.alloc (.cells #[.int .i64 m.retries, .slice oa m.outs.length oc, .slice ba m.boxes.length bc, .slice ia m.images.length ic] 31)).alloc (.cells #[.int .i64 0, .slice none 0 0, .slice none 0 0, .slice none 0 0] 31)).cell? ⟨w.heap.size + 1, 2, none⟩ = some (.slice none 0 0) := by first | (simp; done) | (rw [World.cell?_alloc_at _ _ _ _ (by simp)]; rfl) | (rw [World.cell?_alloc_past _ _ _ (by simp <;> omega), World.cell?_alloc_at _ _ _ _ (by simp)]; rfl) | (rw [World.cell?_alloc_past _ _ _ (by simp <;> omega), World.cell?_alloc_past _ _ _ (by simp <;> omega), World.cell?_alloc_at _ _ _ _ (by simp)]; rfl)
  have zz3 : ((w.alloc (.cells #[.int .i64 m.retries, .slice oa m.outs.length oc, .slice ba m.boxes.length bc, .slice ia m.images.length ic] 31)).alloc (.cells #[.int .i64 0, .slice none 0 0, .slice none 0 0, .slice none 0 0] 31)).cell? ⟨w.heap.size + 1, 3, none⟩ = some (.slice none 0 0) := by first | (simp; done) | (rw [World.cell?_alloc_at _ _ _ _ (by simp)]; rfl) | (rw [World.cell?_alloc_past _ _ _ (by simp <;> omega), World.cell?_alloc_at _ _ _ _ (by simp)]; rfl) | (rw [World.cell?_alloc_past _ _ _ (by simp <;> omega), World.cell?_alloc_past _ _ _ (by simp <;> omega), World.cell?_alloc_at _ _ _ _ (by simp)]; rfl)
  have hb2 := (by repeat (first | exact hbel | refine belAlloc ?_ _ | refine belDrew ?_ | refine belSet ?_ _ _ (by simp)) : Below w.heap.size w ((w.alloc (.cells #[.int .i64 m.retries, .slice oa m.outs.length oc, .slice ba m.boxes.length bc, .slice ia m.images.length ic] 31)).alloc (.cells #[.int .i64 0, .slice none 0 0, .slice none 0 0, .slice none 0 0] 31)))
  replace hw := belStep hw hb2
  have ppB : Blk ((w.alloc (.cells #[.int .i64 m.retries, .slice oa m.outs.length oc, .slice ba m.boxes.length bc, .slice ia m.images.length ic] 31)).alloc (.cells #[.int .i64 0, .slice none 0 0, .slice none 0 0, .slice none 0 0] 31)) (w.heap.size) [.int .i64 m.retries, .slice oa m.outs.length oc, .slice ba m.boxes.length bc, .slice ia m.images.length ic] 31 := (Blk.at (by simp) : Blk (w.alloc (.cells #[.int .i64 m.retries, .slice oa m.outs.length oc, .slice ba m.boxes.length bc, .slice ia m.images.length ic] 31)) (w.heap.size) [.int .i64 m.retries, .slice oa m.outs.length oc, .slice ba m.boxes.length bc, .slice ia m.images.length ic] 31).later (by repeat (first | exact Below.refl _ _ | refine belAlloc ?_ _))
  have ppF := Blk.keepF ppB
  replace ppB := Blk.keepB ppB
  have zzB : Blk ((w.alloc (.cells #[.int .i64 m.retries, .slice oa m.outs.length oc, .slice ba m.boxes.length bc, .slice ia m.images.length ic] 31)).alloc (.cells #[.int .i64 0, .slice none 0 0, .slice none 0 0, .slice none 0 0] 31)) (w.heap.size + 1) [.int .i64 0, .slice none 0 0, .slice none 0 0, .slice none 0 0] 31 := (Blk.at (by simp) : Blk ((w.alloc (.cells #[.int .i64 m.retries, .slice oa m.outs.length oc, .slice ba m.boxes.length bc, .slice ia m.images.length ic] 31)).alloc (.cells #[.int .i64 0, .slice none 0 0, .slice none 0 0, .slice none 0 0] 31)) (w.heap.size + 1) [.int .i64 0, .slice none 0 0, .slice none 0 0, .slice none 0 0] 31).later (by repeat (first | exact Below.refl _ _ | refine belAlloc ?_ _))
  have zzF := Blk.keepF zzB
  replace zzB := Blk.keepB zzB
  clear hb2 hbel
  generalize (w.alloc (.cells #[.int .i64 m.retries, .slice oa m.outs.length oc, .slice ba m.boxes.length bc, .slice ia m.images.length ic] 31)).alloc (.cells #[.int .i64 0, .slice none 0 0, .slice none 0 0, .slice none 0 0] 31) = W1 at *
  replace pp0 := keep pp0
  replace pp1 := keep pp1
  replace pp2 := keep pp2
  replace pp3 := keep pp3
  replace zz0 := keep zz0
  replace zz1 := keep zz1
  replace zz2 := keep zz2
  replace zz3 := keep zz3
  have hbel : Below W1.heap.size W1 W1 := Below.refl _ _
  skip
  have HP := Lib.hid (ppB W1 (Below.refl _ _))
  have HZ := Lib.hid (zzB W1 (Below.refl _ _))
  have HB := Lib.hid hw
  clear hw ppB zzB
  clear pp0 pp1 pp2 pp3 zz0 zz1 zz2 zz3 ppF zzF
  have pp0 := keep (HP.out.cell (j := 0) rfl)
  have pp1 := keep (HP.out.cell (j := 1) rfl)
  have pp2 := keep (HP.out.cell (j := 2) rfl)
  have pp3 := keep (HP.out.cell (j := 3) rfl)
  have HFW := Lib.hid (fun u (hu : Below w.heap.size w u) b (hb : b ∈ F) => Nat.lt_of_lt_of_le (HFF.out b hb) hu.size)
  have CP := Lib.hid (fun u (hu : Below w.heap.size w u) => iref_Place ia m.images.length ic m.images nm u rfl (HRI.out.later hu))
  cases hth : thereB m.images nm with
  | false =>
    rw [placeR_no hth] at CP
    have HE := Lib.hid (show dropB m nm = false ∧ dropC m nm = 4 ∧ dropW m nm = m by unfold dropB dropC dropW; rw [hth]; exact ⟨rfl, rfl, rfl⟩)
    clear hth
    go_upto_region 2 with (go_at_call 97; (with_reducible refine (CP.out _ (belStep HB.out hbel)).mono ?_); rintro e w2 ⟨rfl, hb_⟩; have hbz := belStep hbel hb_; clear hbel; have hbel := hbz; clear hbz hb_)
    have HZ2 := Lib.hid (HZ.out.later hbel)
    have HP2 := Lib.hid (HP.out.later hbel)
    have HB2 := Lib.hid (belStep HB.out hbel)
    replace pp0 := keepOn pp0 hbel
    replace pp1 := keepOn pp1 hbel
    replace pp2 := keepOn pp2 hbel
    replace pp3 := keepOn pp3 hbel
    clear hbel
    generalize w2 = W2 at *
    have hbel : Below W2.heap.size W2 W2 := Below.refl _ _
    have zz0 := keep (HZ2.out.cell (j := 0) rfl)
    have zz1 := keep (HZ2.out.cell (j := 1) rfl)
    have zz2 := keep (HZ2.out.cell (j := 2) rfl)
    have zz3 := keep (HZ2.out.cell (j := 3) rfl)
    have zf := Blk.keepF HZ2.out
    refine wp_region_upc (S := fun u => Below W2.heap.size W2 u) [2] (by kernel_rfl) (by exact (show Below W2.heap.size W2 _ by repeat (first | assumption | exact Below.refl _ _ | refine belDrew ?_ | refine belAlloc ?_ _ | refine belStep ?_ (by assumption)))) (fun hHeld => ?_)
    refine UpC.take (i := 0) (oi := ?oi_uc1) (v := ?v_uc1) ?hi_uc1 (by kernel_rfl) ?hf_uc1 ?hr_uc1 (by kernel_rfl) ?hQ_uc1 (Or.inl ⟨?hw_uc1, ?hy_uc1⟩) (by assumption) ?rest_uc1
    case hi_uc1 => ((simp only [List.getElem?_toArray, List.getElem?_cons_succ, List.getElem?_cons_zero]); rfl)
    case hf_uc1 => kernel_rfl
    case hr_uc1 => kernel_rfl
    case hQ_uc1 => exact fun _ _ _ h => h
    case hw_uc1 => rfl
    case hy_uc1 => ((intro w hSw; (try dsimp only at hSw); go_simp); all_goals (with_reducible rfl))
    try simp only [Act.put, List.setIfInBounds_toArray, List.set_cons_zero, List.set_cons_succ]
    refine UpC.take (i := 1) (oi := ?oi_uc2) (v := ?v_uc2) ?hi_uc2 (by kernel_rfl) ?hf_uc2 ?hr_uc2 (by kernel_rfl) ?hQ_uc2 (Or.inl ⟨?hw_uc2, ?hy_uc2⟩) (by assumption) ?rest_uc2
    case hi_uc2 => ((simp only [List.getElem?_toArray, List.getElem?_cons_succ, List.getElem?_cons_zero]); rfl)
    case hf_uc2 => kernel_rfl
    case hr_uc2 => kernel_rfl
    case hQ_uc2 => exact fun _ _ _ h => h
    case hw_uc2 => rfl
    case hy_uc2 => ((intro w hSw; (try dsimp only at hSw); go_simp); all_goals (with_reducible rfl))
    try simp only [Act.put, List.setIfInBounds_toArray, List.set_cons_zero, List.set_cons_succ]
    refine UpC.one (i := 2) (o := ?o_uc3) (by kernel_rfl) ?hi_uc3 (fun K hK => ?rest_uc3)
    case hi_uc3 => ((simp only [List.getElem?_toArray, List.getElem?_cons_succ, List.getElem?_cons_zero]); rfl)
    go_simp
    refine hK.out _ _ (fun q => absurd q (by decide)) (fun _ => ?_)
    clear hK K
    try simp only [Act.put, List.setIfInBounds_toArray, List.set_cons_zero, List.set_cons_succ]
    refine UpC.one (i := 3) (o := ?o_uc4) (by kernel_rfl) ?hi_uc4 (fun K hK => ?rest_uc4)
    case hi_uc4 => ((simp only [List.getElem?_toArray, List.getElem?_cons_succ, List.getElem?_cons_zero]); rfl)
    go_simp
    refine hK.out _ _ (fun _ h => h) (fun _ => ?_)
    clear hK K
    try simp only [Act.put, List.setIfInBounds_toArray, List.set_cons_zero, List.set_cons_succ]
    refine UpC.done (by kernel_rfl) ?_ _
    go_wp2
    have hfb := Lib.hid (belDrew (belSet (belSet (belSet (belSet HB2.out ⟨w.heap.size + 1, 0, none⟩ (.int .i64 m.retries) (Nat.le_succ _)) ⟨w.heap.size + 1, 1, none⟩ (.slice oa m.outs.length oc) (Nat.le_succ _)) ⟨w.heap.size + 1, 2, none⟩ (.slice ba m.boxes.length bc) (Nat.le_succ _)) ⟨w.heap.size + 1, 3, none⟩ (.slice ia m.images.length ic) (Nat.le_succ _)))
    refine r16drop_ret _ (w.heap.size + 1) _ _ oa _ oc ba _ bc ia _ ic false 4 _ rfl rfl rfl  ((((HZ2.out.set 0 (.int .i64 m.retries)).set 1 (.slice oa m.outs.length oc)).set 2 (.slice ba m.boxes.length bc)).set 3 (.slice ia m.images.length ic)) ⟨_, by rw [HE.out.1, HE.out.2.1], ?_, hfb.out⟩
    rw [HE.out.2.2]
    exact HV.out.later hfb.out
  | true =>
    obtain ⟨q, hq⟩ := placeR_pos hth
    rw [hq] at CP
    have q0 : decide ((q : Int) < 0) = false := decide_eq_false (by omega)
    have q1 : ¬ (q : Int) < 0 := by omega
    obtain ⟨well, hwl⟩ : ∃ t, takeB m.outs = t := ⟨_, rfl⟩
    have HE := Lib.hid (show dropB m nm = well ∧ dropC m nm = 0 ∧ dropW m nm = { m.took with images := if well then dropI m.images nm else m.images } by unfold dropB dropC dropW; rw [hth, hwl]; exact ⟨rfl, rfl, rfl⟩)
    have HTK := Lib.hid (good_took HG.out)
    have CN := Lib.hid (fun G v u (h : RIs G u v m) hG => r16_Next G v m u h hG (Nat.le_trans HG.out.outs (by omega)))
    obtain ⟨K, hK⟩ : ∃ k, m.took = k := ⟨_, rfl⟩
    have HKI := Lib.hid (show m.images = K.images by rw [← hK]; rfl)
    rw [hwl, hK] at CN
    rw [hK] at HTK HE
    rw [HKI.out] at HE
    clear hth hq hwl hK
    go_upto_region 3 with (go_at_call 97; (with_reducible refine (CP.out _ (belStep HB.out hbel)).mono ?_); rintro e w2 ⟨rfl, hb_⟩; have hbz := belStep hbel hb_; clear hbel; have hbel := hbz; clear hbz hb_)
    clear q0 q1
    have HZ2 := Lib.hid (HZ.out.later hbel)
    have HP2 := Lib.hid (HP.out.later hbel)
    have HB2 := Lib.hid (belStep HB.out hbel)
    replace pp0 := keepOn pp0 hbel
    replace pp1 := keepOn pp1 hbel
    replace pp2 := keepOn pp2 hbel
    replace pp3 := keepOn pp3 hbel
    have hlt := HZ2.out.lt
    clear hbel
    generalize w2 = W2 at *
    have hbel : Below W2.heap.size W2 W2 := Below.refl _ _
    have HV2 := Lib.hid (show RIs ((w.heap.size + 1) :: F) W2 _ m from ((HV.out.more (G := ((w.heap.size + 1) :: F)) (fun b hb => by rcases List.mem_cons.1 hb with rfl | hb; exact .inr (Nat.le_succ _); exact .inl hb)).later HB2.out))
    have HF2 := Lib.hid (show ∀ b ∈ ((w.heap.size + 1) :: F), b < W2.heap.size from fun b hb => by rcases List.mem_cons.1 hb with rfl | hb; exact hlt; exact HFW.out W2 HB2.out b hb)
    go_upto_region 4 with (go_at_call 95; (with_reducible refine (CN.out _ _ _ HV2.out HF2.out).mono ?_); rintro e w4 ⟨v4, rfl, hR4, hb4⟩; have HV4 := Lib.hid hR4; obtain ⟨oa1, oc1, ba1, bc1, ia1, ic1, rfl, hO1, hL1, hI1, hN1⟩ := hR4; have hbo1 := hO1.2; have hbb1 := hL1.2; have hbi1 := hI1.2; have HRI1 := Lib.hid hI1; clear hO1 hL1 hI1 hN1; have HB4 := Lib.hid hb4; clear hb4)
    have k4 : Below w4.heap.size w4 (w4.alloc (.cells #[.int .i64 K.retries, .slice oa1 K.outs.length oc1, .slice ba1 K.boxes.length bc1, .slice ia1 K.images.length ic1] 31)) := belAlloc (Below.refl _ _) _
    have HX8 := Lib.hid (Blk.new w4 [.int .i64 K.retries, .slice oa1 K.outs.length oc1, .slice ba1 K.boxes.length bc1, .slice ia1 K.images.length ic1] 31)
    have HV8 := Lib.hid ((HV4.out.more (G := w4.heap.size :: (w.heap.size + 1) :: F) (fun b hb => by rcases List.mem_cons.1 hb with rfl | hb; exact .inr (Nat.le_refl _); exact .inl hb)).later k4)
    have HB8 := Lib.hid (belStep HB4.out k4)
    have HI8 := Lib.hid (HRI1.out.later k4)
    clear hbel pp0 pp1 pp2 pp3 k4
    generalize w4.alloc (.cells #[.int .i64 K.retries, .slice oa1 K.outs.length oc1, .slice ba1 K.boxes.length bc1, .slice ia1 K.images.length ic1] 31) = W8 at *
    have hxw : w.heap.size ≤ w4.heap.size := Nat.le_trans HB2.out.size HB4.out.size
    have hxz : w.heap.size + 1 ≠ w4.heap.size := by have h1 := (HZ2.out.later HB4.out).lt; omega
    generalize w4.heap.size = xb at *
    have x0 := keep (HX8.out.cell (j := 0) rfl)
    have x1 := keep (HX8.out.cell (j := 1) rfl)
    have x2 := keep (HX8.out.cell (j := 2) rfl)
    have x3 := keep (HX8.out.cell (j := 3) rfl)
    have hbel : Below W8.heap.size W8 W8 := Below.refl _ _
    have HZ8 := Lib.hid (HZ2.out.later HB8.out)
    have HZ8 := Lib.hid (HZ2.out.later HB8.out)
    have hx8 := HX8.out.lt
    have HF8 := Lib.hid (show ∀ b ∈ (xb :: (w.heap.size + 1) :: F), b < W8.heap.size from fun b hb => by rcases List.mem_cons.1 hb with rfl | hb; exact hx8; exact Nat.lt_of_lt_of_le (HF2.out b hb) HB8.out.size)
    cases well with
    | false =>
      have zz0 := keep (HZ8.out.cell (j := 0) rfl)
      have zz1 := keep (HZ8.out.cell (j := 1) rfl)
      have zz2 := keep (HZ8.out.cell (j := 2) rfl)
      have zz3 := keep (HZ8.out.cell (j := 3) rfl)
      have zf := Blk.keepF HZ8.out
      go_upto_region 6 with fail
      refine wp_region_upc (S := fun u => Below W8.heap.size W8 u) [3] (by kernel_rfl) (by exact (show Below W8.heap.size W8 _ by repeat (first | assumption | exact Below.refl _ _ | refine belDrew ?_ | refine belAlloc ?_ _ | refine belStep ?_ (by assumption)))) (fun hHeld => ?_)
      refine UpC.take (i := 0) (oi := ?oi_uc5) (v := ?v_uc5) ?hi_uc5 (by kernel_rfl) ?hf_uc5 ?hr_uc5 (by kernel_rfl) ?hQ_uc5 (Or.inl ⟨?hw_uc5, ?hy_uc5⟩) (by assumption) ?rest_uc5
      case hi_uc5 => ((simp only [List.getElem?_toArray, List.getElem?_cons_succ, List.getElem?_cons_zero]); rfl)
      case hf_uc5 => kernel_rfl
      case hr_uc5 => kernel_rfl
      case hQ_uc5 => exact fun _ _ _ h => h
      case hw_uc5 => rfl
      case hy_uc5 => ((intro w hSw; (try dsimp only at hSw); go_simp); all_goals (with_reducible rfl))
      try simp only [Act.put, List.setIfInBounds_toArray, List.set_cons_zero, List.set_cons_succ]
      refine UpC.take (i := 1) (oi := ?oi_uc6) (v := ?v_uc6) ?hi_uc6 (by kernel_rfl) ?hf_uc6 ?hr_uc6 (by kernel_rfl) ?hQ_uc6 (Or.inl ⟨?hw_uc6, ?hy_uc6⟩) (by assumption) ?rest_uc6
      case hi_uc6 => ((simp only [List.getElem?_toArray, List.getElem?_cons_succ, List.getElem?_cons_zero]); rfl)
      case hf_uc6 => kernel_rfl
      case hr_uc6 => kernel_rfl
      case hQ_uc6 => exact fun _ _ _ h => h
      case hw_uc6 => rfl
      case hy_uc6 => ((intro w hSw; (try dsimp only at hSw); go_simp); all_goals (with_reducible rfl))
      try simp only [Act.put, List.setIfInBounds_toArray, List.set_cons_zero, List.set_cons_succ]
      refine UpC.take (i := 2) (oi := ?oi_uc7) (v := ?v_uc7) ?hi_uc7 (by kernel_rfl) ?hf_uc7 ?hr_uc7 (by kernel_rfl) ?hQ_uc7 (Or.inl ⟨?hw_uc7, ?hy_uc7⟩) (by assumption) ?rest_uc7
      case hi_uc7 => ((simp only [List.getElem?_toArray, List.getElem?_cons_succ, List.getElem?_cons_zero]); rfl)
      case hf_uc7 => kernel_rfl
      case hr_uc7 => kernel_rfl
      case hQ_uc7 => exact fun _ _ _ h => h
      case hw_uc7 => rfl
      case hy_uc7 => ((intro w hSw; (try dsimp only at hSw); go_simp); all_goals (with_reducible rfl))
      try simp only [Act.put, List.setIfInBounds_toArray, List.set_cons_zero, List.set_cons_succ]
      refine UpC.one (i := 3) (o := ?o_uc8) (by kernel_rfl) ?hi_uc8 (fun K hK => ?rest_uc8)
      case hi_uc8 => ((simp only [List.getElem?_toArray, List.getElem?_cons_succ, List.getElem?_cons_zero]); rfl)
      go_simp
      refine hK.out _ _ (fun q => absurd q (by decide)) (fun _ => ?_)
      clear hK K
      try simp only [Act.put, List.setIfInBounds_toArray, List.set_cons_zero, List.set_cons_succ]
      refine UpC.one (i := 4) (o := ?o_uc9) (by kernel_rfl) ?hi_uc9 (fun K hK => ?rest_uc9)
      case hi_uc9 => ((simp only [List.getElem?_toArray, List.getElem?_cons_succ, List.getElem?_cons_zero]); rfl)
      go_simp
      refine hK.out _ _ (fun _ h => h) (fun _ => ?_)
      clear hK K
      try simp only [Act.put, List.setIfInBounds_toArray, List.set_cons_zero, List.set_cons_succ]
      refine UpC.done (by kernel_rfl) ?_ _
      go_wp2
      have hfa := Lib.hid (Apart.drew (((((Apart.refl (xb :: (w.heap.size + 1) :: F) W8).set ⟨w.heap.size + 1, 0, none⟩ (.int .i64 K.retries) (List.mem_cons_of_mem _ List.mem_cons_self)).set ⟨w.heap.size + 1, 1, none⟩ (.slice oa1 K.outs.length oc1) (List.mem_cons_of_mem _ List.mem_cons_self)).set ⟨w.heap.size + 1, 2, none⟩ (.slice ba1 K.boxes.length bc1) (List.mem_cons_of_mem _ List.mem_cons_self)).set ⟨w.heap.size + 1, 3, none⟩ (.slice ia1 K.images.length ic1) (List.mem_cons_of_mem _ List.mem_cons_self)))
      have hfb := Lib.hid (belDrew (belSet (belSet (belSet (belSet (belStep HB2.out HB8.out) ⟨w.heap.size + 1, 0, none⟩ (.int .i64 K.retries) (Nat.le_succ _)) ⟨w.heap.size + 1, 1, none⟩ (.slice oa1 K.outs.length oc1) (Nat.le_succ _)) ⟨w.heap.size + 1, 2, none⟩ (.slice ba1 K.boxes.length bc1) (Nat.le_succ _)) ⟨w.heap.size + 1, 3, none⟩ (.slice ia1 K.images.length ic1) (Nat.le_succ _)))
      refine r16drop_ret _ (w.heap.size + 1) _ _ oa1 _ oc1 ba1 _ bc1 ia1 _ ic1 false 0 _ rfl rfl rfl  ((((HZ8.out.set 0 (.int .i64 K.retries)).set 1 (.slice oa1 K.outs.length oc1)).set 2 (.slice ba1 K.boxes.length bc1)).set 3 (.slice ia1 K.images.length ic1)) ⟨_, by rw [HE.out.1, HE.out.2.1], ?_, hfb.out⟩
      rw [HE.out.2.2]
      exact (HV8.out.apart hfa.out).more (fun b hb => .inl (List.mem_cons_of_mem _ (List.mem_cons_of_mem _ hb)))
    | true =>
      obtain ⟨M, hM⟩ : ∃ M, dropI K.images nm = M := ⟨_, rfl⟩
      have CD := Lib.hid (fun (_ : Unit) => iref_Drop ia1 K.images.length ic1 K.images nm W8 rfl HI8.out (Nat.le_trans HTK.out.lenI (by omega)))
      simp only [hM] at CD HE
      obtain ⟨n, hn⟩ : ∃ n, M.length = n := ⟨_, rfl⟩
      rw [hn] at CD
      have HNL := Lib.hid hn
      clear hM hn
      go_upto_region 6 with (go_at_call 99; (with_reducible refine (CD.out ()).mono ?_); rintro e w9 ⟨v9, rfl, ho9, hb9⟩; obtain ⟨na, nc, e9, hr9⟩ := rowR_of_own ho9; subst e9; have HO9 := Lib.hid ho9; have HB9 := Lib.hid hb9; have y3 := (HX8.out.later hb9).cell (j := 3) rfl; have yf := (HX8.out.later hb9).frozen; clear ho9 hb9 hr9)
      clear y3 yf x0 x1 x2 x3 hbel
      have HX9 := Lib.hid ((HX8.out.later HB9.out).set 3 (.slice na n nc))
      have HA9 := Lib.hid ((Apart.refl (xb :: (w.heap.size + 1) :: F) w9).set ⟨xb, 3, none⟩ (.slice na n nc) List.mem_cons_self)
      have HV9 := Lib.hid (((HV8.out.later HB9.out).imgs (own_row HO9.out) HNL.out (notin_own HO9.out HF8.out)).apart HA9.out)
      have HZ9 := Lib.hid ((HZ8.out.later HB9.out).apart ((Apart.refl [xb] w9).set ⟨xb, 3, none⟩ (.slice na n nc) (by simp)) (by simpa using hxz))
      have HB10 := Lib.hid (belSet (belStep (belStep HB2.out HB8.out) HB9.out) ⟨xb, 3, none⟩ (.slice na n nc) hxw)
      generalize w9.setCell ⟨xb, 3, none⟩ (.slice na n nc) = W9 at *
      have x0 := keep (HX9.out.cell (j := 0) rfl)
      have x1 := keep (HX9.out.cell (j := 1) rfl)
      have x2 := keep (HX9.out.cell (j := 2) rfl)
      have x3 := keep (HX9.out.cell (j := 3) rfl)
      have zz0 := keep (HZ9.out.cell (j := 0) rfl)
      have zz1 := keep (HZ9.out.cell (j := 1) rfl)
      have zz2 := keep (HZ9.out.cell (j := 2) rfl)
      have zz3 := keep (HZ9.out.cell (j := 3) rfl)
      have zf := Blk.keepF HZ9.out
      have hbel : Below W9.heap.size W9 W9 := Below.refl _ _
      refine wp_region_upc (S := fun u => Below W9.heap.size W9 u) [3] (by kernel_rfl) (by exact (show Below W9.heap.size W9 _ by repeat (first | assumption | exact Below.refl _ _ | refine belDrew ?_ | refine belAlloc ?_ _ | refine belStep ?_ (by assumption)))) (fun hHeld => ?_)
      refine UpC.take (i := 0) (oi := ?oi_uc10) (v := ?v_uc10) ?hi_uc10 (by kernel_rfl) ?hf_uc10 ?hr_uc10 (by kernel_rfl) ?hQ_uc10 (Or.inl ⟨?hw_uc10, ?hy_uc10⟩) (by assumption) ?rest_uc10
      case hi_uc10 => ((simp only [List.getElem?_toArray, List.getElem?_cons_succ, List.getElem?_cons_zero]); rfl)
      case hf_uc10 => kernel_rfl
      case hr_uc10 => kernel_rfl
      case hQ_uc10 => exact fun _ _ _ h => h
      case hw_uc10 => rfl
      case hy_uc10 => ((intro w hSw; (try dsimp only at hSw); go_simp); all_goals (with_reducible rfl))
      try simp only [Act.put, List.setIfInBounds_toArray, List.set_cons_zero, List.set_cons_succ]
      refine UpC.take (i := 1) (oi := ?oi_uc11) (v := ?v_uc11) ?hi_uc11 (by kernel_rfl) ?hf_uc11 ?hr_uc11 (by kernel_rfl) ?hQ_uc11 (Or.inl ⟨?hw_uc11, ?hy_uc11⟩) (by assumption) ?rest_uc11
      case hi_uc11 => ((simp only [List.getElem?_toArray, List.getElem?_cons_succ, List.getElem?_cons_zero]); rfl)
      case hf_uc11 => kernel_rfl
      case hr_uc11 => kernel_rfl
      case hQ_uc11 => exact fun _ _ _ h => h
      case hw_uc11 => rfl
      case hy_uc11 => ((intro w hSw; (try dsimp only at hSw); go_simp); all_goals (with_reducible rfl))
      try simp only [Act.put, List.setIfInBounds_toArray, List.set_cons_zero, List.set_cons_succ]
      refine UpC.take (i := 2) (oi := ?oi_uc12) (v := ?v_uc12) ?hi_uc12 (by kernel_rfl) ?hf_uc12 ?hr_uc12 (by kernel_rfl) ?hQ_uc12 (Or.inl ⟨?hw_uc12, ?hy_uc12⟩) (by assumption) ?rest_uc12
      case hi_uc12 => ((simp only [List.getElem?_toArray, List.getElem?_cons_succ, List.getElem?_cons_zero]); rfl)
      case hf_uc12 => kernel_rfl
      case hr_uc12 => kernel_rfl
      case hQ_uc12 => exact fun _ _ _ h => h
      case hw_uc12 => rfl
      case hy_uc12 => ((intro w hSw; (try dsimp only at hSw); go_simp); all_goals (with_reducible rfl))
      try simp only [Act.put, List.setIfInBounds_toArray, List.set_cons_zero, List.set_cons_succ]
      refine UpC.one (i := 3) (o := ?o_uc13) (by kernel_rfl) ?hi_uc13 (fun K hK => ?rest_uc13)
      case hi_uc13 => ((simp only [List.getElem?_toArray, List.getElem?_cons_succ, List.getElem?_cons_zero]); rfl)
      go_simp
      refine hK.out _ _ (fun q => absurd q (by decide)) (fun _ => ?_)
      clear hK K
      try simp only [Act.put, List.setIfInBounds_toArray, List.set_cons_zero, List.set_cons_succ]
      refine UpC.one (i := 4) (o := ?o_uc14) (by kernel_rfl) ?hi_uc14 (fun K hK => ?rest_uc14)
      case hi_uc14 => ((simp only [List.getElem?_toArray, List.getElem?_cons_succ, List.getElem?_cons_zero]); rfl)
      go_simp
      refine hK.out _ _ (fun _ h => h) (fun _ => ?_)
      clear hK K
      try simp only [Act.put, List.setIfInBounds_toArray, List.set_cons_zero, List.set_cons_succ]
      refine UpC.done (by kernel_rfl) ?_ _
      go_wp2
      have hfa := Lib.hid (Apart.drew (((((Apart.refl (xb :: (w.heap.size + 1) :: F) W9).set ⟨w.heap.size + 1, 0, none⟩ (.int .i64 K.retries) (List.mem_cons_of_mem _ List.mem_cons_self)).set ⟨w.heap.size + 1, 1, none⟩ (.slice oa1 K.outs.length oc1) (List.mem_cons_of_mem _ List.mem_cons_self)).set ⟨w.heap.size + 1, 2, none⟩ (.slice ba1 K.boxes.length bc1) (List.mem_cons_of_mem _ List.mem_cons_self)).set ⟨w.heap.size + 1, 3, none⟩ (.slice na n nc) (List.mem_cons_of_mem _ List.mem_cons_self)))
      have hfb := Lib.hid (belDrew (belSet (belSet (belSet (belSet HB10.out ⟨w.heap.size + 1, 0, none⟩ (.int .i64 K.retries) (Nat.le_succ _)) ⟨w.heap.size + 1, 1, none⟩ (.slice oa1 K.outs.length oc1) (Nat.le_succ _)) ⟨w.heap.size + 1, 2, none⟩ (.slice ba1 K.boxes.length bc1) (Nat.le_succ _)) ⟨w.heap.size + 1, 3, none⟩ (.slice na n nc) (Nat.le_succ _)))
      refine r16drop_ret _ (w.heap.size + 1) _ _ oa1 _ oc1 ba1 _ bc1 na n nc true 0 _ rfl rfl rfl  ((((HZ9.out.set 0 (.int .i64 K.retries)).set 1 (.slice oa1 K.outs.length oc1)).set 2 (.slice ba1 K.boxes.length bc1)).set 3 (.slice na n nc)) ⟨_, by rw [HE.out.1, HE.out.2.1], ?_, hfb.out⟩
      rw [HE.out.2.2]
      exact (HV9.out.apart hfa.out).more (fun b hb => .inl (List.mem_cons_of_mem _ (List.mem_cons_of_mem _ hb)))
end Go.Proofs.Ytcnjcldfbidkmaa
