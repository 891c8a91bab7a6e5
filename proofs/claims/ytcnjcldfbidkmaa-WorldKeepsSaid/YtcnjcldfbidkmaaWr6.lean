
/- The reference of stage 16: Ask. -/
import Derived.Test.YtcnjcldfbidkmaaWr5
namespace Go.Proofs.Ytcnjcldfbidkmaa
open Go.RowKit Go.Sort
set_option linter.unusedVariables false
set_option linter.unusedSimpArgs false
theorem r16ask_ret (W : World) (R : Nat) (tm : Array Value) (r : Int) (oa : Option Addr) (on oc : Nat) (ba : Option Addr) (bn bc : Nat) (ia : Option Addr) (inn ic : Nat) (c : Bool) (d : Int) (Q : Ending → World → Prop) (h0 : tm.getD 8 undef = .bool c) (h1 : tm.getD 9 undef = .pointer (some ⟨R, 0, none⟩)) (h2 : tm.getD 10 undef = .int .i64 d) (hb : Blk W R [.int .i64 r, .slice oa on oc, .slice ba bn bc, .slice ia inn ic] 31) (hR : Q (.returned (.tuple #[.bool c, .agg #[.int .i64 r, .slice oa on oc, .slice ba bn bc, .slice ia inn ic], .int .i64 d])) W) :
    bodyPost Try.prog Try.f60 Q Exit.ret { tmps := tm, defers := [] } W := by
  have z0 := hb.cell (j := 0) rfl
  have z1 := hb.cell (j := 1) rfl
  have z2 := hb.cell (j := 2) rfl
  have z3 := hb.cell (j := 3) rfl
  refine bodyPost_ret (v := .tuple #[.bool c, .agg #[.int .i64 r, .slice oa on oc, .slice ba bn bc, .slice ia inn ic], .int .i64 d]) ?_ rfl hR
  simp only [Array.getD_eq_getD_getElem?] at h0 h1 h2
  simp [results, Try.results60, go_sem, h0, h1, h2, z0, z1, z2, z3]
set_option maxRecDepth 100000 in
set_option maxHeartbeats 64000000 in
theorem r16_Ask (s : ByteArray) (what round : Int) (F : List Nat) (v : Value) (m : WorldV) (w : World) (hv : RIs F w v m) (hF : ∀ b ∈ F, b < w.heap.size) (n : Nat) (hg : m.Good n) (hn : n ≤ 100000) :
    Calls Try.prog 60 #[v, .string s, .int .i64 what, .int .i64 round] w fun e w' => ∃ v', e = .returned (.tuple #[.bool (askB m s what), v', .int .i64 (askC m s what)]) ∧ RIs F w' v' (askW m s what round) ∧ Below w.heap.size w w' := by
  have CM := Lib.hid (fun v u (h : RIs F u v m) (hF : ∀ b ∈ F, b < u.heap.size) => r16_may s what F v m u h hF hg.rises)
  have HG := Lib.hid hg
  clear hg
  have HFF := Lib.hid hF
  have HV := Lib.hid hv
  clear hF
  obtain ⟨oa, oc, ba, bc, ia, ic, rfl, hO, hL, hI, hN⟩ := hv
  have hbo : m.outs.length ≤ oc ∧ oc ≤ 9223372036854775807 := by obtain ⟨_, h1, h2, _⟩ := hO; unfold maxLen at h2; exact ⟨h1, h2⟩
  obtain ⟨hbo1, hbo2⟩ := hbo
  have hbb : m.boxes.length ≤ bc ∧ bc ≤ 9223372036854775807 := by obtain ⟨_, h1, h2, _⟩ := hL; unfold maxLen at h2; exact ⟨h1, h2⟩
  obtain ⟨hbb1, hbb2⟩ := hbb
  have hbi : m.images.length ≤ ic ∧ ic ≤ 9223372036854775807 := by obtain ⟨_, h1, h2, _⟩ := hI; unfold maxLen at h2; exact ⟨h1, h2⟩
  obtain ⟨hbi1, hbi2⟩ := hbi
  have HRO := Lib.hid hO
  have HRL := Lib.hid hL
  have HRI := Lib.hid hI
  clear hO hL hI hN
  have hw : Below w.heap.size w w := Below.refl _ _
  have hbel := hw
  go_enter Try.func60, Try.ntmps60
  go_upto_region 1 with fail
  have pp0 : ((w.alloc (.cells #[.int .i64 m.retries, .slice oa m.outs.length oc, .slice ba m.boxes.length bc, .slice ia m.images.length ic] 31)).alloc (.cells #[.int .i64 0, .slice none 0 0, .slice none 0 0, .slice none 0 0] 31)).cell? ⟨w.heap.size, 0, none⟩ = some (.int .i64 m.retries) := by first | (simp; done) | (rw [World.cell?_alloc_at _ _ _ _ (by simp)]; rfl) | (rw [World.cell?_alloc_past _ _ _ (by simp <;> omega), World.cell?_alloc_at _ _ _ _ (by simp)]; rfl) | (rw [World.cell?_alloc_past _ _ _ (by simp <;> omega), World.cell?_alloc_past _ _ _ (by simp <;> omega), World.cell?_alloc_at _ _ _ _ (by simp)]; rfl)
  have pp1 : ((w.alloc (.cells #[.int .i64 m.retries, .slice oa m.outs.length oc, .slice ba m.boxes.length bc, .slice ia m.images.length ic] 31)).alloc (.cells #[.int .i64 0, .slice none 0 0, .slice none 0 0, .slice none 0 0] 31)).cell? ⟨w.heap.size, 1, none⟩ = some (.slice oa m.outs.length oc) := by first | (simp; done) | (rw [World.cell?_alloc_at _ _ _ _ (by simp)]; rfl) | (rw [World.cell?_alloc_past _ _ _ (by simp <;> omega), World.cell?_alloc_at _ _ _ _ (by simp)]; rfl) | (rw [World.cell?_alloc_past _ _ _ (by simp <;> omega), World.cell?_alloc_past _ _ _ (by simp <;> omega), World.cell?_alloc_at _ _ _ _ (by simp)]; rfl)
  have pp2 : ((w.alloc (.cells #[.int .i64 m.retries, .slice oa m.outs.length oc, .slice ba m.boxes.length bc, .slice ia m.images.length ic] 31)).alloc (.cells #[.int .i64 0, .slice none 0 0, .slice none 0 0, .slice none 0 0] 31)).cell? ⟨w.heap.size, 2, none⟩ = some (.slice ba m.boxes.length bc) := by first | (simp; done) | (rw [World.cell?_alloc_at _ _ _ _ (by simp)]; rfl) | (rw [World.cell?_alloc_past _ _ _ (by simp <;> omega), World.cell?_alloc_at _ _ _ _ (by simp)]; rfl) | (rw [World.cell?_alloc_past _ _ _ (by simp <;> omega), World.cell?_alloc_past _ _ _ (by simp <;> omega), World.cell?_alloc_at _ _ _ _ (by simp)]; rfl)
  have pp3 : ((w.alloc (.cells #[.int .i64 m.retries, .slice oa m.outs.length oc, .slice ba m.boxes.length bc, .slice ia m.images.length ic] 31)).alloc (.cells #[.int .i64 0, .slice none 0 0, .slice none 0 0, .slice none 0 0] 31)).cell? ⟨w.heap.size, 3, none⟩ = some (.slice ia m.images.length ic) := by first | (simp; done) | (rw [World.cell?_alloc_at _ _ _ _ (by simp)]; rfl) | (rw [World.cell?_alloc_past _ _ _ (by simp <;> omega), World.cell?_alloc_at _ _ _ _ (by simp)]; rfl) | (rw [World.cell?_alloc_past _ _ _ (by simp <;> omega), World.cell?_alloc_past _ _ _ (by simp <;> omega), World.cell?_alloc_at _ _ _ _ (by simp)]; rfl)
  have zz0 : ((w.alloc (.cells #[.int .i64 m.retries, .slice oa m.outs.length oc, .slice ba m.boxes.length bc, .slice ia m.images.length ic] 31)).alloc (.cells #[.int .i64 0, .slice none 0 0, .slice none 0 0, .slice none 0 0] 31)).cell? ⟨w.heap.size + 1, 0, none⟩ = some (.int .i64 0) := by first | (simp; done) | (rw [World.cell?_alloc_at _ _ _ _ (by simp)]; rfl) | (rw [World.cell?_alloc_past _ _ _ (by simp <;> omega), World.cell?_alloc_at _ _ _ _ (by simp)]; rfl) | (rw [World.cell?_alloc_past _ _ _ (by simp <;> omega), World.cell?_alloc_past _ _ _ (by simp <;> omega), World.cell?_alloc_at _ _ _ _ (by simp)]; rfl)
  have zz1 : ((w.alloc (.cells #[.int .i64 m.retries, .slice oa m.outs.length oc, .slice ba m.boxes.length bc, .slice ia m.images.length ic] 31)).alloc (.cells #[.int .i64 0, .slice none 0 0, .slice none 0 0, .slice none 0 0] 31)).cell? ⟨w.heap.size + 1, 1, none⟩ = some (.slice none 0 0) := by first | (simp; done) | (rw [World.cell?_alloc_at _ _ _ _ (by simp)]; rfl) | (rw [World.cell?_alloc_past _ _ _ (by simp <;> omega), World.cell?_alloc_at _ _ _ _ (by simp)]; rfl) | (rw [World.cell?_alloc_past _ _ _ (by simp <;> omega), World.cell?_alloc_past _ _ _ (by simp <;> omega), World.cell?_alloc_at _ _ _ _ (by simp)]; rfl)
  have zz2 : ((w.alloc (.cells #[.int .i64 m.retries, .slice oa m.outs.length oc, .slice ba m.boxes.length bc, .slice ia m.images.length ic] 31)).alloc (.cells #[.int .i64 0, .slice none 0 0, .slice none 0 0, .slice none 0 0] 31)).cell? ⟨w.heap.size + 1, 2, none⟩ = some (.slice none 0 0) := by first | (simp; done) | (rw [World.cell?_alloc_at _ _ _ _ (by simp)]; rfl) | (rw [World.cell?_alloc_past _ _ _ (by simp <;> omega), World.cell?_alloc_at _ _ _ _ (by simp)]; rfl) | (rw [World.cell?_alloc_past _ _ _ (by simp <;> omega), World.cell?_alloc_past _ _ _ (by simp <;> omega), World.cell?_alloc_at _ _ _ _ (by simp)]; rfl)
  have zz3 : ((w.alloc (.cells #[.int .i64 m.retries, .slice oa m.outs.length oc, .slice ba m.boxes.length bc, .slice ia m.images.length ic] 31)).alloc (.cells #[.int .i64 0, .slice none 0 0, .slice none 0 0, .slice none 0 0] 31)).cell? ⟨w.heap.size + 1, 3, none⟩ = some (.slice none 0 0) := by first | (simp; done) | (rw [World.cell?_alloc_at _ _ _ _ (by simp)]; rfl) | (rw [World.cell?_alloc_past _ _ _ (by simp <;> omega), World.cell?_alloc_at _ _ _ _ (by simp)]; rfl) | (rw [World.cell?_alloc_past _ _ _ (by simp <;> omega), World.cell?_alloc_past _ _ _ (by simp <;> omega), World.cell?_alloc_at _ _ _ _ (by simp)]; rfl)
  have hb2 := (by repeat (first | exact hbel | refine belAlloc ?_ _ | refine belDrew ?_ | refine belSet ?_ _ _ (by simp)) : Below w.heap.size w ((w.alloc (.cells #[.int .i64 m.retries, .slice oa m.outs.length oc, .slice ba m.boxes.length bc, .slice ia m.images.length ic] 31)).alloc (.cells #[.int .i64 0, .slice none 0 0, .slice none 0 0, .slice none 0 0] 31)))
  replace hw := belStep hw hb2
  have ppB : Blk ((w.alloc (.cells #[.int .i64 m.retries, .slice oa m.outs.length oc, .slice ba m.boxes.length bc, .slice ia m.images.length ic] 31)).alloc (.cells #[.int .i64 0, .slice none 0 0, .slice none 0 0, .slice none 0 0] 31)) (w.heap.size) [.int .i64 m.retries, .slice oa m.outs.length oc, .slice ba m.boxes.length bc, .slice ia m.images.length ic] 31 := (Blk.at (by simp) : Blk (w.alloc (.cells #[.int .i64 m.retries, .slice oa m.outs.length oc, .slice ba m.boxes.length bc, .slice ia m.images.length ic] 31)) (w.heap.size) [.int .i64 m.retries, .slice oa m.outs.length oc, .slice ba m.boxes.length bc, .slice ia m.images.length ic] 31).later (by repeat (first | exact Below.refl _ _ | refine belAlloc ?_ _))
  have ppF := Blk.keepF ppB
  replace ppB := Blk.keepB ppB
  have zzB : Blk ((w.alloc (.cells #[.int .i64 m.retries, .slice oa m.outs.length oc, .slice ba m.boxes.length bc, .slice ia m.images.length ic] 31)).alloc (.cells #[.int .i64 0, .slice none 0 0, .slice none 0 0, .slice none 0 0] 31)) (w.heap.size + 1) [.int .i64 0, .slice none 0 0, .slice none 0 0, .slice none 0 0] 31 := (Blk.at (by simp) : Blk ((w.alloc (.cells #[.int .i64 m.retries, .slice oa m.outs.length oc, .slice ba m.boxes.length bc, .slice ia m.images.length ic] 31)).alloc (.cells #[.int .i64 0, .slice none 0 0, .slice none 0 0, .slice none 0 0] 31)) (w.heap.size + 1) [.int .i64 0, .slice none 0 0, .slice none 0 0, .slice none 0 0] 31).later (by repeat (first | exact Below.refl _ _ | refine belAlloc ?_ _))
  have zzF := Blk.keepF zzB
  replace zzB := Blk.keepB zzB
  clear hb2 hbel
  generalize (w.alloc (.cells #[.int .i64 m.retries, .slice oa m.outs.length oc, .slice ba m.boxes.length bc, .slice ia m.images.length ic] 31)).alloc (.cells #[.int .i64 0, .slice none 0 0, .slice none 0 0, .slice none 0 0] 31) = W1 at *
  replace pp0 := keep pp0
  replace pp1 := keep pp1
  replace pp2 := keep pp2
  replace pp3 := keep pp3
  replace zz0 := keep zz0
  replace zz1 := keep zz1
  replace zz2 := keep zz2
  replace zz3 := keep zz3
  have hbel : Below W1.heap.size W1 W1 := Below.refl _ _
  skip
  have HP := Lib.hid (ppB W1 (Below.refl _ _))
  have HZ := Lib.hid (zzB W1 (Below.refl _ _))
  have HB := Lib.hid hw
  clear hw ppB zzB
  clear pp0 pp1 pp2 pp3 zz0 zz1 zz2 zz3 ppF zzF
  have pp0 := keep (HP.out.cell (j := 0) rfl)
  have pp1 := keep (HP.out.cell (j := 1) rfl)
  have pp2 := keep (HP.out.cell (j := 2) rfl)
  have pp3 := keep (HP.out.cell (j := 3) rfl)
  obtain ⟨c0, hc0⟩ : ∃ c, mayC m.boxes s what = c := ⟨_, rfl⟩
  have CMM := Lib.hid (fun v u (h : RIs F u v m) (hF : ∀ b ∈ F, b < u.heap.size) => hc0 ▸ CM.out v u h hF)
  have HC0 := Lib.hid hc0
  clear hc0 CM
  have HFW := Lib.hid (fun u (hu : Below w.heap.size w u) b (hb : b ∈ F) => Nat.lt_of_lt_of_le (HFF.out b hb) hu.size)
  by_cases h0 : c0 = 0
  · subst h0
    by_cases h1 : what = 1
    · have hq1 : (what == 1) = true := by rw [h1]; rfl
      have HE := Lib.hid (show askB m s what = false ∧ askC m s what = 7 ∧ askW m s what round = m by have h : askC m s what = 7 := (by unfold askC; rw [if_pos HC0.out, if_pos h1]); refine ⟨?_, h, ?_⟩ <;> (first | unfold askB | unfold askW) <;> rw [h] <;> rfl)
      clear h1
      go_upto_region 5 with (go_at_call 94; (with_reducible refine (CMM.out _ _ (HV.out.later (belStep HB.out hbel)) (HFW.out _ (belStep HB.out hbel))).mono ?_); rintro e w2 ⟨rfl, hb_⟩; have hbz := belStep hbel hb_; clear hbel; have hbel := hbz; clear hbz hb_)
      have HZ2 := Lib.hid (HZ.out.later hbel)
      have HB2 := Lib.hid (belStep HB.out hbel)
      replace pp0 := keepOn pp0 hbel
      replace pp1 := keepOn pp1 hbel
      replace pp2 := keepOn pp2 hbel
      replace pp3 := keepOn pp3 hbel
      clear hbel
      generalize w2 = W2 at *
      have hbel : Below W2.heap.size W2 W2 := Below.refl _ _
      have zz0 := keep (HZ2.out.cell (j := 0) rfl)
      have zz1 := keep (HZ2.out.cell (j := 1) rfl)
      have zz2 := keep (HZ2.out.cell (j := 2) rfl)
      have zz3 := keep (HZ2.out.cell (j := 3) rfl)
      have zf := Blk.keepF HZ2.out
      refine wp_region_upc (S := fun u => Below W2.heap.size W2 u) [3] (by kernel_rfl) (by exact (show Below W2.heap.size W2 _ by repeat (first | assumption | exact Below.refl _ _ | refine belDrew ?_ | refine belAlloc ?_ _ | refine belStep ?_ (by assumption)))) (fun hHeld => ?_)
      refine UpC.take (i := 0) (oi := ?oi_uc1) (v := ?v_uc1) ?hi_uc1 (by kernel_rfl) ?hf_uc1 ?hr_uc1 (by kernel_rfl) ?hQ_uc1 (Or.inl ⟨?hw_uc1, ?hy_uc1⟩) (by assumption) ?rest_uc1
      case hi_uc1 => ((simp only [List.getElem?_toArray, List.getElem?_cons_succ, List.getElem?_cons_zero]); rfl)
      case hf_uc1 => kernel_rfl
      case hr_uc1 => kernel_rfl
      case hQ_uc1 => exact fun _ _ _ h => h
      case hw_uc1 => rfl
      case hy_uc1 => ((intro w hSw; (try dsimp only at hSw); go_simp); all_goals (with_reducible rfl))
      try simp only [Act.put, List.setIfInBounds_toArray, List.set_cons_zero, List.set_cons_succ]
      refine UpC.pure (i := 1) (oi := ?oi_uc2) (v := ?v_uc2) ?hi_uc2 (by kernel_rfl) ?hf_uc2 ?hr_uc2 ?hQ_uc2 (Or.inl ⟨?hw_uc2, ?hy_uc2⟩) ?rest_uc2
      case hi_uc2 => ((simp only [List.getElem?_toArray, List.getElem?_cons_succ, List.getElem?_cons_zero]); rfl)
      case hf_uc2 => kernel_rfl
      case hr_uc2 => kernel_rfl
      case hQ_uc2 => exact fun _ _ _ h => h
      case hw_uc2 => rfl
      case hy_uc2 => ((intro w hSw; (try dsimp only at hSw); go_simp); all_goals (with_reducible rfl))
      try simp only [Act.put, List.setIfInBounds_toArray, List.set_cons_zero, List.set_cons_succ]
      refine UpC.take (i := 2) (oi := ?oi_uc3) (v := ?v_uc3) ?hi_uc3 (by kernel_rfl) ?hf_uc3 ?hr_uc3 (by kernel_rfl) ?hQ_uc3 (Or.inl ⟨?hw_uc3, ?hy_uc3⟩) (by assumption) ?rest_uc3
      case hi_uc3 => ((simp only [List.getElem?_toArray, List.getElem?_cons_succ, List.getElem?_cons_zero]); rfl)
      case hf_uc3 => kernel_rfl
      case hr_uc3 => kernel_rfl
      case hQ_uc3 => exact fun _ _ _ h => h
      case hw_uc3 => rfl
      case hy_uc3 => ((intro w hSw; (try dsimp only at hSw); go_simp); all_goals (with_reducible rfl))
      try simp only [Act.put, List.setIfInBounds_toArray, List.set_cons_zero, List.set_cons_succ]
      refine UpC.one (i := 3) (o := ?o_uc4) (by kernel_rfl) ?hi_uc4 (fun K hK => ?rest_uc4)
      case hi_uc4 => ((simp only [List.getElem?_toArray, List.getElem?_cons_succ, List.getElem?_cons_zero]); rfl)
      go_simp
      refine hK.out _ _ (fun q => absurd q (by decide)) (fun _ => ?_)
      clear hK K
      try simp only [Act.put, List.setIfInBounds_toArray, List.set_cons_zero, List.set_cons_succ]
      refine UpC.one (i := 4) (o := ?o_uc5) (by kernel_rfl) ?hi_uc5 (fun K hK => ?rest_uc5)
      case hi_uc5 => ((simp only [List.getElem?_toArray, List.getElem?_cons_succ, List.getElem?_cons_zero]); rfl)
      go_simp
      refine hK.out _ _ (fun _ h => h) (fun _ => ?_)
      clear hK K
      try simp only [Act.put, List.setIfInBounds_toArray, List.set_cons_zero, List.set_cons_succ]
      refine UpC.done (by kernel_rfl) ?_ _
      go_wp2
      have hfb := Lib.hid (belDrew (belSet (belSet (belSet (belSet HB2.out ⟨w.heap.size + 1, 0, none⟩ (.int .i64 m.retries) (Nat.le_succ _)) ⟨w.heap.size + 1, 1, none⟩ (.slice oa m.outs.length oc) (Nat.le_succ _)) ⟨w.heap.size + 1, 2, none⟩ (.slice ba m.boxes.length bc) (Nat.le_succ _)) ⟨w.heap.size + 1, 3, none⟩ (.slice ia m.images.length ic) (Nat.le_succ _)))
      refine r16ask_ret _ (w.heap.size + 1) _ _ oa _ oc ba _ bc ia _ ic false 7 _ rfl rfl rfl  ((((HZ2.out.set 0 (.int .i64 m.retries)).set 1 (.slice oa m.outs.length oc)).set 2 (.slice ba m.boxes.length bc)).set 3 (.slice ia m.images.length ic)) ⟨_, by rw [HE.out.1, HE.out.2.1], ?_, hfb.out⟩
      rw [HE.out.2.2]
      exact HV.out.later hfb.out
    · have hq1 : (what == 1) = false := by rw [beq_eq_false_iff_ne]; exact h1
      have hc : askC m s what = 0 := by unfold askC; rw [if_pos HC0.out, if_neg h1]
      obtain ⟨x, hx, hf, ht, hp, hs⟩ := may_ok HG.out.rises HC0.out
      obtain ⟨well, hwl⟩ : ∃ t, takeB m.outs = t := ⟨_, rfl⟩
      have HE := Lib.hid (show askB m s what = well ∧ askC m s what = 0 ∧ askW m s what round = { m.took with boxes := doL m.boxes s what well round m.retries } by refine ⟨by unfold askB; rw [if_pos hc]; exact hwl, hc, ?_⟩; unfold askW; rw [if_pos hc, hf, hwl, doL_settle what well round m.retries HG.out.rises (fun y hy => (HG.out.ok y hy).2) hx (by obtain ⟨y, hy, he⟩ := thereC_at HG.out.rises ht; cases hx.symm.trans hy; exact he)])
      have HTK := Lib.hid (good_took HG.out)
      obtain ⟨K, hK⟩ : ∃ k, m.took = k := ⟨_, rfl⟩
      have HKK := Lib.hid (show ({ m.took with boxes := doL m.boxes s what well round m.retries } : WorldV) = { K with boxes := doL K.boxes s what well round K.retries } by rw [← hK]; rfl)
      have CN := Lib.hid (fun G v u (h : RIs G u v m) hG => r16_Next G v m u h hG (Nat.le_trans HG.out.outs (by omega)))
      rw [hwl, hK] at CN
      rw [hK] at HTK
      clear hx hf ht hp hs hwl hK hc h1
      go_upto_region 6 with (go_at_call 94; (with_reducible refine (CMM.out _ _ (HV.out.later (belStep HB.out hbel)) (HFW.out _ (belStep HB.out hbel))).mono ?_); rintro e w2 ⟨rfl, hb_⟩; have hbz := belStep hbel hb_; clear hbel; have hbel := hbz; clear hbz hb_)
      have HZ2 := Lib.hid (HZ.out.later hbel)
      have HB2 := Lib.hid (belStep HB.out hbel)
      replace pp0 := keepOn pp0 hbel
      replace pp1 := keepOn pp1 hbel
      replace pp2 := keepOn pp2 hbel
      replace pp3 := keepOn pp3 hbel
      have hlt := HZ2.out.lt
      clear hbel
      generalize w2 = W2 at *
      have hbel : Below W2.heap.size W2 W2 := Below.refl _ _
      have HV2 := Lib.hid (show RIs ((w.heap.size + 1) :: F) W2 _ m from ((HV.out.more (G := (w.heap.size + 1) :: F) (fun b hb => by rcases List.mem_cons.1 hb with rfl | hb; exact .inr (Nat.le_succ _); exact .inl hb)).later HB2.out))
      have HF2 := Lib.hid (show ∀ b ∈ (w.heap.size + 1) :: F, b < W2.heap.size from fun b hb => by rcases List.mem_cons.1 hb with rfl | hb; exact hlt; exact HFW.out W2 HB2.out b hb)
      go_upto_region 7 with (go_at_call 95; (with_reducible refine (CN.out _ _ _ HV2.out HF2.out).mono ?_); rintro e w4 ⟨v4, rfl, hR4, hb4⟩; have HV4 := Lib.hid hR4; obtain ⟨oa1, oc1, ba1, bc1, ia1, ic1, rfl, hO1, hL1, hI1, hN1⟩ := hR4; have hbo1 := hO1.2; have hbb1 := hL1.2; have hbi1 := hI1.2; have HRI1 := Lib.hid hI1; clear hO1 hL1 hI1 hN1; have HB4 := Lib.hid hb4; clear hb4)
      have k4 : Below w4.heap.size w4 (w4.alloc (.cells #[.int .i64 K.retries, .slice oa1 K.outs.length oc1, .slice ba1 K.boxes.length bc1, .slice ia1 K.images.length ic1] 31)) := belAlloc (Below.refl _ _) _
      have HX8 := Lib.hid (Blk.new w4 [.int .i64 K.retries, .slice oa1 K.outs.length oc1, .slice ba1 K.boxes.length bc1, .slice ia1 K.images.length ic1] 31)
      have HV8 := Lib.hid (HV4.out.later k4)
      have HB8 := Lib.hid (belStep HB4.out k4)
      clear hbel pp0 pp1 pp2 pp3 k4
      generalize w4.alloc (.cells #[.int .i64 K.retries, .slice oa1 K.outs.length oc1, .slice ba1 K.boxes.length bc1, .slice ia1 K.images.length ic1] 31) = W8 at *
      generalize w4.heap.size = xb at *
      have x0 := keep (HX8.out.cell (j := 0) rfl)
      have x1 := keep (HX8.out.cell (j := 1) rfl)
      have x2 := keep (HX8.out.cell (j := 2) rfl)
      have x3 := keep (HX8.out.cell (j := 3) rfl)
      have hbel : Below W8.heap.size W8 W8 := Below.refl _ _
      have HF8 := Lib.hid (show ∀ b ∈ (w.heap.size + 1) :: F, b < W8.heap.size from fun b hb => Nat.lt_of_lt_of_le (HF2.out b hb) HB8.out.size)
      have HZ8 := Lib.hid (HZ2.out.later HB8.out)
      have CD := Lib.hid (fun v u (h : RIs ((w.heap.size + 1) :: F) u v K) hG => r16_do s what well round _ v K u h hG HTK.out.ok (Nat.le_trans HTK.out.len (by omega)))
      obtain ⟨K2, hK2⟩ : ∃ k, ({ K with boxes := doL K.boxes s what well round K.retries } : WorldV) = k := ⟨_, rfl⟩
      rw [hK2] at CD HKK
      clear hK2
      go_wp2_with (go_at_call 96; (with_reducible refine (CD.out _ _ HV8.out HF8.out).mono ?_); rintro e WQ ⟨v9, rfl, hR9, hbq⟩; have HV9 := Lib.hid hR9; obtain ⟨oa2, oc2, ba2, bc2, ia2, ic2, rfl, hO2, hL2, hI2, hN2⟩ := hR9; have hbo2 := hO2.2; have hbb2 := hL2.2; have hbi2 := hI2.2; have HRI2 := Lib.hid hI2; clear hO2 hL2 hI2 hN2; have HBQ := Lib.hid (belStep HB8.out hbq); have HZ9 := Lib.hid (HZ8.out.later hbq); have z0 := HZ9.out.cell (j := 0) rfl; have z1 := HZ9.out.cell (j := 1) rfl; have z2 := HZ9.out.cell (j := 2) rfl; have z3 := HZ9.out.cell (j := 3) rfl; have zf := HZ9.out.frozen; clear hbq)
      have hfa := Lib.hid (show Apart ((w.heap.size + 1) :: F) WQ _ from (((((Apart.refl _ _).set ⟨w.heap.size + 1, 0, none⟩ (.int .i64 K2.retries) List.mem_cons_self).set ⟨w.heap.size + 1, 1, none⟩ (.slice oa2 K2.outs.length oc2) List.mem_cons_self).set ⟨w.heap.size + 1, 2, none⟩ (.slice ba2 K2.boxes.length bc2) List.mem_cons_self).set ⟨w.heap.size + 1, 3, none⟩ (.slice ia2 K2.images.length ic2) List.mem_cons_self))
      have hfb := Lib.hid (belSet (belSet (belSet (belSet (belStep HB2.out HBQ.out) ⟨w.heap.size + 1, 0, none⟩ (.int .i64 K2.retries) (Nat.le_succ _)) ⟨w.heap.size + 1, 1, none⟩ (.slice oa2 K2.outs.length oc2) (Nat.le_succ _)) ⟨w.heap.size + 1, 2, none⟩ (.slice ba2 K2.boxes.length bc2) (Nat.le_succ _)) ⟨w.heap.size + 1, 3, none⟩ (.slice ia2 K2.images.length ic2) (Nat.le_succ _))
      refine r16ask_ret _ (w.heap.size + 1) _ _ oa2 _ oc2 ba2 _ bc2 ia2 _ ic2 well 0 _ rfl rfl rfl  ((((HZ9.out.set 0 (.int .i64 K2.retries)).set 1 (.slice oa2 K2.outs.length oc2)).set 2 (.slice ba2 K2.boxes.length bc2)).set 3 (.slice ia2 K2.images.length ic2)) ⟨_, by rw [HE.out.1, HE.out.2.1], ?_, hfb.out⟩
      rw [HE.out.2.2, HKK.out]
      exact (HV9.out.apart hfa.out).more (fun b hb => .inl (List.mem_cons_of_mem _ hb))
  · have hc1 : (c0 == 0) = false := by rw [beq_eq_false_iff_ne]; exact h0
    have hc2 : (c0 != 0) = true := by rw [bne, hc1]; rfl
    have HE := Lib.hid (show askB m s what = false ∧ askC m s what = c0 ∧ askW m s what round = m by have h9 : ¬ mayC m.boxes s what = 0 := (by rw [HC0.out]; exact h0); have h : askC m s what = c0 := (by unfold askC; rw [if_neg h9]; exact HC0.out); refine ⟨?_, h, ?_⟩ <;> (first | unfold askB | unfold askW) <;> rw [h, if_neg h0])
    clear h0
    go_upto_region 5 with (go_at_call 94; (with_reducible refine (CMM.out _ _ (HV.out.later (belStep HB.out hbel)) (HFW.out _ (belStep HB.out hbel))).mono ?_); rintro e w2 ⟨rfl, hb_⟩; have hbz := belStep hbel hb_; clear hbel; have hbel := hbz; clear hbz hb_)
    have HZ2 := Lib.hid (HZ.out.later hbel)
    have HB2 := Lib.hid (belStep HB.out hbel)
    replace pp0 := keepOn pp0 hbel
    replace pp1 := keepOn pp1 hbel
    replace pp2 := keepOn pp2 hbel
    replace pp3 := keepOn pp3 hbel
    clear hbel
    generalize w2 = W2 at *
    have hbel : Below W2.heap.size W2 W2 := Below.refl _ _
    have zz0 := keep (HZ2.out.cell (j := 0) rfl)
    have zz1 := keep (HZ2.out.cell (j := 1) rfl)
    have zz2 := keep (HZ2.out.cell (j := 2) rfl)
    have zz3 := keep (HZ2.out.cell (j := 3) rfl)
    have zf := Blk.keepF HZ2.out
    refine wp_region_upc (S := fun u => Below W2.heap.size W2 u) [3] (by kernel_rfl) (by exact (show Below W2.heap.size W2 _ by repeat (first | assumption | exact Below.refl _ _ | refine belDrew ?_ | refine belAlloc ?_ _ | refine belStep ?_ (by assumption)))) (fun hHeld => ?_)
    refine UpC.take (i := 0) (oi := ?oi_uc6) (v := ?v_uc6) ?hi_uc6 (by kernel_rfl) ?hf_uc6 ?hr_uc6 (by kernel_rfl) ?hQ_uc6 (Or.inl ⟨?hw_uc6, ?hy_uc6⟩) (by assumption) ?rest_uc6
    case hi_uc6 => ((simp only [List.getElem?_toArray, List.getElem?_cons_succ, List.getElem?_cons_zero]); rfl)
    case hf_uc6 => kernel_rfl
    case hr_uc6 => kernel_rfl
    case hQ_uc6 => exact fun _ _ _ h => h
    case hw_uc6 => rfl
    case hy_uc6 => ((intro w hSw; (try dsimp only at hSw); go_simp); all_goals (with_reducible rfl))
    try simp only [Act.put, List.setIfInBounds_toArray, List.set_cons_zero, List.set_cons_succ]
    refine UpC.pure (i := 1) (oi := ?oi_uc7) (v := ?v_uc7) ?hi_uc7 (by kernel_rfl) ?hf_uc7 ?hr_uc7 ?hQ_uc7 (Or.inl ⟨?hw_uc7, ?hy_uc7⟩) ?rest_uc7
    case hi_uc7 => ((simp only [List.getElem?_toArray, List.getElem?_cons_succ, List.getElem?_cons_zero]); rfl)
    case hf_uc7 => kernel_rfl
    case hr_uc7 => kernel_rfl
    case hQ_uc7 => exact fun _ _ _ h => h
    case hw_uc7 => rfl
    case hy_uc7 => ((intro w hSw; (try dsimp only at hSw); go_simp); all_goals (with_reducible rfl))
    try simp only [Act.put, List.setIfInBounds_toArray, List.set_cons_zero, List.set_cons_succ]
    refine UpC.take (i := 2) (oi := ?oi_uc8) (v := ?v_uc8) ?hi_uc8 (by kernel_rfl) ?hf_uc8 ?hr_uc8 (by kernel_rfl) ?hQ_uc8 (Or.inl ⟨?hw_uc8, ?hy_uc8⟩) (by assumption) ?rest_uc8
    case hi_uc8 => ((simp only [List.getElem?_toArray, List.getElem?_cons_succ, List.getElem?_cons_zero]); rfl)
    case hf_uc8 => kernel_rfl
    case hr_uc8 => kernel_rfl
    case hQ_uc8 => exact fun _ _ _ h => h
    case hw_uc8 => rfl
    case hy_uc8 => ((intro w hSw; (try dsimp only at hSw); go_simp); all_goals (with_reducible rfl))
    try simp only [Act.put, List.setIfInBounds_toArray, List.set_cons_zero, List.set_cons_succ]
    refine UpC.one (i := 3) (o := ?o_uc9) (by kernel_rfl) ?hi_uc9 (fun K hK => ?rest_uc9)
    case hi_uc9 => ((simp only [List.getElem?_toArray, List.getElem?_cons_succ, List.getElem?_cons_zero]); rfl)
    go_simp
    refine hK.out _ _ (fun q => absurd q (by decide)) (fun _ => ?_)
    clear hK K
    try simp only [Act.put, List.setIfInBounds_toArray, List.set_cons_zero, List.set_cons_succ]
    refine UpC.one (i := 4) (o := ?o_uc10) (by kernel_rfl) ?hi_uc10 (fun K hK => ?rest_uc10)
    case hi_uc10 => ((simp only [List.getElem?_toArray, List.getElem?_cons_succ, List.getElem?_cons_zero]); rfl)
    go_simp
    refine hK.out _ _ (fun _ h => h) (fun _ => ?_)
    clear hK K
    try simp only [Act.put, List.setIfInBounds_toArray, List.set_cons_zero, List.set_cons_succ]
    refine UpC.done (by kernel_rfl) ?_ _
    go_wp2
    have hfb := Lib.hid (belDrew (belSet (belSet (belSet (belSet HB2.out ⟨w.heap.size + 1, 0, none⟩ (.int .i64 m.retries) (Nat.le_succ _)) ⟨w.heap.size + 1, 1, none⟩ (.slice oa m.outs.length oc) (Nat.le_succ _)) ⟨w.heap.size + 1, 2, none⟩ (.slice ba m.boxes.length bc) (Nat.le_succ _)) ⟨w.heap.size + 1, 3, none⟩ (.slice ia m.images.length ic) (Nat.le_succ _)))
    refine r16ask_ret _ (w.heap.size + 1) _ _ oa _ oc ba _ bc ia _ ic false c0 _ rfl rfl rfl  ((((HZ2.out.set 0 (.int .i64 m.retries)).set 1 (.slice oa m.outs.length oc)).set 2 (.slice ba m.boxes.length bc)).set 3 (.slice ia m.images.length ic)) ⟨_, by rw [HE.out.1, HE.out.2.1], ?_, hfb.out⟩
    rw [HE.out.2.2]
    exact HV.out.later hfb.out
end Go.Proofs.Ytcnjcldfbidkmaa
