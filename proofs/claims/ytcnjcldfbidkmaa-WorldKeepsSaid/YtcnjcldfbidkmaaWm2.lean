
/- Stage 16: same: contract. -/
import Derived.Test.YtcnjcldfbidkmaaWr9
import Derived.Test.YtcnjcldfbidkmaaWlM
namespace Go.Proofs.Ytcnjcldfbidkmaa
open Go.RowKit Go.Sort
set_option linter.unusedVariables false
set_option linter.unusedSimpArgs false
theorem ris_mk {u : World} {oa ba ia : Option Addr} {n1 n2 n3 oc bc ic : Nat} {m : WorldV} (e1 : m.outs.length = n1) (e2 : m.boxes.length = n2) (e3 : m.images.length = n3) (h1 : Row u oa n1 oc 1 (m.outs.map Value.bool)) (h2 : Row u ba n2 bc 4 (m.boxes.flatMap ContV.cells)) (h3 : Row u ia n3 ic 3 (m.images.flatMap ImgV.cells)) :
    RIs [] u (.agg #[.int .i64 0, .slice oa n1 oc, .slice ba n2 bc, .slice ia n3 ic]) ⟨0, m.outs, m.boxes, m.images⟩ := by
  subst e1 e2 e3
  exact ⟨oa, oc, ba, bc, ia, ic, rfl, h1, h2, h3, (fun _ _ _ q => by cases q), (fun _ _ _ q => by cases q), (fun _ _ _ q => by cases q)⟩
set_option maxRecDepth 100000 in
set_option maxHeartbeats 32000000 in
theorem law16_same (M : Nat) (F G : List Nat) (m k : WorldV) (v : Value) (n : Nat) (w : World) (hW : WAt w M M F m) (hg : m.Good n) (hn : n ≤ 100000) (hv : RIs G w v k) :
    Calls Try.prog 22 #[.pointer (some ⟨M, 0, none⟩), v] w fun e w' => e = .returned (.bool (sameC m.boxes k.boxes && sameV m.outs k.outs && sameI m.images k.images)) ∧ Below w.heap.size w w' := by
  have HVV := Lib.hid hv
  have HWW := Lib.hid hW
  obtain ⟨oa, oc, ba, bc, ia, ic, rfl, hO, hL, hI, _⟩ := hv
  have hbo : k.outs.length ≤ oc ∧ oc ≤ 9223372036854775807 := by obtain ⟨_, h1, h2, _⟩ := hO; unfold maxLen at h2; exact ⟨h1, h2⟩
  obtain ⟨hbo1, hbo2⟩ := hbo
  have hbb : k.boxes.length ≤ bc ∧ bc ≤ 9223372036854775807 := by obtain ⟨_, h1, h2, _⟩ := hL; unfold maxLen at h2; exact ⟨h1, h2⟩
  obtain ⟨hbb1, hbb2⟩ := hbb
  have hbi : k.images.length ≤ ic ∧ ic ≤ 9223372036854775807 := by obtain ⟨_, h1, h2, _⟩ := hI; unfold maxLen at h2; exact ⟨h1, h2⟩
  obtain ⟨hbi1, hbi2⟩ := hbi
  have C1 := Lib.hid (fun u (hu : Below w.heap.size w u) => wd_Waiting M M F m u (HWW.out.later hu) (Nat.le_trans hg.outs (by omega)))
  have C2 := Lib.hid (fun u (hu : Below w.heap.size w u) => wd_Containers M M F m u (HWW.out.later hu) (Nat.le_trans hg.len hn))
  have C3 := Lib.hid (fun u (hu : Below w.heap.size w u) => wd_Images M M F m u (HWW.out.later hu) (Nat.le_trans hg.lenI hn))
  clear hO hL hI hW hg
  obtain ⟨res, hres⟩ : ∃ x, (sameC m.boxes k.boxes && sameV m.outs k.outs && sameI m.images k.images) = x := ⟨_, rfl⟩
  have CS := Lib.hid (fun v1 u (h1 : RIs [] u v1 ⟨0, m.outs, m.boxes, m.images⟩) (hu : Below w.heap.size w u) => hres ▸ r16_Same [] G v1 _ ⟨0, m.outs, m.boxes, m.images⟩ k u h1 (HVV.out.later hu))
  rw [hres]
  clear hres
  obtain ⟨n1, hn1⟩ : ∃ n, m.outs.length = n := ⟨_, rfl⟩
  obtain ⟨n2, hn2⟩ : ∃ n, m.boxes.length = n := ⟨_, rfl⟩
  obtain ⟨n3, hn3⟩ : ∃ n, m.images.length = n := ⟨_, rfl⟩
  rw [hn1] at C1
  rw [hn2] at C2
  rw [hn3] at C3
  have HN1 := Lib.hid hn1
  have HN2 := Lib.hid hn2
  have HN3 := Lib.hid hn3
  clear hn1 hn2 hn3
  have hw : Below w.heap.size w w := Below.refl _ _
  have hbel := hw
  go_enter Try.func22, Try.ntmps22
  go_upto_region 1 with fail
  have pp0 : (w.alloc (.cells #[.int .i64 k.retries, .slice oa k.outs.length oc, .slice ba k.boxes.length bc, .slice ia k.images.length ic] 31)).cell? ⟨w.heap.size, 0, none⟩ = some (.int .i64 k.retries) := by first | (simp; done) | (rw [World.cell?_alloc_at _ _ _ _ (by simp)]; rfl) | (rw [World.cell?_alloc_past _ _ _ (by simp <;> omega), World.cell?_alloc_at _ _ _ _ (by simp)]; rfl) | (rw [World.cell?_alloc_past _ _ _ (by simp <;> omega), World.cell?_alloc_past _ _ _ (by simp <;> omega), World.cell?_alloc_at _ _ _ _ (by simp)]; rfl)
  have pp1 : (w.alloc (.cells #[.int .i64 k.retries, .slice oa k.outs.length oc, .slice ba k.boxes.length bc, .slice ia k.images.length ic] 31)).cell? ⟨w.heap.size, 1, none⟩ = some (.slice oa k.outs.length oc) := by first | (simp; done) | (rw [World.cell?_alloc_at _ _ _ _ (by simp)]; rfl) | (rw [World.cell?_alloc_past _ _ _ (by simp <;> omega), World.cell?_alloc_at _ _ _ _ (by simp)]; rfl) | (rw [World.cell?_alloc_past _ _ _ (by simp <;> omega), World.cell?_alloc_past _ _ _ (by simp <;> omega), World.cell?_alloc_at _ _ _ _ (by simp)]; rfl)
  have pp2 : (w.alloc (.cells #[.int .i64 k.retries, .slice oa k.outs.length oc, .slice ba k.boxes.length bc, .slice ia k.images.length ic] 31)).cell? ⟨w.heap.size, 2, none⟩ = some (.slice ba k.boxes.length bc) := by first | (simp; done) | (rw [World.cell?_alloc_at _ _ _ _ (by simp)]; rfl) | (rw [World.cell?_alloc_past _ _ _ (by simp <;> omega), World.cell?_alloc_at _ _ _ _ (by simp)]; rfl) | (rw [World.cell?_alloc_past _ _ _ (by simp <;> omega), World.cell?_alloc_past _ _ _ (by simp <;> omega), World.cell?_alloc_at _ _ _ _ (by simp)]; rfl)
  have pp3 : (w.alloc (.cells #[.int .i64 k.retries, .slice oa k.outs.length oc, .slice ba k.boxes.length bc, .slice ia k.images.length ic] 31)).cell? ⟨w.heap.size, 3, none⟩ = some (.slice ia k.images.length ic) := by first | (simp; done) | (rw [World.cell?_alloc_at _ _ _ _ (by simp)]; rfl) | (rw [World.cell?_alloc_past _ _ _ (by simp <;> omega), World.cell?_alloc_at _ _ _ _ (by simp)]; rfl) | (rw [World.cell?_alloc_past _ _ _ (by simp <;> omega), World.cell?_alloc_past _ _ _ (by simp <;> omega), World.cell?_alloc_at _ _ _ _ (by simp)]; rfl)
  have hb2 := (by repeat (first | exact hbel | refine belAlloc ?_ _ | refine belDrew ?_ | refine belSet ?_ _ _ (by simp)) : Below w.heap.size w (w.alloc (.cells #[.int .i64 k.retries, .slice oa k.outs.length oc, .slice ba k.boxes.length bc, .slice ia k.images.length ic] 31)))
  replace hw := belStep hw hb2
  clear hb2 hbel
  generalize w.alloc (.cells #[.int .i64 k.retries, .slice oa k.outs.length oc, .slice ba k.boxes.length bc, .slice ia k.images.length ic] 31) = W1 at *
  replace pp0 := keep pp0
  replace pp1 := keep pp1
  replace pp2 := keep pp2
  replace pp3 := keep pp3
  have hbel : Below W1.heap.size W1 W1 := Below.refl _ _
  skip
  have HB := Lib.hid hw
  clear hw
  refine wp_region_held_drew (S := fun u => Below W1.heap.size W1 u) (by kernel_rfl) (by exact (show Below W1.heap.size W1 _ by repeat (first | assumption | exact Below.refl _ _ | refine belDrew ?_ | refine belAlloc ?_ _ | refine belStep ?_ (by assumption)))) (fun hHeld => ?_)
  refine wpAnyH_take (i := 0) (oi := ?oi_k1) (v := ?v_k1) ?hi_k1 (by kernel_rfl) ?hf_k1 ?hr_k1 ?hQ_k1 (Or.inl ⟨?hw_k1, ?hy_k1⟩) (by assumption) ?rest_k1
  case hi_k1 => ((simp only [List.getElem?_toArray, List.getElem?_cons_succ, List.getElem?_cons_zero]); rfl)
  case hf_k1 => kernel_rfl
  case hr_k1 => kernel_rfl
  case hQ_k1 => exact fun _ _ _ h => h
  case hw_k1 => rfl
  case hy_k1 => ((intro w hSw; (try dsimp only at hSw); go_simp); all_goals (with_reducible rfl))
  try simp only [Act.put, List.setIfInBounds_toArray, List.set_cons_zero, List.set_cons_succ]
  refine wpAnyH_take (i := 1) (oi := ?oi_k2) (v := ?v_k2) ?hi_k2 (by kernel_rfl) ?hf_k2 ?hr_k2 ?hQ_k2 (Or.inl ⟨?hw_k2, ?hy_k2⟩) (by assumption) ?rest_k2
  case hi_k2 => ((simp only [List.getElem?_toArray, List.getElem?_cons_succ, List.getElem?_cons_zero]); rfl)
  case hf_k2 => kernel_rfl
  case hr_k2 => kernel_rfl
  case hQ_k2 => exact fun _ _ _ h => h
  case hw_k2 => rfl
  case hy_k2 => ((intro w hSw; (try dsimp only at hSw); go_simp); all_goals (with_reducible rfl))
  try simp only [Act.put, List.setIfInBounds_toArray, List.set_cons_zero, List.set_cons_succ]
  refine wpAnyH_take (i := 2) (oi := ?oi_k3) (v := ?v_k3) ?hi_k3 (by kernel_rfl) ?hf_k3 ?hr_k3 ?hQ_k3 (Or.inl ⟨?hw_k3, ?hy_k3⟩) (by assumption) ?rest_k3
  case hi_k3 => ((simp only [List.getElem?_toArray, List.getElem?_cons_succ, List.getElem?_cons_zero]); rfl)
  case hf_k3 => kernel_rfl
  case hr_k3 => kernel_rfl
  case hQ_k3 => exact fun _ _ _ h => h
  case hw_k3 => rfl
  case hy_k3 => ((intro w hSw; (try dsimp only at hSw); go_simp); all_goals (with_reducible rfl))
  try simp only [Act.put, List.setIfInBounds_toArray, List.set_cons_zero, List.set_cons_succ]
  refine wpAnyH_take (i := 4) (oi := ?oi_k4) (v := ?v_k4) ?hi_k4 (by kernel_rfl) ?hf_k4 ?hr_k4 ?hQ_k4 (Or.inl ⟨?hw_k4, ?hy_k4⟩) (by assumption) ?rest_k4
  case hi_k4 => ((simp only [List.getElem?_toArray, List.getElem?_cons_succ, List.getElem?_cons_zero]); rfl)
  case hf_k4 => kernel_rfl
  case hr_k4 => kernel_rfl
  case hQ_k4 => exact fun _ _ _ h => h
  case hw_k4 => rfl
  case hy_k4 => ((intro w hSw; (try dsimp only at hSw); go_simp); all_goals (with_reducible rfl))
  try simp only [Act.put, List.setIfInBounds_toArray, List.set_cons_zero, List.set_cons_succ]
  refine wpAnyH_take (i := 6) (oi := ?oi_k5) (v := ?v_k5) ?hi_k5 (by kernel_rfl) ?hf_k5 ?hr_k5 ?hQ_k5 (Or.inl ⟨?hw_k5, ?hy_k5⟩) (by assumption) ?rest_k5
  case hi_k5 => ((simp only [List.getElem?_toArray, List.getElem?_cons_succ, List.getElem?_cons_zero]); rfl)
  case hf_k5 => kernel_rfl
  case hr_k5 => kernel_rfl
  case hQ_k5 => exact fun _ _ _ h => h
  case hw_k5 => rfl
  case hy_k5 => ((intro w hSw; (try dsimp only at hSw); go_simp); all_goals (with_reducible rfl))
  try simp only [Act.put, List.setIfInBounds_toArray, List.set_cons_zero, List.set_cons_succ]
  refine wpAnyH_take (i := 9) (oi := ?oi_k6) (v := ?v_k6) ?hi_k6 (by kernel_rfl) ?hf_k6 ?hr_k6 ?hQ_k6 (Or.inl ⟨?hw_k6, ?hy_k6⟩) (by assumption) ?rest_k6
  case hi_k6 => ((simp only [List.getElem?_toArray, List.getElem?_cons_succ, List.getElem?_cons_zero]); rfl)
  case hf_k6 => kernel_rfl
  case hr_k6 => kernel_rfl
  case hQ_k6 => exact fun _ _ _ h => h
  case hw_k6 => rfl
  case hy_k6 => ((intro w hSw; (try dsimp only at hSw); go_simp); all_goals (with_reducible rfl))
  try simp only [Act.put, List.setIfInBounds_toArray, List.set_cons_zero, List.set_cons_succ]
  refine wpAnyH_ready (rs := [3]) (by kernel_rfl) (by simp) ?_
  refine AllReadyH.cons (o := ?o1_k7) ?hi_k7 (fun K hK => ?rest_k7) AllReadyH.nil
  case hi_k7 => ((simp only [List.getElem?_toArray, List.getElem?_cons_succ, List.getElem?_cons_zero]); rfl)
  go_simp
  (go_at_call 29; (with_reducible refine (C1.out _ (belStep HB.out hHeld)).mono ?_); rintro e w2 ⟨v2, rfl, ho_, hb_⟩; obtain ⟨a2, c2, e9_, hr_⟩ := rowR_of_own ho_; subst e9_; have HR1 := Lib.hid hr_; clear ho_ hr_)
  try go_simp
  have hH2 := belStep hHeld hb_
  refine hK.out _ _ (by exact hH2) (fun hHeld => ?_)
  clear hK K
  try simp only [Act.put, List.setIfInBounds_toArray, List.set_cons_zero, List.set_cons_succ]
  clear hb_ hH2
  refine wpAnyH_ready (rs := [5]) (by kernel_rfl) (by simp) ?_
  refine AllReadyH.cons (o := ?o1_k8) ?hi_k8 (fun K hK => ?rest_k8) AllReadyH.nil
  case hi_k8 => ((simp only [List.getElem?_toArray, List.getElem?_cons_succ, List.getElem?_cons_zero]); rfl)
  go_simp
  (go_at_call 23; (with_reducible refine (C2.out _ (belStep HB.out hHeld)).mono ?_); rintro e w3 ⟨v3, rfl, ho_, hb_⟩; obtain ⟨a3, c3, e9_, hr_⟩ := rowR_of_own ho_; subst e9_; have HR2 := Lib.hid hr_; clear ho_ hr_)
  try go_simp
  have hH3 := belStep hHeld hb_
  replace HR1 := Lib.hid (HR1.out.later hb_)
  refine hK.out _ _ (by exact hH3) (fun hHeld => ?_)
  clear hK K
  try simp only [Act.put, List.setIfInBounds_toArray, List.set_cons_zero, List.set_cons_succ]
  clear hb_ hH3
  refine wpAnyH_ready (rs := [7]) (by kernel_rfl) (by simp) ?_
  refine AllReadyH.cons (o := ?o1_k9) ?hi_k9 (fun K hK => ?rest_k9) AllReadyH.nil
  case hi_k9 => ((simp only [List.getElem?_toArray, List.getElem?_cons_succ, List.getElem?_cons_zero]); rfl)
  go_simp
  (go_at_call 24; (with_reducible refine (C3.out _ (belStep HB.out hHeld)).mono ?_); rintro e w4 ⟨v4, rfl, ho_, hb_⟩; obtain ⟨a4, c4, e9_, hr_⟩ := rowR_of_own ho_; subst e9_; have HR3 := Lib.hid hr_; clear ho_ hr_)
  try go_simp
  have hH4 := belStep hHeld hb_
  replace HR1 := Lib.hid (HR1.out.later hb_)
  replace HR2 := Lib.hid (HR2.out.later hb_)
  refine hK.out _ _ (by exact hH4) (fun hHeld => ?_)
  clear hK K
  try simp only [Act.put, List.setIfInBounds_toArray, List.set_cons_zero, List.set_cons_succ]
  clear hb_ hH4
  refine wpAnyH_take (i := 8) (oi := ?oi_k10) (v := ?v_k10) ?hi_k10 (by kernel_rfl) ?hf_k10 ?hr_k10 ?hQ_k10 (Or.inl ⟨?hw_k10, ?hy_k10⟩) (by assumption) ?rest_k10
  case hi_k10 => ((simp only [List.getElem?_toArray, List.getElem?_cons_succ, List.getElem?_cons_zero]); rfl)
  case hf_k10 => kernel_rfl
  case hr_k10 => kernel_rfl
  case hQ_k10 => exact fun _ _ _ h => h
  case hw_k10 => rfl
  case hy_k10 => ((intro w hSw; (try dsimp only at hSw); go_simp); all_goals (with_reducible rfl))
  try simp only [Act.put, List.setIfInBounds_toArray, List.set_cons_zero, List.set_cons_succ]
  refine wpAnyH_ready (rs := [10]) (by kernel_rfl) (by simp) ?_
  refine AllReadyH.cons (o := ?o1_k11) ?hi_k11 (fun K hK => ?rest_k11) AllReadyH.nil
  case hi_k11 => ((simp only [List.getElem?_toArray, List.getElem?_cons_succ, List.getElem?_cons_zero]); rfl)
  go_simp
  (go_at_call 66; (with_reducible refine (CS.out _ _ (ris_mk HN1.out HN2.out HN3.out HR1.out HR2.out HR3.out) (belStep HB.out hHeld)).mono ?_); rintro e w5 ⟨rfl, hb_⟩)
  try go_simp
  have hH5 := belStep hHeld hb_
  refine hK.out _ _ (by exact hH5) (fun hHeld => ?_)
  clear hK K
  try simp only [Act.put, List.setIfInBounds_toArray, List.set_cons_zero, List.set_cons_succ]
  refine wpAnyH_take (i := 11) (oi := ?oi_k12) (v := ?v_k12) ?hi_k12 (by kernel_rfl) ?hf_k12 ?hr_k12 ?hQ_k12 (Or.inl ⟨?hw_k12, ?hy_k12⟩) (by assumption) ?rest_k12
  case hi_k12 => ((simp only [List.getElem?_toArray, List.getElem?_cons_succ, List.getElem?_cons_zero]); rfl)
  case hf_k12 => kernel_rfl
  case hr_k12 => kernel_rfl
  case hQ_k12 => exact fun _ _ _ h => h
  case hw_k12 => rfl
  case hy_k12 => ((intro w hSw; (try dsimp only at hSw); go_simp); all_goals (with_reducible rfl))
  try simp only [Act.put, List.setIfInBounds_toArray, List.set_cons_zero, List.set_cons_succ]
  refine wpAnyH_done (by kernel_rfl) ?_ _
  go_wp2
  go_ret
  exact ⟨rfl, belStep HB.out hHeld⟩
end Go.Proofs.Ytcnjcldfbidkmaa
