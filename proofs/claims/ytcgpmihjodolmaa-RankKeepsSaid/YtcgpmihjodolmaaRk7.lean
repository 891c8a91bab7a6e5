
/- bilgeref20.Order: contract. -/
import Derived.Test.YtcgpmihjodolmaaRk6
import Derived.Test.YtcgpmihjodolmaaApp
namespace Go.Proofs.Ytcgpmihjodolmaa
open Go.RowKit
set_option linter.unusedVariables false
set_option linter.unusedSimpArgs false
theorem info_ent : (Try.prog.info? 66).map (fun i => (i.zero, i.size, i.bytes)) = some (some (.agg #[.string ⟨#[]⟩, .int .i64 0, .bool false, .int .i64 0, .int .i64 0, .int .i64 0, .int .i64 0, .int .i64 0, .int .i64 0, .string ⟨#[]⟩, .int .i64 0, .int .i64 0]), 12, 112) := by kernel_rfl
theorem ent_one (x : EntV) : ∀ u ∈ x.cells, u.oneCell' = true := by
  intro u hp
  simp [EntV.cells] at hp
  rcases hp with rfl | rfl | rfl | rfl | rfl | rfl | rfl | rfl | rfl | rfl | rfl | rfl <;> rfl
theorem ents_one (L : List EntV) : ∀ u ∈ L.flatMap EntV.cells, u.oneCell' = true := by
  intro u hu
  obtain ⟨p, _, hp⟩ := List.mem_flatMap.1 hu
  exact ent_one p u hp
theorem add_some (b o m : Nat) : Option.map (fun (x : Addr) => x.add m) (some ⟨b, o, none⟩) = some ⟨b, o + m, none⟩ := by cases m <;> simp [Addr.add]
def lenOf : Value → Nat
  | .slice _ n _ => n
  | _ => 0
theorem order_none {g : Nat} {M : List EntV} {U : List UseV} (h : ∀ x ∈ M, mayE x = false) : orderF g M U = [] := by
  unfold orderF sortK keysF
  rw [show M.filter mayE = [] from List.filter_eq_nil_iff.2 (fun x hx => by rw [h x hx]; simp)]
  rw [List.map_nil, sortBy_nil]; rfl
theorem order_best {g i : Nat} {M : List EntV} {U : List UseV} {x : EntV} (hT : TabOK M) (hi : M[i]? = some x) (hm : mayE x = true) (ha : ∀ y ∈ M, mayE y = true → aheadB g y.pod x.pod U = false) :
    orderF g M U = x.pod.id :: orderF g (M.take i ++ M.drop (i + 1)) U := by
  obtain ⟨hil, hix⟩ := List.getElem?_eq_some_iff.1 hi
  have hM : M = M.take i ++ x :: M.drop (i + 1) := by rw [← hix, ← List.drop_eq_getElem_cons hil, List.take_append_drop]
  have hp : (keyF g x.pod U :: sortK (keysF g (M.take i ++ M.drop (i + 1)) U)).Perm (keysF g M U) := by
    refine ((sortBy_perm _ _).cons _).trans ?_
    have h2 : (x :: (M.take i ++ M.drop (i + 1))).Perm M := by
      conv => rhs; rw [hM]
      exact List.perm_middle.symm
    have h3 := (h2.filter mayE).map (fun e => keyF g e.pod U)
    rw [List.filter_cons_of_pos hm, List.map_cons] at h3
    exact h3
  have hs : (keyF g x.pod U :: sortK (keysF g (M.take i ++ M.drop (i + 1)) U)).Pairwise (fun a b => ltOf cfK b a = false) := by
    refine List.pairwise_cons.2 ⟨fun b hb => ?_, ?_⟩
    · have hb2 := sortBy_mem.1 hb
      unfold keysF at hb2
      obtain ⟨y, hy, rfl⟩ := List.mem_map.1 hb2
      obtain ⟨hy1, hy2⟩ := List.mem_filter.1 hy
      refine ha y ?_ hy2
      rcases List.mem_append.1 hy1 with q | q
      · exact List.mem_of_mem_take q
      · exact List.mem_of_mem_drop q
    · exact (sortBy_pw swo_cfK _).imp (fun h => by simpa using h)
  have h := sortBy_unique swo_cfK (keys_tied hT.dist) hp hs
  have e : orderF g M U = (sortBy (ltOf cfK) (keysF g M U)).map KeyV.id := rfl
  rw [e, ← h, List.map_cons]
  have e2 : orderF g (M.take i ++ M.drop (i + 1)) U = (sortK (keysF g (M.take i ++ M.drop (i + 1)) U)).map KeyV.id := rfl
  rw [e2]
  have e3 : (keyF g x.pod U).id = x.pod.id := by unfold keyF; rfl
  rw [e3]
theorem tab_cut {M : List EntV} (hT : TabOK M) (i : Nat) : TabOK (M.take i ++ M.drop (i + 1)) := by
  have hs : (M.take i ++ M.drop (i + 1)).Sublist M := by
    rw [← List.eraseIdx_eq_take_drop_succ]; exact List.eraseIdx_sublist ..
  refine ⟨Nat.le_trans hs.length_le hT.len, fun x hx => hT.right x (hs.subset hx), ?_⟩
  have hd := hT.dist
  unfold Dist podsOf at *
  exact hd.sublist (hs.map _)
/-- How far the reference's Order has come: M is left, D is told, bb is M's best one. -/
structure OStep (g : Nat) (T : List EntV) (U : List UseV) (M : List EntV) (D : List ByteArray) (bb : Int) : Prop where
  tab : TabOK M
  ok : ∀ x ∈ M, x.ok
  best : BestP g M U bb
  all : orderF g T U = D ++ orderF g M U
  few : D.length + M.length ≤ 64
theorem OStep.next {g i : Nat} {T M : List EntV} {U : List UseV} {D : List ByteArray} {x : EntV} {b2 : Int} (h : OStep g T U M D (i : Int)) (hi : M[i]? = some x) (hm : mayE x = true) (ha : ∀ y ∈ M, mayE y = true → aheadB g y.pod x.pod U = false) (hb : BestP g (M.take i ++ M.drop (i + 1)) U b2) : OStep g T U (M.take i ++ M.drop (i + 1)) (D ++ [x.pod.id]) b2 := by
  have hil := (List.getElem?_eq_some_iff.1 hi).1
  refine ⟨tab_cut h.tab i, fun y hy => ?_, hb, ?_, ?_⟩
  · rcases List.mem_append.1 hy with q | q
    · exact h.ok y (List.mem_of_mem_take q)
    · exact h.ok y (List.mem_of_mem_drop q)
  · rw [h.all, order_best h.tab hi hm ha, List.append_assoc]; rfl
  · have := h.few
    simp only [List.length_append, List.length_take, List.length_drop, List.length_cons, List.length_nil]
    omega
set_option maxRecDepth 100000 in
set_option maxHeartbeats 16000000 in
theorem rref_Order (g : Nat) (G : Int) (ta : Option Addr) (tlen tcap : Nat) (T : List EntV) (t x0 x1 x2 : Int) (a : Option Addr) (len cap : Nat) (U : List UseV) (w : World) (hg : g < 3) (hG : G = g) (hT : TabOK T) (htok : ∀ x ∈ T, x.ok) (htl : T.length = tlen) (hTR : Row w ta tlen tcap 12 (T.flatMap EntV.cells)) (hU : ∀ u ∈ U, UseOK u) (hl : U.length = len) (hR : Row w a len cap 4 (U.flatMap UseV.cells)) :
    Calls Try.prog 50 #[.int .i64 G, .slice ta tlen tcap, .agg #[.int .i64 t, .int .i64 x0, .int .i64 x1, .int .i64 x2, .slice a len cap]] w fun e w' => TextsP w (orderF g T U) e w' ∧ Below w.heap.size w w' := by
  have hw : Below w.heap.size w w := Below.refl _ _
  have hbel := hw
  have hbd_t : tlen ≤ tcap ∧ tcap ≤ 9223372036854775807 := by obtain ⟨_, h1, h2, _⟩ := hTR; unfold maxLen at h2; exact ⟨h1, h2⟩
  obtain ⟨hbd1_t, hbd2_t⟩ := hbd_t
  have HTT := Lib.hid hT
  have hlen : T.length ≤ 64 := hT.len
  have HTO := Lib.hid htok
  have HTR := Lib.hid hTR
  have HR := Lib.hid hR
  have HU := Lib.hid hU
  have HGG := Lib.hid hG
  clear hR hU htok hTR hT hG
  subst hl htl
  go_enter Try.func50, Try.ntmps50
  go_upto_region 1 with fail
  have sp0 : (w.alloc (.cells #[.int .i64 t, .int .i64 x0, .int .i64 x1, .int .i64 x2, .slice a U.length cap] 32)).cell? ⟨w.heap.size, 0, none⟩ = some (.int .i64 t) := by first | (simp; done) | (rw [World.cell?_alloc_at _ _ _ _ (by simp)]; rfl) | (rw [World.cell?_alloc_past _ _ _ (by simp <;> omega), World.cell?_alloc_at _ _ _ _ (by simp)]; rfl) | (rw [World.cell?_alloc_past _ _ _ (by simp <;> omega), World.cell?_alloc_past _ _ _ (by simp <;> omega), World.cell?_alloc_at _ _ _ _ (by simp)]; rfl)
  have sp1 : (w.alloc (.cells #[.int .i64 t, .int .i64 x0, .int .i64 x1, .int .i64 x2, .slice a U.length cap] 32)).cell? ⟨w.heap.size, 1, none⟩ = some (.int .i64 x0) := by first | (simp; done) | (rw [World.cell?_alloc_at _ _ _ _ (by simp)]; rfl) | (rw [World.cell?_alloc_past _ _ _ (by simp <;> omega), World.cell?_alloc_at _ _ _ _ (by simp)]; rfl) | (rw [World.cell?_alloc_past _ _ _ (by simp <;> omega), World.cell?_alloc_past _ _ _ (by simp <;> omega), World.cell?_alloc_at _ _ _ _ (by simp)]; rfl)
  have sp2 : (w.alloc (.cells #[.int .i64 t, .int .i64 x0, .int .i64 x1, .int .i64 x2, .slice a U.length cap] 32)).cell? ⟨w.heap.size, 2, none⟩ = some (.int .i64 x1) := by first | (simp; done) | (rw [World.cell?_alloc_at _ _ _ _ (by simp)]; rfl) | (rw [World.cell?_alloc_past _ _ _ (by simp <;> omega), World.cell?_alloc_at _ _ _ _ (by simp)]; rfl) | (rw [World.cell?_alloc_past _ _ _ (by simp <;> omega), World.cell?_alloc_past _ _ _ (by simp <;> omega), World.cell?_alloc_at _ _ _ _ (by simp)]; rfl)
  have sp3 : (w.alloc (.cells #[.int .i64 t, .int .i64 x0, .int .i64 x1, .int .i64 x2, .slice a U.length cap] 32)).cell? ⟨w.heap.size, 3, none⟩ = some (.int .i64 x2) := by first | (simp; done) | (rw [World.cell?_alloc_at _ _ _ _ (by simp)]; rfl) | (rw [World.cell?_alloc_past _ _ _ (by simp <;> omega), World.cell?_alloc_at _ _ _ _ (by simp)]; rfl) | (rw [World.cell?_alloc_past _ _ _ (by simp <;> omega), World.cell?_alloc_past _ _ _ (by simp <;> omega), World.cell?_alloc_at _ _ _ _ (by simp)]; rfl)
  have sp4 : (w.alloc (.cells #[.int .i64 t, .int .i64 x0, .int .i64 x1, .int .i64 x2, .slice a U.length cap] 32)).cell? ⟨w.heap.size, 4, none⟩ = some (.slice a U.length cap) := by first | (simp; done) | (rw [World.cell?_alloc_at _ _ _ _ (by simp)]; rfl) | (rw [World.cell?_alloc_past _ _ _ (by simp <;> omega), World.cell?_alloc_at _ _ _ _ (by simp)]; rfl) | (rw [World.cell?_alloc_past _ _ _ (by simp <;> omega), World.cell?_alloc_past _ _ _ (by simp <;> omega), World.cell?_alloc_at _ _ _ _ (by simp)]; rfl)
  have hb2 := (by repeat (first | exact hbel | refine belAlloc ?_ _ | refine belDrew ?_ | refine belSet ?_ _ _ (by simp)) : Below w.heap.size w (w.alloc (.cells #[.int .i64 t, .int .i64 x0, .int .i64 x1, .int .i64 x2, .slice a U.length cap] 32)))
  replace hw := belStep hw hb2
  clear hb2 hbel
  generalize w.alloc (.cells #[.int .i64 t, .int .i64 x0, .int .i64 x1, .int .i64 x2, .slice a U.length cap] 32) = W1 at *
  replace sp0 := keep sp0
  replace sp1 := keep sp1
  replace sp2 := keep sp2
  replace sp3 := keep sp3
  replace sp4 := keep sp4
  have hbel : Below W1.heap.size W1 W1 := Below.refl _ _
  skip
  have HUL := Lib.hid (fun u (hu : Below W1.heap.size W1 u) => HR.out.later (belStep hw hu))
  have HRL := Lib.hid (fun u (hu : Below W1.heap.size W1 u) => HTR.out.later (belStep hw hu))
  have HE := Lib.hid (own_empty W1 66 12)
  have HRE := Lib.hid (HRL.out _ (belAlloc (Below.refl _ _) (.cells #[] 66)))
  clear hbel
  go_upto_region 3 with (at_builtin; refine wpList_app_row rfl _ _ 71 rfl W1.heap.size 66 _ 12 112 Try.underlying71 info_ent rfl (by decide) _ 0 [] rfl HE.out ta T.length tcap (T.flatMap EntV.cells) rfl HRE.out (ents_one _) (by simp only [maxLen]; omega) (by omega) (by simp) ?_)
  intro v7 w7 ho7 hb7 _
  have hbel : Below W1.heap.size W1 w7 := (belAlloc (Below.refl _ _) _).trans hb7
  obtain ⟨a7, c7, e7, hr7⟩ := rowR_of_own ho7
  subst e7
  (try simp only [Nat.zero_add, List.nil_append] at ho7 hr7)
  (try simp only [Nat.zero_add])
  have HO7 := Lib.hid ho7
  have HR7 := Lib.hid hr7
  clear ho7 hb7 HE HRE hr7
  have CFI := Lib.hid (fun (M : List EntV) (hM : TabOK M) (hMo : ∀ x ∈ M, x.ok) (am : Option Addr) (cm lm : Nat) (hlm : M.length = lm) (u : World) (hu : Below W1.heap.size W1 u) (hMR : Row u am lm cm 12 (M.flatMap EntV.cells)) => rref_First g G am lm cm M t x0 x1 x2 a U.length cap U u hg HGG.out hM.len (fun x hx => (hM.right x hx).1) hMo hlm hMR HU.out rfl (HUL.out u hu))
  go_upto_region 3 with fail
  go_wp2_with (go_at_call 48; (with_reducible refine (CFI.out T HTT.out HTO.out a7 c7 T.length rfl _ hbel HR7.out).mono ?_); rintro e w8 ⟨⟨bb, rfl, hbp⟩, hb8⟩; have HO8 := Lib.hid (OwnR.later HO7.out hb8); replace hbel := belStep hbel hb8; clear hb8)
  have HB := Lib.hid hbel
  have HS := Lib.hid (show OStep g T U T [] bb from ⟨HTT.out, HTO.out, hbp, rfl, by simpa using HTT.out.len⟩)
  clear hbel hbp HO7 HR7
  go_loopw [7, 8, 9] (fun ov lv kv wr => ∃ (M : List EntV) (D : List ByteArray) (am : Option Addr) (cm lm : Nat) (bb : Int), kv = .int .i64 bb ∧ lv = .slice am lm cm ∧ M.length = lm ∧ Hid (OStep g T U M D bb) ∧ Hid (OwnR wr W1.heap.size 66 12 (.slice am lm cm) M.length (M.flatMap EntV.cells)) ∧ OwnR wr W1.heap.size 9 1 ov (D).length ((D).map Value.string) ∧ Hid (Sep ov (.slice am lm cm)) ∧ Below W1.heap.size W1 wr) (fun _ lv _ _ => lenOf lv)
  case atStart => exact ⟨T, [], a7, c7, T.length, bb, rfl, rfl, rfl, HS, HO8, OwnR.nil _ _ _ _, Lib.hid (Sep.nilL _), HB.out⟩
  case round =>
    obtain ⟨M, D, am, cm, lm, bb, rfl, rfl, hlm, HST, HL, hD, HSP, hbel⟩ := hrel
    clear HB HS HO8
    have HLM := Lib.hid hlm
    have hm64 : D.length + lm ≤ 64 := by have := HST.out.few; omega
    clear hlm
    rcases HST.out.best with ⟨hb0, hno⟩ | ⟨i, x, hb0, hx, hmx, hall⟩
    · subst hb0
      have hall := HST.out.all
      rw [order_none hno, List.append_nil] at hall
      have HALL := Lib.hid hall
      clear hall hno
      obtain ⟨b7, c8, e8, hr8⟩ := rowR_of_own hD
      subst e8
      have HD := Lib.hid hD
      clear hD hr8
      go_wp2
      go_ret
      refine ⟨⟨b7, c8, ?_, ?_⟩, belStep hw hbel⟩
      · rw [HALL.out]; rfl
      · rw [HALL.out]; exact OwnR.mono HD.out hw.size
    · subst hb0
      have hil : i < lm := by rw [← HLM.out]; exact (List.getElem?_eq_some_iff.1 hx).1
      have HX := Lib.hid hx
      have HMX := Lib.hid hmx
      have HALL := Lib.hid hall
      have hrl := row_of_ownL (HLM.out ▸ HL.out : OwnR wr W1.heap.size 66 12 (.slice am lm cm) lm (M.flatMap EntV.cells))
      have hbl : lm ≤ cm ∧ cm ≤ 9223372036854775807 := by obtain ⟨_, h1, h2, _⟩ := hrl; unfold maxLen at h2; exact ⟨h1, h2⟩
      obtain ⟨hbl1, hbl2⟩ := hbl
      obtain ⟨bc, oc, ec, _, hcc⟩ := hrl.elem EntV.cells_len (by omega) hx
      subst ec
      have c0 := hcc 0 _ rfl
      rw [Nat.add_zero] at c0
      clear hrl hcc hx hmx hall
      have hki : (i : Int) < (lm : Int) := by omega
      have hk0 : (0 : Int) ≤ (i : Int) := by omega
      have hd : decide ((0 : Int) ≤ (i : Int)) = true := decide_eq_true hk0
      have hdl : D.length ≤ 64 := by omega
      have HD2 := Lib.hid (OwnR.alloc hD (.cells #[.string x.pod.id] 9))
      have HL2 := Lib.hid (OwnR.alloc HL.out (.cells #[.string x.pod.id] 9))
      have HRX := Lib.hid (row_new wr [.string x.pod.id] 9 1 1 rfl (by unfold maxLen; omega))
      clear hD
      have hbw := hbel
      go_upto_region 6 with (at_builtin; refine wpList_app_sep rfl _ _ 73 rfl W1.heap.size 9 _ 1 16 Try.underlying73 info_string rfl (by decide) _ _ _ rfl HD2.out _ 1 1 [.string x.pod.id] rfl HRX.out (fun u hu => by simp at hu; subst hu; rfl) ?c1 ?c2 ?c3 ?_)
      case c1 => simp only [maxLen]; omega
      case c2 => omega
      case c3 => have h2 := hbw.size; simp; omega
      intro v' w6 ho6 hb6 hg6 hm6
      have HD6 := Lib.hid (own_snocM (enc := Value.string) (x := x.pod.id) ho6)
      have HL6 := Lib.hid (OwnR.sep HL2.out hg6 HSP.out)
      have HB6 := Lib.hid ((belAlloc hbw (.cells #[.string x.pod.id] 9)).trans hb6)
      clear ho6 hb6 hg6 hm6 hbw hbel HD2 HL2 HRX c0 HL HSP
      go_upto_region 6 with fail
      have HB6W := HB6
      have hbel := HB6.out
      replace sp0 := keepOnP sp0 hbel
      replace sp1 := keepOnP sp1 hbel
      replace sp2 := keepOnP sp2 hbel
      replace sp3 := keepOnP sp3 hbel
      replace sp4 := keepOnP sp4 hbel
      replace hw := belStep hw hbel
      clear hbel
      generalize w6 = W2 at *
      have hbel : Below W2.heap.size W2 W2 := Below.refl _ _
      have HLR := Lib.hid (row_of_ownL (HLM.out ▸ HL6.out : OwnR W2 W1.heap.size 66 12 (.slice (some ⟨bc, oc, none⟩) lm cm) lm (M.flatMap EntV.cells)))
      clear hbel
      obtain ⟨j, hj⟩ : ∃ j : Nat, j = i + 1 := ⟨_, rfl⟩
      have hjl : j ≤ lm := by omega
      have u1 : IntKind.i64.wrap ((i : Int) + 1) = (j : Int) := by rw [IntWalk.i64_in _ (by omega)]; omega
      have u3 : (i : Int) + 1 = (j : Int) := by omega
      have u5x : IntKind.i64.wrap (j : Int) = (j : Int) := IntWalk.i64_in _ (by omega)
      have hjc : (j : Int) ≤ (cm : Int) := by omega
      have hjL : (j : Int) ≤ (lm : Int) := by omega
      have hj0 : (0 : Int) ≤ (j : Int) := by omega
      have hic : (i : Int) ≤ (cm : Int) := by omega
      have HJ := Lib.hid hj
      have HDRP := Lib.hid (fun (u : World) (hu : Below W2.heap.size W2 u) => (show Row u (if cm = j then some ⟨bc, oc, none⟩ else some ⟨bc, oc + j * 12, none⟩) (lm - j) (cm - j) 12 ((M.drop j).flatMap EntV.cells) from by have h := row_dropG (enc := EntV.cells) (L := M) (k := j) EntV.cells_len (by omega) (HLM.out ▸ (HLR.out.later hu) : Row u (some ⟨bc, oc, none⟩) M.length cm 12 (M.flatMap EntV.cells)) (by rw [HLM.out]; exact hjl); rw [HLM.out, add_some] at h; exact h))
      clear hj
      refine wp_region_held_drew (S := fun u => Below W2.heap.size W2 u) (by kernel_rfl) (by exact (show Below W2.heap.size W2 _ by repeat (first | assumption | exact Below.refl _ _ | refine belDrew ?_ | refine belAlloc ?_ _ | refine belStep ?_ (by assumption)))) (fun hHeld => ?_)
      refine wpAnyH_take (i := 1) (oi := ?oi_k1) (v := ?v_k1) ?hi_k1 (by kernel_rfl) ?hf_k1 ?hr_k1 ?hQ_k1 (Or.inl ⟨?hw_k1, ?hy_k1⟩) (by assumption) ?rest_k1
      case hi_k1 => ((simp only [List.getElem?_toArray, List.getElem?_cons_succ, List.getElem?_cons_zero]); rfl)
      case hf_k1 => kernel_rfl
      case hr_k1 => kernel_rfl
      case hQ_k1 => exact fun _ _ _ h => h
      case hw_k1 => rfl
      case hy_k1 => ((intro w hSw; (try dsimp only at hSw); go_simp); all_goals (with_reducible rfl))
      try simp only [Act.put, List.setIfInBounds_toArray, List.set_cons_zero, List.set_cons_succ]
      refine wpAnyH_take (i := 2) (oi := ?oi_k2) (v := ?v_k2) ?hi_k2 (by kernel_rfl) ?hf_k2 ?hr_k2 ?hQ_k2 (Or.inl ⟨?hw_k2, ?hy_k2⟩) (by assumption) ?rest_k2
      case hi_k2 => ((simp only [List.getElem?_toArray, List.getElem?_cons_succ, List.getElem?_cons_zero]); rfl)
      case hf_k2 => kernel_rfl
      case hr_k2 => kernel_rfl
      case hQ_k2 => exact fun _ _ _ h => h
      case hw_k2 => rfl
      case hy_k2 => ((intro w hSw; (try dsimp only at hSw); go_simp); all_goals (with_reducible rfl))
      try simp only [Act.put, List.setIfInBounds_toArray, List.set_cons_zero, List.set_cons_succ]
      refine wpAnyH_take (i := 3) (oi := ?oi_k3) (v := ?v_k3) ?hi_k3 (by kernel_rfl) ?hf_k3 ?hr_k3 ?hQ_k3 (Or.inl ⟨?hw_k3, ?hy_k3⟩) (by assumption) ?rest_k3
      case hi_k3 => ((simp only [List.getElem?_toArray, List.getElem?_cons_succ, List.getElem?_cons_zero]); rfl)
      case hf_k3 => kernel_rfl
      case hr_k3 => kernel_rfl
      case hQ_k3 => exact fun _ _ _ h => h
      case hw_k3 => rfl
      case hy_k3 => ((intro w hSw; (try dsimp only at hSw); go_simp); all_goals (with_reducible rfl))
      try simp only [Act.put, List.setIfInBounds_toArray, List.set_cons_zero, List.set_cons_succ]
      refine wpAnyH_take (i := 5) (oi := ?oi_k4) (v := ?v_k4) ?hi_k4 (by kernel_rfl) ?hf_k4 ?hr_k4 ?hQ_k4 (Or.inl ⟨?hw_k4, ?hy_k4⟩) (by assumption) ?rest_k4
      case hi_k4 => ((simp only [List.getElem?_toArray, List.getElem?_cons_succ, List.getElem?_cons_zero]); rfl)
      case hf_k4 => kernel_rfl
      case hr_k4 => kernel_rfl
      case hQ_k4 => exact fun _ _ _ h => h
      case hw_k4 => rfl
      case hy_k4 => ((intro w hSw; (try dsimp only at hSw); go_simp); all_goals (with_reducible rfl))
      try simp only [Act.put, List.setIfInBounds_toArray, List.set_cons_zero, List.set_cons_succ]
      refine wpAnyH_take (i := 6) (oi := ?oi_k5) (v := ?v_k5) ?hi_k5 (by kernel_rfl) ?hf_k5 ?hr_k5 ?hQ_k5 (Or.inl ⟨?hw_k5, ?hy_k5⟩) (by assumption) ?rest_k5
      case hi_k5 => ((simp only [List.getElem?_toArray, List.getElem?_cons_succ, List.getElem?_cons_zero]); rfl)
      case hf_k5 => kernel_rfl
      case hr_k5 => kernel_rfl
      case hQ_k5 => exact fun _ _ _ h => h
      case hw_k5 => rfl
      case hy_k5 => ((intro w hSw; (try dsimp only at hSw); go_simp); all_goals (with_reducible rfl))
      try simp only [Act.put, List.setIfInBounds_toArray, List.set_cons_zero, List.set_cons_succ]
      refine wpAnyH_take (i := 7) (oi := ?oi_k6) (v := ?v_k6) ?hi_k6 (by kernel_rfl) ?hf_k6 ?hr_k6 ?hQ_k6 (Or.inl ⟨?hw_k6, ?hy_k6⟩) (by assumption) ?rest_k6
      case hi_k6 => ((simp only [List.getElem?_toArray, List.getElem?_cons_succ, List.getElem?_cons_zero]); rfl)
      case hf_k6 => kernel_rfl
      case hr_k6 => kernel_rfl
      case hQ_k6 => exact fun _ _ _ h => h
      case hw_k6 => rfl
      case hy_k6 => ((intro w hSw; (try dsimp only at hSw); go_simp); all_goals (with_reducible rfl))
      try simp only [Act.put, List.setIfInBounds_toArray, List.set_cons_zero, List.set_cons_succ]
      refine wpAnyH_take (i := 8) (oi := ?oi_k7) (v := ?v_k7) ?hi_k7 (by kernel_rfl) ?hf_k7 ?hr_k7 ?hQ_k7 (Or.inl ⟨?hw_k7, ?hy_k7⟩) (by assumption) ?rest_k7
      case hi_k7 => ((simp only [List.getElem?_toArray, List.getElem?_cons_succ, List.getElem?_cons_zero]); rfl)
      case hf_k7 => kernel_rfl
      case hr_k7 => kernel_rfl
      case hQ_k7 => exact fun _ _ _ h => h
      case hw_k7 => rfl
      case hy_k7 => ((intro w hSw; (try dsimp only at hSw); go_simp); all_goals (with_reducible rfl))
      try simp only [Act.put, List.setIfInBounds_toArray, List.set_cons_zero, List.set_cons_succ]
      refine krip (fun u u' => Below u.heap.size u u') [28, 32] [[], [], [], [], [0], [], [], [], [], [0, 4], [0, 4]] [[28], [], [], [], [32], [], [], [], [], [], []] [0, 4] (krF [(0, fun t u => ∃ g : Nat, t 28 = .slice (some ⟨g, 0, none⟩) 0 0 ∧ OwnR u (W2.heap.size) 66 12 (.slice (some ⟨g, 0, none⟩) 0 0) 0 []), (4, fun t u => OwnR u (W2.heap.size) 66 12 (t 32) (i) ((M.take i).flatMap EntV.cells))]) 2 #[true, true, true, true, true, true, true, true, true, false, false] (by kernel_rfl) (by kernel_rfl) (by kernel_rfl) (by assumption) (AllL.cons ?s_0_q9 (AllL.cons ?s_4_q9 AllL.nil)) (AllL.cons ?o_0_q9 (AllL.cons ?o_4_q9 AllL.nil)) ?e_q9
      case s_0_q9 => exact fun t u u' hle ⟨g, e, h⟩ => ⟨g, e, OwnR.later h hle⟩
      case s_4_q9 => exact fun t u u' hle h => OwnR.later h hle
      case o_0_q9 =>
        refine KrOp.of (o := ?oo_0_q9) ?hi_0_q9 (fun t u hHeld hF K hK => ?rr_0_q9)
        case hi_0_q9 => ((simp only [List.getElem?_toArray, List.getElem?_cons_succ, List.getElem?_cons_zero]); rfl)
        case rr_0_q9 =>
          clear hF
          simp only [setl, List.foldl_cons, List.foldl_nil, Act.put, List.setIfInBounds_toArray, List.set_cons_zero, List.set_cons_succ] at hK ⊢
          go_simp
          refine hK.out _ _ (by exact (by repeat (first | assumption | exact Below.refl _ _ | refine belDrew ?_ | refine belAlloc ?_ _ | refine belStep ?_ (by assumption)))) (by exact (show Below W2.heap.size W2 _ by repeat (first | assumption | exact Below.refl _ _ | refine belDrew ?_ | refine belAlloc ?_ _ | refine belStep ?_ (by assumption)))) ?_
          exact ⟨_, rfl, OwnR.mono (own_empty _ _ 12) (Below.size hHeld)⟩
      case o_4_q9 =>
        refine KrOp.of (o := ?oo_4_q9) ?hi_4_q9 (fun t u hHeld hF K hK => ?rr_4_q9)
        case hi_4_q9 => ((simp only [List.getElem?_toArray, List.getElem?_cons_succ, List.getElem?_cons_zero]); rfl)
        case rr_4_q9 =>
          have h0 : ∃ g : Nat, t 28 = .slice (some ⟨g, 0, none⟩) 0 0 ∧ OwnR u (W2.heap.size) 66 12 (.slice (some ⟨g, 0, none⟩) 0 0) 0 [] := hF 0 rfl rfl
          clear hF
          simp only [setl, List.foldl_cons, List.foldl_nil, Act.put, List.setIfInBounds_toArray, List.set_cons_zero, List.set_cons_succ] at hK ⊢
          generalize t 28 = x28 at *
          obtain ⟨g0, rfl, ho0⟩ := h0
          refine op_first rfl _ _ 71 rfl (W2.heap.size) 66 _ 12 112 Try.underlying71 info_ent rfl (by decide) g0 (by rfl) ho0 ((some ⟨bc, oc, none⟩)) (i) (cm) ((M.take i).flatMap EntV.cells) (by rfl) (row_takeG EntV.cells_len (by omega) (HLM.out ▸ (HLR.out.later hHeld) : Row _ _ M.length _ _ _) (by rw [HLM.out]; omega)) (ents_one _) (by have := (show i ≤ 64 by omega); unfold maxLen; omega) (by have := (show i ≤ 64 by omega); omega) (Below.size hHeld) ?_
          intro v4 w4 ho4 hb4
          refine hK.out _ _ (by exact (by repeat (first | assumption | exact Below.refl _ _ | refine belDrew ?_ | refine belAlloc ?_ _ | refine belStep ?_ (by assumption)))) (by exact (show Below W2.heap.size W2 _ by repeat (first | assumption | exact Below.refl _ _ | refine belDrew ?_ | refine belAlloc ?_ _ | refine belStep ?_ (by assumption)))) ?_
          exact ho4
      case e_q9 =>
        intro t u hHeld hF
        have h0 : ∃ g : Nat, t 28 = .slice (some ⟨g, 0, none⟩) 0 0 ∧ OwnR u (W2.heap.size) 66 12 (.slice (some ⟨g, 0, none⟩) 0 0) 0 [] := hF 0 rfl
        have h4 : OwnR u (W2.heap.size) 66 12 (t 32) (i) ((M.take i).flatMap EntV.cells) := hF 4 rfl
        clear hF
        simp only [setl, List.foldl_cons, List.foldl_nil, Act.put, List.setIfInBounds_toArray, List.set_cons_zero, List.set_cons_succ]
        generalize t 28 = x28 at *
        generalize t 32 = x32 at *
        obtain ⟨g0, rfl, ho0⟩ := h0
        have HO4 := Lib.hid h4
        clear h4
        refine wpAnyH_ready (rs := [9]) (by kernel_rfl) (by simp) ?_
        refine AllReadyH.cons (o := ?o1_kt) ?hi_kt (fun K hK => ?rest_kt) AllReadyH.nil
        case hi_kt => ((simp only [List.getElem?_toArray, List.getElem?_cons_succ, List.getElem?_cons_zero]); rfl)
        refine op_appO rfl _ _ 71 rfl (W2.heap.size) 66 _ 12 112 Try.underlying71 info_ent rfl (by decide) _ i _ (by rfl) HO4.out (if cm = j then some ⟨bc, oc, none⟩ else some ⟨bc, oc + j * 12, none⟩) (lm - j) (cm - j) ((M.drop j).flatMap EntV.cells) (by rfl) (HDRP.out _ hHeld) (ents_one _) (by unfold maxLen; omega) (by omega) (Below.size hHeld) ?_
        intro v5 u5 ho5 hb5
        have hu5 : Below W2.heap.size W2 u5 := hHeld.trans hb5
        refine hK.out _ _ (by exact hu5) (fun hHeld => ?_)
        clear hK K
        try simp only [Act.put, List.setIfInBounds_toArray, List.set_cons_zero, List.set_cons_succ]
        refine wpAnyH_take (i := 10) (oi := ?oi_k8) (v := ?v_k8) ?hi_k8 (by kernel_rfl) ?hf_k8 ?hr_k8 ?hQ_k8 (Or.inl ⟨?hw_k8, ?hy_k8⟩) (by assumption) ?rest_k8
        case hi_k8 => ((simp only [List.getElem?_toArray, List.getElem?_cons_succ, List.getElem?_cons_zero]); rfl)
        case hf_k8 => kernel_rfl
        case hr_k8 => kernel_rfl
        case hQ_k8 => exact fun _ _ _ h => h
        case hw_k8 => rfl
        case hy_k8 => ((intro w hSw; (try dsimp only at hSw); go_simp); all_goals (with_reducible rfl))
        try simp only [Act.put, List.setIfInBounds_toArray, List.set_cons_zero, List.set_cons_succ]
        refine wpAnyH_done (by kernel_rfl) ?_ _
        have hML0 : (M.take i ++ M.drop (i + 1)).length < lm := by have := HLM.out; simp only [List.length_append, List.length_take, List.length_drop]; omega
        have hO5 := own_cut (L := M) (enc := EntV.cells) (i := i) (by rw [HLM.out]; exact hil) (by have h := ho5; rw [HJ.out, ← HLM.out] at h; exact h)
        obtain ⟨N, hN⟩ : ∃ N, M.take i ++ M.drop (i + 1) = N := ⟨_, rfl⟩
        have HNT := Lib.hid (hN ▸ tab_cut HST.out.tab i)
        have HNO := Lib.hid (show ∀ y ∈ N, y.ok from hN ▸ (fun y hy => (List.mem_append.1 hy).elim (fun q => HST.out.ok y (List.mem_of_mem_take q)) (fun q => HST.out.ok y (List.mem_of_mem_drop q))))
        rw [hN] at hML0 hO5
        have HN := Lib.hid hN
        have HSEP := Lib.hid (sep_new HD6.out hO5)
        have HBL := Lib.hid hu5
        obtain ⟨a5, c5, e5, hr5⟩ := rowR_of_own hO5
        subst e5
        have HO5 := Lib.hid hO5
        have HR5 := Lib.hid hr5
        clear hN ho5 hb5 hHeld HO4 hO5 hr5 ho0 HLR HDRP u1 u3 u5x hj0 hjc hjL hic hjl
        have hbel := hu5
        clear hu5
        go_wp2_with (go_at_call 48; (with_reducible refine (CFI.out N HNT.out HNO.out a5 c5 N.length rfl _ (belStep HB6W.out hbel) HR5.out).mono ?_); rintro e w8 ⟨⟨b2, rfl, hbp⟩, hb8⟩; have HO8 := Lib.hid (OwnR.mono (OwnR.later HO5.out hb8) HB6W.out.size); replace hbel := belStep hbel hb8; clear hb8)
        have HS2 := Lib.hid (HN.out ▸ HST.out.next HX.out HMX.out HALL.out (by rw [HN.out]; exact hbp) : OStep g T U N (D ++ [x.pod.id]) b2)
        clear hbp
        go_roundw
        case rel => exact ⟨N, D ++ [x.pod.id], a5, c5, N.length, b2, rfl, rfl, rfl, HS2, HO8, OwnR.later HD6.out hbel, HSEP, belStep HB6W.out hbel⟩
        case measure => simpa [lenOf] using hML0
end Go.Proofs.Ytcgpmihjodolmaa
