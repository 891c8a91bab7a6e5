
/- ImageUsed holds for all its arguments. No conditions. -/
import Derived.Test.YtmmfkgpckohacaaImLM
import Derived.Test.YtmmfkgpckohacaaAppS
namespace Go.Proofs.Ytmmfkgpckohacaa.imageUsed
open Go.ChangeShapes Go.WideShapes Go.ChangeAt Go.RowKit
open Go.ChangeMaps (open_string shut_string)
set_option linter.unusedVariables false
set_option linter.unusedSimpArgs false
open Go.Sort
theorem info_strI : (Try.prog.info? 9).map (fun i => (i.zero, i.size, i.bytes)) = some (some (.string ⟨#[]⟩), 1, 16) := by kernel_rfl
def otherL (U : List ByteArray) (k : Nat) : List ByteArray := ((U.drop k).reverse).flatMap fun s => [s, s]
theorem other_end (U : List ByteArray) {k : Nat} (h : U.length ≤ k) : otherL U k = [] := by unfold otherL; rw [List.drop_of_length_le h]; rfl
theorem other_next {U : List ByteArray} {k : Nat} {t : ByteArray} (h : U[k]? = some t) : otherL U k = (otherL U (k + 1) ++ [t]) ++ [t] := by
  have hk := (List.getElem?_eq_some_iff.1 h).1
  unfold otherL
  rw [List.drop_eq_getElem_cons hk, (List.getElem?_eq_some_iff.1 h).2, List.reverse_cons, List.flatMap_append]
  simp
theorem two_len (l : List ByteArray) : (l.flatMap fun s => [s, s]).length = 2 * l.length := by
  induction l with
  | nil => rfl
  | cons x l ih => rw [List.flatMap_cons, List.length_append, ih, List.length_cons]; simp; omega
theorem other_len (U : List ByteArray) (k : Nat) : (otherL U k).length ≤ 2 * U.length := by
  unfold otherL
  rw [two_len, List.length_reverse, List.length_drop]
  omega
theorem other_has (U : List ByteArray) (s : ByteArray) : hasU (otherL U 0) s = hasU U s := by
  unfold hasU otherL
  rw [List.drop_zero, Bool.eq_iff_iff, List.any_eq_true, List.any_eq_true]
  constructor
  · rintro ⟨t, ht, he⟩
    obtain ⟨q, hq, hm⟩ := List.mem_flatMap.1 ht
    simp at hm
    subst hm
    exact ⟨t, by simpa using hq, he⟩
  · rintro ⟨t, ht, he⟩
    exact ⟨t, List.mem_flatMap.2 ⟨t, by simpa using ht, by simp⟩, he⟩
theorem order_congr {L : List ImgV} {U V : List ByteArray} (h : ∀ s, hasU U s = hasU V s) : orderI L U = orderI L V := by
  unfold orderI
  rw [show freeI U = freeI V from by funext x; unfold freeI; rw [h]]
theorem order_all (L : List ImgV) : orderI L (L.map ImgV.name) = [] := by
  unfold orderI
  rw [List.filter_eq_nil_iff.2, sortBy_nil]
  intro x hx
  unfold freeI
  rw [show hasU (L.map ImgV.name) x.name = true from List.any_eq_true.2 ⟨x.name, List.mem_map.2 ⟨x, hx, rfl⟩, beq_self_eq_true _⟩]
  simp
theorem order_none (L : List ImgV) : (orderI L []).length = L.length := by
  unfold orderI
  rw [show L.filter (freeI []) = L from List.filter_eq_self.2 (fun x _ => rfl), sortBy_len]
theorem str_one (s : ByteArray) : ∀ u ∈ [Value.string s], u.oneCell' = true := by intro u hu; simp at hu; subst hu; rfl
theorem row_grown {w w' : World} {g n cap size : Nat} {cs : List Value} {v : Value} (h : Row w (some ⟨g, 0, none⟩) n cap size cs) (hg : w.grownBy w' v.ownBlock) (hne : v.ownBlock ≠ some g) (hl : g < w.heap.size) : Row w' (some ⟨g, 0, none⟩) n cap size cs := by
  obtain ⟨h1, h2, h3, h4, h5⟩ := h
  refine ⟨h1, h2, h3, h4, h5.imp id ?_⟩
  rintro ⟨b, off, e1, hc⟩
  cases e1
  refine ⟨_, _, rfl, fun i hi => ?_⟩
  rw [← hc i hi]
  unfold World.cell?
  rw [hg.block g hl (fun e => hne e.symm)]
theorem mk_stepG {K' : World → Prop} {u : World} {c : Value} {e : TypeId} (h : ∀ w', Row w' (some ⟨u.heap.size, 0, none⟩) 1 1 1 [c] → Below u.heap.size u w' → u.heap.size < w'.heap.size → K' w') : K' (u.alloc (.cells #[c] e)) :=
  h _ (row_new u [c] e 1 1 rfl (by unfold maxLen; omega)) (belAlloc (Below.refl _ _) _) (by simp)
set_option maxRecDepth 100000 in
set_option maxHeartbeats 16000000 in
theorem walk (a : Option Addr) (n c : Nat) (L : List ImgV) (b : Option Addr) (ul uc : Nat) (U : List ByteArray) (w : World) (hl : L.length = n) (hok : ∀ x ∈ L, x.ok) (hR : Row w a n c 3 (L.flatMap ImgV.cells)) (hu : U.length = ul) (huk : ∀ s ∈ U, s.size ≤ maxLen) (hRU : Row w b ul uc 1 (U.map Value.string)) :
    Calls Try.prog 5 #[.slice a n c, .slice b ul uc] w fun e w' => e = .returned (.bool true) ∧ Below w.heap.size w w' := by
  have hw : Below w.heap.size w w := Below.refl _ _
  have hbel := hw
  have hbd : n ≤ c ∧ c ≤ 9223372036854775807 := by obtain ⟨_, h1, h2, _⟩ := hR; unfold maxLen at h2; exact ⟨h1, h2⟩
  obtain ⟨hbd1, hbd2⟩ := hbd
  obtain ⟨fw, hfw⟩ : ∃ q, fewI L = q := ⟨_, rfl⟩
  have CFW := Lib.hid (fun u (hu : Below w.heap.size w u) => hfw ▸ iref_Few a n c L u hl (hR.later hu) hok)
  have HFW := Lib.hid hfw
  obtain ⟨rt, hrt⟩ : ∃ q, rightI L = q := ⟨_, rfl⟩
  have CRT := Lib.hid (fun u (hu : Below w.heap.size w u) => hrt ▸ iref_Right a n c L u hl (hR.later hu))
  have HRT := Lib.hid hrt
  clear hrt
  have HR := Lib.hid hR
  have HOK := Lib.hid hok
  have HLN := Lib.hid hl
  clear hR hok hl hfw
  have hbu : ul ≤ uc ∧ uc ≤ 9223372036854775807 := by obtain ⟨_, h1, h2, _⟩ := hRU; unfold maxLen at h2; exact ⟨h1, h2⟩
  obtain ⟨hbu1, hbu2⟩ := hbu
  obtain ⟨fu, hfu⟩ : ∃ q, fewT U = q := ⟨_, rfl⟩
  have CFU := Lib.hid (fun u (hu9 : Below w.heap.size w u) => hfu ▸ iref_Names b ul uc U u hu (hRU.later hu9) huk)
  have HFU := Lib.hid hfu
  have HRU := Lib.hid hRU
  have HUN := Lib.hid hu
  clear hRU huk hu hfu
  go_enter Try.func5, Try.ntmps5
  go_upto_region 3 with (first | (go_at_call 17; (with_reducible refine (awake15 _).mono ?_); rintro e w1 ⟨rfl, hb1⟩; replace hbel := belStep hbel hb1; clear hb1) | (go_at_call 30; (with_reducible refine (CFW.out _ hbel).mono ?_); rintro e wf1 ⟨rfl, hb_wf1⟩; replace hbel := belStep hbel hb_wf1; clear hb_wf1; rcases fw with _ | _) | (go_at_call 31; (with_reducible refine (CFU.out _ hbel).mono ?_); rintro e wf3 ⟨rfl, hb_wf3⟩; replace hbel := belStep hbel hb_wf3; clear hb_wf3; rcases fu with _ | _) | (go_at_call 32; (with_reducible refine (CRT.out _ hbel).mono ?_); rintro e wf2 ⟨rfl, hb_wf2⟩; replace hbel := belStep hbel hb_wf2; clear hb_wf2; rcases rt with _ | _))
  · go_ret
    exact ⟨rfl, hbel⟩
  · go_ret
    exact ⟨rfl, hbel⟩
  · go_ret
    exact ⟨rfl, hbel⟩
  have HB := Lib.hid hbel
  have HRI := Lib.hid (right_rises HRT.out)
  have HNM := Lib.hid (right_nums HRT.out)
  have hn60 : n ≤ 60 := by rw [← HLN.out]; exact few_len HFW.out
  have hu60 : ul ≤ 60 := by rw [← HUN.out]; exact few_lenT HFU.out
  clear hw CFW CRT CFU
  have hbel0 := hbel
  clear hbel
  generalize wf2 = W2 at *
  have hb0 : Below W2.heap.size W2 W2 := Below.refl _ _
  have hul : (0 : Int) ≤ (ul : Int) := by omega
  go_wp2
  clear hbel0
  go_loopw [5, 6] (fun v iv wr => ∃ k : Nat, k ≤ ul ∧ iv = .int .i64 ((k : Int) - 1) ∧ OwnR wr W2.heap.size 9 1 v (otherL U k).length ((otherL U k).map Value.string) ∧ Below W2.heap.size W2 wr) (fun _ iv _ => (intOf iv + 1).toNat)
  case atStart => exact ⟨ul, Nat.le_refl _, by first | rfl | (congr 1), by rw [other_end U (by rw [HUN.out]; exact Nat.le_refl _)]; exact OwnR.nil _ _ _ _, hb0⟩
  case round =>
    clear hb0
    obtain ⟨k, hk, rfl, hO, hbr⟩ := hrel
    have hol := other_len U k
    rw [HUN.out] at hol
    by_cases h0 : k = 0
    rotate_left
    · obtain ⟨j, rfl⟩ : ∃ j, k = j + 1 := ⟨k - 1, by omega⟩
      have hj9 : ((j + 1 : Nat) : Int) - 1 = (j : Int) := by push_cast; omega
      rw [hj9]
      have hd : decide ((0 : Int) ≤ (j : Int)) = true := decide_eq_true (by omega)
      have hj0 : (0 : Int) ≤ (j : Int) := by omega
      have hji : (j : Int) < (ul : Int) := by omega
      obtain ⟨t, ht⟩ : ∃ t, U[j]? = some t := ⟨U[j]'(by rw [HUN.out]; omega), List.getElem?_eq_getElem _⟩
      obtain ⟨bu, ou, eu, cu⟩ := text_cell (HRU.out.later HB.out) ht
      subst eu
      have y0 := keep cu
      have HN := Lib.hid (other_next ht)
      clear ht cu hj9
      have HO := Lib.hid hO
      obtain ⟨N, hN⟩ : ∃ N, otherL U (j + 1) = N := ⟨_, rfl⟩
      rw [hN] at HO HN hol
      clear hN hO h0
      have hbel := hbr
      clear hbr
      go_wp2
      refine wp_region_held_drew (S := fun u => Below W2.heap.size W2 u) (by kernel_rfl) (by exact (show Below W2.heap.size W2 _ by repeat (first | assumption | exact Below.refl _ _ | refine belDrew ?_ | refine belAlloc ?_ _ | refine belStep ?_ (by assumption)))) (fun hHeld => ?_)
      replace HO := Lib.hid (OwnR.later HO.out (belDrew (Below.refl _ _)))
      replace hbel := belDrew hbel
      generalize wr.drew = wd at *
      refine wpAnyH_take (i := 0) (oi := ?oi_k1) (v := ?v_k1) ?hi_k1 (by kernel_rfl) ?hf_k1 ?hr_k1 ?hQ_k1 (Or.inl ⟨?hw_k1, ?hy_k1⟩) (by assumption) ?rest_k1
      case hi_k1 => ((simp only [List.getElem?_toArray, List.getElem?_cons_succ, List.getElem?_cons_zero]); rfl)
      case hf_k1 => kernel_rfl
      case hr_k1 => kernel_rfl
      case hQ_k1 => exact fun _ _ _ h => h
      case hw_k1 => rfl
      case hy_k1 => ((intro w hSw; (try dsimp only at hSw); go_simp); all_goals (with_reducible rfl))
      try simp only [Act.put, List.setIfInBounds_toArray, List.set_cons_zero, List.set_cons_succ]
      refine wpAnyH_take (i := 1) (oi := ?oi_k2) (v := ?v_k2) ?hi_k2 (by kernel_rfl) ?hf_k2 ?hr_k2 ?hQ_k2 (Or.inl ⟨?hw_k2, ?hy_k2⟩) (by assumption) ?rest_k2
      case hi_k2 => ((simp only [List.getElem?_toArray, List.getElem?_cons_succ, List.getElem?_cons_zero]); rfl)
      case hf_k2 => kernel_rfl
      case hr_k2 => kernel_rfl
      case hQ_k2 => exact fun _ _ _ h => h
      case hw_k2 => rfl
      case hy_k2 => ((intro w hSw; (try dsimp only at hSw); go_simp); all_goals (with_reducible rfl))
      try simp only [Act.put, List.setIfInBounds_toArray, List.set_cons_zero, List.set_cons_succ]
      refine wpAnyH_take (i := 2) (oi := ?oi_k3) (v := ?v_k3) ?hi_k3 (by kernel_rfl) ?hf_k3 ?hr_k3 ?hQ_k3 (Or.inl ⟨?hw_k3, ?hy_k3⟩) (by assumption) ?rest_k3
      case hi_k3 => ((simp only [List.getElem?_toArray, List.getElem?_cons_succ, List.getElem?_cons_zero]); rfl)
      case hf_k3 => kernel_rfl
      case hr_k3 => kernel_rfl
      case hQ_k3 => exact fun _ _ _ h => h
      case hw_k3 => rfl
      case hy_k3 => ((intro w hSw; (try dsimp only at hSw); go_simp); all_goals (with_reducible rfl))
      try simp only [Act.put, List.setIfInBounds_toArray, List.set_cons_zero, List.set_cons_succ]
      refine wpAnyH_take (i := 3) (oi := ?oi_k4) (v := ?v_k4) ?hi_k4 (by kernel_rfl) ?hf_k4 ?hr_k4 ?hQ_k4 (Or.inl ⟨?hw_k4, ?hy_k4⟩) (by assumption) ?rest_k4
      case hi_k4 => ((simp only [List.getElem?_toArray, List.getElem?_cons_succ, List.getElem?_cons_zero]); rfl)
      case hf_k4 => kernel_rfl
      case hr_k4 => kernel_rfl
      case hQ_k4 => exact fun _ _ _ h => h
      case hw_k4 => rfl
      case hy_k4 => ((intro w hSw; (try dsimp only at hSw); go_simp); all_goals (with_reducible rfl))
      try simp only [Act.put, List.setIfInBounds_toArray, List.set_cons_zero, List.set_cons_succ]
      refine wpAnyH_take (i := 4) (oi := ?oi_k5) (v := ?v_k5) ?hi_k5 (by kernel_rfl) ?hf_k5 ?hr_k5 ?hQ_k5 (Or.inl ⟨?hw_k5, ?hy_k5⟩) (by assumption) ?rest_k5
      case hi_k5 => ((simp only [List.getElem?_toArray, List.getElem?_cons_succ, List.getElem?_cons_zero]); rfl)
      case hf_k5 => kernel_rfl
      case hr_k5 => kernel_rfl
      case hQ_k5 => exact fun _ _ _ h => h
      case hw_k5 => rfl
      case hy_k5 => ((intro w hSw; (try dsimp only at hSw); go_simp); all_goals (with_reducible rfl))
      try simp only [Act.put, List.setIfInBounds_toArray, List.set_cons_zero, List.set_cons_succ]
      refine wpAnyH_take (i := 7) (oi := ?oi_k6) (v := ?v_k6) ?hi_k6 (by kernel_rfl) ?hf_k6 ?hr_k6 ?hQ_k6 (Or.inl ⟨?hw_k6, ?hy_k6⟩) (by assumption) ?rest_k6
      case hi_k6 => ((simp only [List.getElem?_toArray, List.getElem?_cons_succ, List.getElem?_cons_zero]); rfl)
      case hf_k6 => kernel_rfl
      case hr_k6 => kernel_rfl
      case hQ_k6 => exact fun _ _ _ h => h
      case hw_k6 => rfl
      case hy_k6 => ((intro w hSw; (try dsimp only at hSw); go_simp); all_goals (with_reducible rfl))
      try simp only [Act.put, List.setIfInBounds_toArray, List.set_cons_zero, List.set_cons_succ]
      refine wpAnyH_take (i := 8) (oi := ?oi_k7) (v := ?v_k7) ?hi_k7 (by kernel_rfl) ?hf_k7 ?hr_k7 ?hQ_k7 (Or.inl ⟨?hw_k7, ?hy_k7⟩) (by assumption) ?rest_k7
      case hi_k7 => ((simp only [List.getElem?_toArray, List.getElem?_cons_succ, List.getElem?_cons_zero]); rfl)
      case hf_k7 => kernel_rfl
      case hr_k7 => kernel_rfl
      case hQ_k7 => exact fun _ _ _ h => h
      case hw_k7 => rfl
      case hy_k7 => ((intro w hSw; (try dsimp only at hSw); go_simp); all_goals (with_reducible rfl))
      try simp only [Act.put, List.setIfInBounds_toArray, List.set_cons_zero, List.set_cons_succ]
      refine wpAnyH_take (i := 9) (oi := ?oi_k8) (v := ?v_k8) ?hi_k8 (by kernel_rfl) ?hf_k8 ?hr_k8 ?hQ_k8 (Or.inl ⟨?hw_k8, ?hy_k8⟩) (by assumption) ?rest_k8
      case hi_k8 => ((simp only [List.getElem?_toArray, List.getElem?_cons_succ, List.getElem?_cons_zero]); rfl)
      case hf_k8 => kernel_rfl
      case hr_k8 => kernel_rfl
      case hQ_k8 => exact fun _ _ _ h => h
      case hw_k8 => rfl
      case hy_k8 => ((intro w hSw; (try dsimp only at hSw); go_simp); all_goals (with_reducible rfl))
      try simp only [Act.put, List.setIfInBounds_toArray, List.set_cons_zero, List.set_cons_succ]
      refine wpAnyH_take (i := 10) (oi := ?oi_k9) (v := ?v_k9) ?hi_k9 (by kernel_rfl) ?hf_k9 ?hr_k9 ?hQ_k9 (Or.inl ⟨?hw_k9, ?hy_k9⟩) (by assumption) ?rest_k9
      case hi_k9 => ((simp only [List.getElem?_toArray, List.getElem?_cons_succ, List.getElem?_cons_zero]); rfl)
      case hf_k9 => kernel_rfl
      case hr_k9 => kernel_rfl
      case hQ_k9 => exact fun _ _ _ h => h
      case hw_k9 => rfl
      case hy_k9 => ((intro w hSw; (try dsimp only at hSw); go_simp); all_goals (with_reducible rfl))
      try simp only [Act.put, List.setIfInBounds_toArray, List.set_cons_zero, List.set_cons_succ]
      refine wpAnyH_ready (rs := [5, 11]) (by kernel_rfl) (by simp) ?_
      refine AllReadyH.cons (o := ?p1_912) ?hp_912 (fun K hK => ?ra_912) (AllReadyH.cons (o := ?p2_912) ?hj_912 (fun K hK => ?rb_912) AllReadyH.nil)
      case hp_912 => ((simp only [List.getElem?_toArray, List.getElem?_cons_succ, List.getElem?_cons_zero]); rfl)
      case hj_912 => ((simp only [List.getElem?_toArray, List.getElem?_cons_succ, List.getElem?_cons_zero]); rfl)
      case ra_912 =>
        go_simp
        refine mk_stepG (K' := K _) (c := .string t) ?_
        intro wq hrq hbq hgq
        have NER5 := Lib.hid (own_ne_new HO.out (Nat.le_refl _))
        have GLR5 := Lib.hid hgq
        have R5 := Lib.hid hrq
        replace HO := Lib.hid (OwnR.later HO.out hbq)
        have hbz := belStep hbel hbq
        clear hbel
        have hbel := hbz
        clear hrq hbq hgq hbz
        refine hK.out _ _ (by exact (show Below W2.heap.size W2 _ by repeat (first | assumption | exact Below.refl _ _ | refine belDrew ?_ | refine belAlloc ?_ _ | refine belStep ?_ (by assumption)))) (fun hHeld => ?_)
        clear hK K
        try simp only [Act.put, List.setIfInBounds_toArray, List.set_cons_zero, List.set_cons_succ]
        refine wpAnyH_ready (rs := [6, 11]) (by kernel_rfl) (by simp) ?_
        refine AllReadyH.cons (o := ?p1_907) ?hp_907 (fun K hK => ?ra_907) (AllReadyH.cons (o := ?p2_907) ?hj_907 (fun K hK => ?rb_907) AllReadyH.nil)
        case hp_907 => ((simp only [List.getElem?_toArray, List.getElem?_cons_succ, List.getElem?_cons_zero]); rfl)
        case hj_907 => ((simp only [List.getElem?_toArray, List.getElem?_cons_succ, List.getElem?_cons_zero]); rfl)
        case ra_907 =>
          refine op_appS rfl _ _ 26 rfl W2.heap.size 9 _ 1 16 Try.underlying26 info_strI rfl (by decide) _ _ _ (by rfl) HO.out _ 1 1 [.string t] (by rfl) R5.out (str_one t) (by unfold maxLen; omega) (by omega) (Below.size hbel) ?_
          intro vq wq hoq hbq hgq hmq
          have hbz := Below.trans hbel hbq
          clear hbel
          have hbel := hbz
          replace HO := Lib.hid (own_snocM (enc := Value.string) hoq)
          clear hoq hbq hgq hmq hbz
          have hol2 : (N ++ [t]).length ≤ 2 * ul + 1 := by rw [List.length_append]; simp; omega
          refine hK.out _ _ (by exact (show Below W2.heap.size W2 _ by repeat (first | assumption | exact Below.refl _ _ | refine belDrew ?_ | refine belAlloc ?_ _ | refine belStep ?_ (by assumption)))) (fun hHeld => ?_)
          clear hK K
          try simp only [Act.put, List.setIfInBounds_toArray, List.set_cons_zero, List.set_cons_succ]
          refine wpAnyH_ready (rs := [11]) (by kernel_rfl) (by simp) ?_
          refine AllReadyH.cons (o := ?p1_901) ?hp_901 (fun K hK => ?rp_901) AllReadyH.nil
          case hp_901 => ((simp only [List.getElem?_toArray, List.getElem?_cons_succ, List.getElem?_cons_zero]); rfl)
          go_simp
          refine mk_stepG (K' := K _) (c := .string t) ?_
          intro wq hrq hbq hgq
          have NER11 := Lib.hid (own_ne_new HO.out (Nat.le_refl _))
          have GLR11 := Lib.hid hgq
          have R11 := Lib.hid hrq
          replace HO := Lib.hid (OwnR.later HO.out hbq)
          have hbz := belStep hbel hbq
          clear hbel
          have hbel := hbz
          clear hrq hbq hgq hbz
          refine hK.out _ _ (by exact (show Below W2.heap.size W2 _ by repeat (first | assumption | exact Below.refl _ _ | refine belDrew ?_ | refine belAlloc ?_ _ | refine belStep ?_ (by assumption)))) (fun hHeld => ?_)
          clear hK K
          try simp only [Act.put, List.setIfInBounds_toArray, List.set_cons_zero, List.set_cons_succ]
          refine wpAnyH_ready (rs := [12]) (by kernel_rfl) (by simp) ?_
          refine AllReadyH.cons (o := ?p1_902) ?hp_902 (fun K hK => ?rp_902) AllReadyH.nil
          case hp_902 => ((simp only [List.getElem?_toArray, List.getElem?_cons_succ, List.getElem?_cons_zero]); rfl)
          refine op_appS rfl _ _ 26 rfl W2.heap.size 9 _ 1 16 Try.underlying26 info_strI rfl (by decide) _ _ _ (by rfl) HO.out _ 1 1 [.string t] (by rfl) R11.out (str_one t) (by unfold maxLen; omega) (by omega) (Below.size hbel) ?_
          intro vq wq hoq hbq hgq hmq
          have hbz := Below.trans hbel hbq
          clear hbel
          have hbel := hbz
          replace HO := Lib.hid (own_snocM (enc := Value.string) hoq)
          clear hoq hbq hgq hmq hbz
          refine hK.out _ _ (by exact (show Below W2.heap.size W2 _ by repeat (first | assumption | exact Below.refl _ _ | refine belDrew ?_ | refine belAlloc ?_ _ | refine belStep ?_ (by assumption)))) (fun hHeld => ?_)
          clear hK K
          try simp only [Act.put, List.setIfInBounds_toArray, List.set_cons_zero, List.set_cons_succ]
          refine wpAnyH_ready (rs := [13]) (by kernel_rfl) (by simp) ?_
          refine AllReadyH.cons (o := ?p1_903) ?hp_903 (fun K hK => ?rp_903) AllReadyH.nil
          case hp_903 => ((simp only [List.getElem?_toArray, List.getElem?_cons_succ, List.getElem?_cons_zero]); rfl)
          go_simp
          refine hK.out _ _ (by exact (show Below W2.heap.size W2 _ by repeat (first | assumption | exact Below.refl _ _ | refine belDrew ?_ | refine belAlloc ?_ _ | refine belStep ?_ (by assumption)))) (fun hHeld => ?_)
          clear hK K
          try simp only [Act.put, List.setIfInBounds_toArray, List.set_cons_zero, List.set_cons_succ]
          refine wpAnyH_done (by kernel_rfl) ?_ _
          clear hHeld
          go_wp2
          go_roundw
          case rel => exact ⟨j, by omega, by first | rfl | (congr 1), by rw [HN.out]; exact HO.out, hbel⟩
          case measure => simp [intOf] <;> omega
        case rb_907 =>
          go_simp
          refine mk_stepG (K' := K _) (c := .string t) ?_
          intro wq hrq hbq hgq
          have NER11 := Lib.hid (own_ne_new HO.out (Nat.le_refl _))
          have GLR11 := Lib.hid hgq
          have R11 := Lib.hid hrq
          replace GLR5 := Lib.hid (Nat.lt_of_lt_of_le GLR5.out hbq.size)
          replace R5 := Lib.hid (R5.out.later hbq)
          replace HO := Lib.hid (OwnR.later HO.out hbq)
          have hbz := belStep hbel hbq
          clear hbel
          have hbel := hbz
          clear hrq hbq hgq hbz
          refine hK.out _ _ (by exact (show Below W2.heap.size W2 _ by repeat (first | assumption | exact Below.refl _ _ | refine belDrew ?_ | refine belAlloc ?_ _ | refine belStep ?_ (by assumption)))) (fun hHeld => ?_)
          clear hK K
          try simp only [Act.put, List.setIfInBounds_toArray, List.set_cons_zero, List.set_cons_succ]
          refine wpAnyH_ready (rs := [6]) (by kernel_rfl) (by simp) ?_
          refine AllReadyH.cons (o := ?p1_904) ?hp_904 (fun K hK => ?rp_904) AllReadyH.nil
          case hp_904 => ((simp only [List.getElem?_toArray, List.getElem?_cons_succ, List.getElem?_cons_zero]); rfl)
          refine op_appS rfl _ _ 26 rfl W2.heap.size 9 _ 1 16 Try.underlying26 info_strI rfl (by decide) _ _ _ (by rfl) HO.out _ 1 1 [.string t] (by rfl) R5.out (str_one t) (by unfold maxLen; omega) (by omega) (Below.size hbel) ?_
          intro vq wq hoq hbq hgq hmq
          replace R11 := Lib.hid (row_grown R11.out hgq NER11.out GLR11.out)
          have hbz := Below.trans hbel hbq
          clear hbel
          have hbel := hbz
          replace HO := Lib.hid (own_snocM (enc := Value.string) hoq)
          clear hoq hbq hgq hmq hbz
          have hol2 : (N ++ [t]).length ≤ 2 * ul + 1 := by rw [List.length_append]; simp; omega
          refine hK.out _ _ (by exact (show Below W2.heap.size W2 _ by repeat (first | assumption | exact Below.refl _ _ | refine belDrew ?_ | refine belAlloc ?_ _ | refine belStep ?_ (by assumption)))) (fun hHeld => ?_)
          clear hK K
          try simp only [Act.put, List.setIfInBounds_toArray, List.set_cons_zero, List.set_cons_succ]
          refine wpAnyH_ready (rs := [12]) (by kernel_rfl) (by simp) ?_
          refine AllReadyH.cons (o := ?p1_905) ?hp_905 (fun K hK => ?rp_905) AllReadyH.nil
          case hp_905 => ((simp only [List.getElem?_toArray, List.getElem?_cons_succ, List.getElem?_cons_zero]); rfl)
          refine op_appS rfl _ _ 26 rfl W2.heap.size 9 _ 1 16 Try.underlying26 info_strI rfl (by decide) _ _ _ (by rfl) HO.out _ 1 1 [.string t] (by rfl) R11.out (str_one t) (by unfold maxLen; omega) (by omega) (Below.size hbel) ?_
          intro vq wq hoq hbq hgq hmq
          have hbz := Below.trans hbel hbq
          clear hbel
          have hbel := hbz
          replace HO := Lib.hid (own_snocM (enc := Value.string) hoq)
          clear hoq hbq hgq hmq hbz
          refine hK.out _ _ (by exact (show Below W2.heap.size W2 _ by repeat (first | assumption | exact Below.refl _ _ | refine belDrew ?_ | refine belAlloc ?_ _ | refine belStep ?_ (by assumption)))) (fun hHeld => ?_)
          clear hK K
          try simp only [Act.put, List.setIfInBounds_toArray, List.set_cons_zero, List.set_cons_succ]
          refine wpAnyH_ready (rs := [13]) (by kernel_rfl) (by simp) ?_
          refine AllReadyH.cons (o := ?p1_906) ?hp_906 (fun K hK => ?rp_906) AllReadyH.nil
          case hp_906 => ((simp only [List.getElem?_toArray, List.getElem?_cons_succ, List.getElem?_cons_zero]); rfl)
          go_simp
          refine hK.out _ _ (by exact (show Below W2.heap.size W2 _ by repeat (first | assumption | exact Below.refl _ _ | refine belDrew ?_ | refine belAlloc ?_ _ | refine belStep ?_ (by assumption)))) (fun hHeld => ?_)
          clear hK K
          try simp only [Act.put, List.setIfInBounds_toArray, List.set_cons_zero, List.set_cons_succ]
          refine wpAnyH_done (by kernel_rfl) ?_ _
          clear hHeld
          go_wp2
          go_roundw
          case rel => exact ⟨j, by omega, by first | rfl | (congr 1), by rw [HN.out]; exact HO.out, hbel⟩
          case measure => simp [intOf] <;> omega
      case rb_912 =>
        go_simp
        refine mk_stepG (K' := K _) (c := .string t) ?_
        intro wq hrq hbq hgq
        have NER11 := Lib.hid (own_ne_new HO.out (Nat.le_refl _))
        have GLR11 := Lib.hid hgq
        have R11 := Lib.hid hrq
        replace HO := Lib.hid (OwnR.later HO.out hbq)
        have hbz := belStep hbel hbq
        clear hbel
        have hbel := hbz
        clear hrq hbq hgq hbz
        refine hK.out _ _ (by exact (show Below W2.heap.size W2 _ by repeat (first | assumption | exact Below.refl _ _ | refine belDrew ?_ | refine belAlloc ?_ _ | refine belStep ?_ (by assumption)))) (fun hHeld => ?_)
        clear hK K
        try simp only [Act.put, List.setIfInBounds_toArray, List.set_cons_zero, List.set_cons_succ]
        refine wpAnyH_ready (rs := [5]) (by kernel_rfl) (by simp) ?_
        refine AllReadyH.cons (o := ?p1_908) ?hp_908 (fun K hK => ?rp_908) AllReadyH.nil
        case hp_908 => ((simp only [List.getElem?_toArray, List.getElem?_cons_succ, List.getElem?_cons_zero]); rfl)
        go_simp
        refine mk_stepG (K' := K _) (c := .string t) ?_
        intro wq hrq hbq hgq
        have NER5 := Lib.hid (own_ne_new HO.out (Nat.le_refl _))
        have GLR5 := Lib.hid hgq
        have R5 := Lib.hid hrq
        replace GLR11 := Lib.hid (Nat.lt_of_lt_of_le GLR11.out hbq.size)
        replace R11 := Lib.hid (R11.out.later hbq)
        replace HO := Lib.hid (OwnR.later HO.out hbq)
        have hbz := belStep hbel hbq
        clear hbel
        have hbel := hbz
        clear hrq hbq hgq hbz
        refine hK.out _ _ (by exact (show Below W2.heap.size W2 _ by repeat (first | assumption | exact Below.refl _ _ | refine belDrew ?_ | refine belAlloc ?_ _ | refine belStep ?_ (by assumption)))) (fun hHeld => ?_)
        clear hK K
        try simp only [Act.put, List.setIfInBounds_toArray, List.set_cons_zero, List.set_cons_succ]
        refine wpAnyH_ready (rs := [6]) (by kernel_rfl) (by simp) ?_
        refine AllReadyH.cons (o := ?p1_909) ?hp_909 (fun K hK => ?rp_909) AllReadyH.nil
        case hp_909 => ((simp only [List.getElem?_toArray, List.getElem?_cons_succ, List.getElem?_cons_zero]); rfl)
        refine op_appS rfl _ _ 26 rfl W2.heap.size 9 _ 1 16 Try.underlying26 info_strI rfl (by decide) _ _ _ (by rfl) HO.out _ 1 1 [.string t] (by rfl) R5.out (str_one t) (by unfold maxLen; omega) (by omega) (Below.size hbel) ?_
        intro vq wq hoq hbq hgq hmq
        replace R11 := Lib.hid (row_grown R11.out hgq NER11.out GLR11.out)
        have hbz := Below.trans hbel hbq
        clear hbel
        have hbel := hbz
        replace HO := Lib.hid (own_snocM (enc := Value.string) hoq)
        clear hoq hbq hgq hmq hbz
        have hol2 : (N ++ [t]).length ≤ 2 * ul + 1 := by rw [List.length_append]; simp; omega
        refine hK.out _ _ (by exact (show Below W2.heap.size W2 _ by repeat (first | assumption | exact Below.refl _ _ | refine belDrew ?_ | refine belAlloc ?_ _ | refine belStep ?_ (by assumption)))) (fun hHeld => ?_)
        clear hK K
        try simp only [Act.put, List.setIfInBounds_toArray, List.set_cons_zero, List.set_cons_succ]
        refine wpAnyH_ready (rs := [12]) (by kernel_rfl) (by simp) ?_
        refine AllReadyH.cons (o := ?p1_910) ?hp_910 (fun K hK => ?rp_910) AllReadyH.nil
        case hp_910 => ((simp only [List.getElem?_toArray, List.getElem?_cons_succ, List.getElem?_cons_zero]); rfl)
        refine op_appS rfl _ _ 26 rfl W2.heap.size 9 _ 1 16 Try.underlying26 info_strI rfl (by decide) _ _ _ (by rfl) HO.out _ 1 1 [.string t] (by rfl) R11.out (str_one t) (by unfold maxLen; omega) (by omega) (Below.size hbel) ?_
        intro vq wq hoq hbq hgq hmq
        have hbz := Below.trans hbel hbq
        clear hbel
        have hbel := hbz
        replace HO := Lib.hid (own_snocM (enc := Value.string) hoq)
        clear hoq hbq hgq hmq hbz
        refine hK.out _ _ (by exact (show Below W2.heap.size W2 _ by repeat (first | assumption | exact Below.refl _ _ | refine belDrew ?_ | refine belAlloc ?_ _ | refine belStep ?_ (by assumption)))) (fun hHeld => ?_)
        clear hK K
        try simp only [Act.put, List.setIfInBounds_toArray, List.set_cons_zero, List.set_cons_succ]
        refine wpAnyH_ready (rs := [13]) (by kernel_rfl) (by simp) ?_
        refine AllReadyH.cons (o := ?p1_911) ?hp_911 (fun K hK => ?rp_911) AllReadyH.nil
        case hp_911 => ((simp only [List.getElem?_toArray, List.getElem?_cons_succ, List.getElem?_cons_zero]); rfl)
        go_simp
        refine hK.out _ _ (by exact (show Below W2.heap.size W2 _ by repeat (first | assumption | exact Below.refl _ _ | refine belDrew ?_ | refine belAlloc ?_ _ | refine belStep ?_ (by assumption)))) (fun hHeld => ?_)
        clear hK K
        try simp only [Act.put, List.setIfInBounds_toArray, List.set_cons_zero, List.set_cons_succ]
        refine wpAnyH_done (by kernel_rfl) ?_ _
        clear hHeld
        go_wp2
        go_roundw
        case rel => exact ⟨j, by omega, by first | rfl | (congr 1), by rw [HN.out]; exact HO.out, hbel⟩
        case measure => simp [intOf] <;> omega
    · obtain rfl : k = 0 := h0
      rw [show (((0 : Nat) : Int) - 1) = -1 from rfl]
      have hd : decide ((0 : Int) ≤ (-1 : Int)) = false := rfl
      obtain ⟨V, hV⟩ : ∃ V, otherL U 0 = V := ⟨_, rfl⟩
      have HVU := Lib.hid (show ∀ s, hasU V s = hasU U s from fun s => hV ▸ other_has U s)
      rw [hV] at hO hol
      clear hV
      obtain ⟨pa9, pc9, rfl, hrb⟩ := rowR_of_own hO
      have HVR := Lib.hid hrb
      have HB3 := Lib.hid hbr
      have hb0 : Below wr.heap.size wr wr := Below.refl _ _
      clear hO hrb hbr
      generalize wr = W3 at *
      go_wp2
      go_loopw [7, 8] (fun v iv wr => ∃ k : Nat, k ≤ n ∧ iv = .int .i64 k ∧ OwnR wr W3.heap.size 9 1 v ((L.take k).map ImgV.name).length (((L.take k).map ImgV.name).map Value.string) ∧ Below W3.heap.size W3 wr) (fun _ iv _ => n - (intOf iv).toNat)
      case atStart => exact ⟨0, Nat.zero_le _, rfl, OwnR.nil _ _ _ _, hb0⟩
      case round =>
        clear hb0
        obtain ⟨k, hk, rfl, hO, hbr⟩ := hrel
        by_cases hlt : k < n
        · have hd : decide ((k : Int) < (n : Int)) = true := decide_eq_true (by omega)
          have hki : (k : Int) < (n : Int) := by omega
          have hk0 : (0 : Int) ≤ (k : Int) := by omega
          obtain ⟨x, hx⟩ : ∃ x, L[k]? = some x := ⟨L[k]'(by rw [HLN.out]; exact hlt), List.getElem?_eq_getElem _⟩
          obtain ⟨bc, oc, ec, _, hcc⟩ := (HR.out.later (belStep HB.out (belStep HB3.out hbr))).elem ImgV.cells_len (by omega) hx
          subst ec
          have c0 := keep (hcc 0 _ rfl)
          have c1 := keep (hcc 1 _ rfl)
          have c2 := keep (hcc 2 _ rfl)
          rw [Nat.add_zero] at c0
          have HN := Lib.hid (mapG_next (f := ImgV.name) hx)
          clear hx hcc
          obtain ⟨N, hN⟩ : ∃ N, (L.take k).map ImgV.name = N := ⟨_, rfl⟩
          have hNl : N.length ≤ n := by rw [← hN]; simp; omega
          rw [hN] at hO HN
          clear hN
          have HBR := Lib.hid hbr
          have hbel : Below wr.heap.size wr wr := Below.refl _ _
          have HO2 := Lib.hid (OwnR.alloc hO (.cells #[.string x.name] 9))
          have HRX := Lib.hid (row_new wr [.string x.name] 9 1 1 rfl (by unfold maxLen; omega))
          clear hO hbr
          go_wp2_with (at_builtin; go_loud (refine wpList_app_row rfl _ _ 26 rfl W3.heap.size 9 _ 1 16 Try.underlying26 info_strI rfl (by decide) _ _ _ rfl HO2.out _ 1 1 [.string x.name] rfl HRX.out (str_one x.name) ?c1 ?c2 ?c3 ?_))
          case c1 => simp only [maxLen]; omega
          case c2 => omega
          case c3 => have := HBR.out.size; simp; omega
          intro v' w6 ho' hb' _
          have HO3 := Lib.hid (own_snocM (enc := Value.string) ho')
          have HB6 := Lib.hid ((belAlloc HBR.out (.cells #[.string x.name] 9)).trans hb')
          clear ho' hb'
          go_wp2
          go_roundw
          case rel => exact ⟨k + 1, by omega, by push_cast; rfl, by rw [HN.out]; exact HO3.out, HB6.out⟩
          case measure => simp [intOf] <;> omega
        · obtain rfl : k = n := by omega
          have hd : decide ((k : Int) < (k : Int)) = false := decide_eq_false (by omega)
          rw [List.take_of_length_le (by rw [HLN.out]; exact Nat.le_refl _)] at hO
          obtain ⟨aa, ac, rfl, hra⟩ := rowR_of_own hO
          have HAR := Lib.hid hra
          have hal : (L.map ImgV.name).length = k := by rw [List.length_map]; exact HLN.out
          obtain ⟨A9, hA9⟩ : ∃ A, L.map ImgV.name = A := ⟨_, rfl⟩
          have HB4 := Lib.hid (belStep HB.out (belStep HB3.out hbr))
          have HVR4 := Lib.hid (HVR.out.later hbr)
          clear hO hra hbr
          have hbel : Below wr.heap.size wr wr := Below.refl _ _
          generalize wr = W4 at *
          have C1 := Lib.hid (fun u (hu : Below W4.heap.size W4 u) => im_Order a k c L b ul uc U u HLN.out (HR.out.later (belStep HB4.out hu)) HRI.out HUN.out (HRU.out.later (belStep HB4.out hu)) (by omega))
          have C2 := Lib.hid (fun u (hu : Below W4.heap.size W4 u) => im_Order a k c L pa9 V.length pc9 V u HLN.out (HR.out.later (belStep HB4.out hu)) HRI.out rfl (HVR4.out.later hu) (by omega))
          have C3 := Lib.hid (fun u (hu : Below W4.heap.size W4 u) => im_Order a k c L aa A9.length ac A9 u HLN.out (HR.out.later (belStep HB4.out hu)) HRI.out rfl (by rw [← hA9]; exact HAR.out.later hu) (by omega))
          have C4 := Lib.hid (fun u (hu : Below W4.heap.size W4 u) => im_Order a k c L none 0 0 [] u HLN.out (HR.out.later (belStep HB4.out hu)) HRI.out rfl (row0T u) (by omega))
          rw [order_congr (L := L) HVU.out] at C2
          rw [show orderI L A9 = [] from hA9 ▸ order_all L] at C3
          have HON := Lib.hid (show (orderI L []).length = k by rw [order_none]; exact HLN.out)
          obtain ⟨O, hO⟩ : ∃ O, orderI L U = O := ⟨_, rfl⟩
          obtain ⟨O4, hO4⟩ : ∃ O, orderI L [] = O := ⟨_, rfl⟩
          rw [hO] at C1 C2
          rw [hO4] at C4 HON
          rw [HON.out] at C4
          clear hO hO4
          rw [hA9]
          rw [hA9] at HAR
          clear hA9 hal
          go_wp2_with (first | (go_at_call 28; (with_reducible refine (C1.out _ hbel).mono ?_); rintro e q1 ⟨y1, rfl, hy, hb_⟩; obtain ⟨ya1, yc1, rfl, hry⟩ := rowR_of_own hy; have HY1 := Lib.hid hry; clear hy hry; have hbz := belStep hbel hb_; clear hbel; have hbel := hbz; clear hbz hb_) | (go_at_call 28; (with_reducible refine (C2.out _ hbel).mono ?_); rintro e q2 ⟨y2, rfl, hy, hb_⟩; obtain ⟨ya2, yc2, rfl, hry⟩ := rowR_of_own hy; replace HY1 := Lib.hid (HY1.out.later hb_); have HY2 := Lib.hid hry; clear hy hry; have hbz := belStep hbel hb_; clear hbel; have hbel := hbz; clear hbz hb_) | (go_at_call 28; (with_reducible refine (C3.out _ hbel).mono ?_); rintro e q3 ⟨y3, rfl, hy, hb_⟩; obtain ⟨ya3, yc3, rfl, hry⟩ := rowR_of_own hy; clear hy hry; have hbz := belStep hbel hb_; clear hbel; have hbel := hbz; clear hbz hb_) | (go_at_call 28; (with_reducible refine (C4.out _ hbel).mono ?_); rintro e q4 ⟨y4, rfl, hy, hb_⟩; obtain ⟨ya4, yc4, rfl, hry⟩ := rowR_of_own hy; clear hy hry; have hbz := belStep hbel hb_; clear hbel; have hbel := hbz; clear hbz hb_) | (go_at_call 25; (with_reducible refine (((sameI_iff O O).2 rfl) ▸ iref_Same ya1 O.length yc1 O ya2 O.length yc2 O _ rfl HY1.out rfl HY2.out).mono ?_); rintro e q5 ⟨rfl, hb_⟩; have hbz := belStep hbel hb_; clear hbel; have hbel := hbz; clear hbz hb_))
          go_ret
          exact ⟨by simp, belStep HB4.out hbel⟩

set_option maxRecDepth 100000 in
theorem lifted (os : Os) (started : os.Started) (H : Type) (enc : TypeId × Value → H) :
    ReturnsInHanded {} Try.checked os 5 .any (Rows.imageUsedSpec.pre6 enc Try.prog Try.f5 Rows.imageUsedRow.domain false) (Rows.imageUsedSpec.post enc Try.prog Try.f5 false true false false) := by
  refine returnsInHanded_of_change (C := Try.checked) own started (by kernel_rfl) Try.func5
    (ChangeSpec.witness6 (enc := enc) (C := Try.checked) false ⟨#[], #[.slice none 0 0, .slice none 0 0], []⟩ 8 (by kernel_rfl) (by kernel_rfl) (by kernel_rfl) (by kernel_rfl)) ?_
  intro W base args ds gs before hval0 hW hcnd _
  have hval : ∀ (j : Nat) t v, Try.f5.params[j]? = some t → args[j]? = some v → Value.okWide Try.prog W .any base t v := hval0
  have hW' := hW
  obtain ⟨p, q, hA0, hV, rfl, hfz, hnd⟩ := hW
  have hA : DataW.TrodAll enc Try.prog W 0 (fun _ => true) true Try.f5.params.toList args.toList ds p := hA0
  rw [Try.params5] at hA hval
  obtain ⟨v0, vs0, d0, ds0, p0, q0, hargs, rfl, rfl, h0, r0⟩ := trodAll_cons hA
  obtain ⟨v1, vs1, d1, ds1, p1, q1, rfl, rfl, rfl, h1, r1⟩ := trodAll_cons r0
  obtain ⟨rfl, rfl, rfl⟩ := trodAll_nil r1
  obtain rfl : args = #[v0, v1] := by cases args; simp_all
  obtain ⟨rfl, rfl⟩ := trodVars_none hV
  have k0 := h0
  have lt0 : ∀ x ∈ p0, x.block < W.heap.size := by obtain ⟨m, hm⟩ := k0; exact DataW.trod_lt m _ _ _ hm
  have o0 : Value.okWide Try.prog W .any base 25 v0 := hval 0 25 v0 rfl rfl
  obtain ⟨xa0, xn0, xc0, xl0, rfl, fl0, fo0, fr0⟩ := open_imgs o0 h0
  have k1 := h1
  have lt1 : ∀ x ∈ p1, x.block < W.heap.size := by obtain ⟨m, hm⟩ := k1; exact DataW.trod_lt m _ _ _ hm
  have o1 : Value.okWide Try.prog W .any base 26 v1 := hval 1 26 v1 rfl rfl
  obtain ⟨ya1, yn1, yc1, yu1, rfl, gl1, go1, gr1⟩ := open_texts o1 h1
  clear hA0 hval0
  refine (walk xa0 xn0 xc0 xl0 ya1 yn1 yc1 yu1 W fl0 fo0 fr0 gl1 go1 gr1).mono fun e W' ⟨he, bel⟩ => ?_
  subst he
  exact ⟨_, rfl, _, _, _, [], _, [], hW', trodAll_mk1 (shut_bool Try.underlying4 _), (trodAll_cons_mk (Below.trod laidOut (by kernel_rfl) (of_decide_eq_true (by kernel_rfl)) k0 bel lt0) (trodAll_cons_mk (Below.trod laidOut (by kernel_rfl) (of_decide_eq_true (by kernel_rfl)) k1 bel lt1) trodAll_mk0)), rfl, bel.frame _, fun h => by cases h⟩

theorem over : Rows.imageUsedRow.holds Try.pinned (OpenSpec.ofChange Rows.imageUsedSpec) :=
  OpenClaim.holds_of_wide 5 Try.f5 rfl rfl rfl rfl rfl rfl rfl ⟨rfl, rfl, rfl, rfl, rfl⟩ rfl rfl rfl rfl rfl (by kernel_rfl) Try.func5 (by kernel_rfl)
    (of_decide_eq_true (by kernel_rfl)) (by unfold Func.isWrapper; first | (rw [if_pos (by decide +kernel)]; kernel_rfl) | (rw [if_neg (by decide +kernel)]; exact ⟨rfl, rfl⟩))
    (fun os started H enc _ => lifted os started H enc)

/-- The statement. -/
theorem proved : Rows.ImageUsedSaid := over
#print axioms proved

end Go.Proofs.Ytmmfkgpckohacaa.imageUsed
