
/- bilgeref20.First: contract. -/
import Derived.Test.YtcgpmihjodolmaaRk5
import Derived.Test.YtcgpmihjodolmaaRk4
namespace Go.Proofs.Ytcgpmihjodolmaa
open Go.RowKit
set_option linter.unusedVariables false
set_option linter.unusedSimpArgs false
/-- The place of one that goes ahead of all others that may go; below 0: none may. -/
def BestP (g : Nat) (T : List EntV) (U : List UseV) (b : Int) : Prop := (b = -1 ∧ ∀ x ∈ T, mayE x = false) ∨ ∃ (i : Nat) (x : EntV), b = i ∧ T[i]? = some x ∧ mayE x = true ∧ ∀ y ∈ T, mayE y = true → aheadB g y.pod x.pod U = false
def BestR (g : Nat) (T : List EntV) (U : List UseV) (e : Ending) : Prop := ∃ b : Int, e = .returned (.int .i64 b) ∧ BestP g T U b
theorem BestR.mk {g : Nat} {T : List EntV} {U : List UseV} {b : Int} (h : BestP g T U b) : BestR g T U (.returned (.int .i64 b)) := ⟨b, rfl, h⟩
section
variable {g : Nat} {T : List EntV} {U : List UseV} {k : Nat} {x z : EntV}
theorem mem_next (h : T[k]? = some x) {y : EntV} (hy : y ∈ T.take (k + 1)) : y ∈ T.take k ∨ y = x := by
  rw [takeG_next h] at hy
  rcases List.mem_append.1 hy with q | q
  · exact .inl q
  · exact .inr (by simpa using q)
theorem best_off {b : Int} (h : T[k]? = some x) (hx : mayE x = false) (hb : BestP g (T.take k) U b) : BestP g (T.take (k + 1)) U b := by
  rcases hb with ⟨rfl, hn⟩ | ⟨i, y, rfl, hi, hm, ha⟩
  · refine .inl ⟨rfl, fun y hy => ?_⟩
    rcases mem_next h hy with q | rfl
    · exact hn y q
    · exact hx
  · have hik : i < k := by
      rcases Nat.lt_or_ge i k with q | q
      · exact q
      · rw [List.getElem?_eq_none (by rw [List.length_take]; omega)] at hi; cases hi
    refine .inr ⟨i, y, rfl, by rw [List.getElem?_take_of_lt (by omega)]; rwa [List.getElem?_take_of_lt hik] at hi, hm, fun v hv hmv => ?_⟩
    rcases mem_next h hv with q | rfl
    · exact ha v q hmv
    · rw [hx] at hmv; cases hmv
theorem best_first (h : T[k]? = some x) (hx : mayE x = true) (hn : ∀ y ∈ T.take k, mayE y = false) : BestP g (T.take (k + 1)) U (k : Int) := by
  refine .inr ⟨k, x, rfl, by rw [List.getElem?_take_of_lt (by omega)]; exact h, hx, fun v hv hmv => ?_⟩
  rcases mem_next h hv with q | rfl
  · rw [hn v q] at hmv; cases hmv
  · exact swo_cfK.irrefl _
theorem best_new {i : Nat} (h : T[k]? = some x) (hx : mayE x = true) (ha : ∀ y ∈ T.take k, mayE y = true → aheadB g y.pod z.pod U = false) (hz : aheadB g x.pod z.pod U = true) : BestP g (T.take (k + 1)) U (k : Int) := by
  refine .inr ⟨k, x, rfl, by rw [List.getElem?_take_of_lt (by omega)]; exact h, hx, fun v hv hmv => ?_⟩
  rcases mem_next h hv with q | rfl
  · cases hvx : aheadB g v.pod x.pod U with
    | false => rfl
    | true =>
      have h1 := swo_cfK.trans _ _ _ hvx hz
      have h2 := ha v q hmv
      unfold aheadB at h2
      rw [h1] at h2; cases h2
  · exact swo_cfK.irrefl _
theorem best_old {i : Nat} (h : T[k]? = some x) (hi : (T.take k)[i]? = some z) (hm : mayE z = true) (ha : ∀ y ∈ T.take k, mayE y = true → aheadB g y.pod z.pod U = false) (hz : aheadB g x.pod z.pod U = false) : BestP g (T.take (k + 1)) U (i : Int) := by
  have hik : i < k := by
    rcases Nat.lt_or_ge i k with q | q
    · exact q
    · rw [List.getElem?_eq_none (by rw [List.length_take]; omega)] at hi; cases hi
  refine .inr ⟨i, z, rfl, by rw [List.getElem?_take_of_lt (by omega)]; rwa [List.getElem?_take_of_lt hik] at hi, hm, fun v hv hmv => ?_⟩
  rcases mem_next h hv with q | rfl
  · exact ha v q hmv
  · exact hz
end
set_option maxRecDepth 100000 in
set_option maxHeartbeats 16000000 in
theorem rref_First (g : Nat) (G : Int) (ta : Option Addr) (tlen tcap : Nat) (T : List EntV) (t x0 x1 x2 : Int) (a : Option Addr) (len cap : Nat) (U : List UseV) (w : World) (hg : g < 3) (hG : G = g)  (hlen64 : T.length ≤ 64) (hrt : ∀ x ∈ T, rightB x.pod = true) (htok : ∀ x ∈ T, x.ok) (htl : T.length = tlen) (hTR : Row w ta tlen tcap 12 (T.flatMap EntV.cells)) (hU : ∀ u ∈ U, UseOK u) (hl : U.length = len) (hR : Row w a len cap 4 (U.flatMap UseV.cells)) :
    Calls Try.prog 48 #[.int .i64 G, .slice ta tlen tcap, .agg #[.int .i64 t, .int .i64 x0, .int .i64 x1, .int .i64 x2, .slice a len cap]] w fun e w' => BestR g T U e ∧ Below w.heap.size w w' := by
  have hw : Below w.heap.size w w := Below.refl _ _
  have hbel := hw
  have hbd_t : tlen ≤ tcap ∧ tcap ≤ 9223372036854775807 := by obtain ⟨_, h1, h2, _⟩ := hTR; unfold maxLen at h2; exact ⟨h1, h2⟩
  obtain ⟨hbd1_t, hbd2_t⟩ := hbd_t
  have hlen := hlen64
  have HTO := Lib.hid htok
  have HTT := Lib.hid hrt
  have HTR := Lib.hid hTR
  have HR := Lib.hid hR
  have HU := Lib.hid hU
  have HGG := Lib.hid hG
  clear hR hU htok hTR hrt hG
  subst hl htl
  go_enter Try.func48, Try.ntmps48
  go_upto_region 1 with fail
  have sp0 : (w.alloc (.cells #[.int .i64 t, .int .i64 x0, .int .i64 x1, .int .i64 x2, .slice a U.length cap] 32)).cell? ⟨w.heap.size, 0, none⟩ = some (.int .i64 t) := by first | (simp; done) | (rw [World.cell?_alloc_at _ _ _ _ (by simp)]; rfl) | (rw [World.cell?_alloc_past _ _ _ (by simp <;> omega), World.cell?_alloc_at _ _ _ _ (by simp)]; rfl) | (rw [World.cell?_alloc_past _ _ _ (by simp <;> omega), World.cell?_alloc_past _ _ _ (by simp <;> omega), World.cell?_alloc_at _ _ _ _ (by simp)]; rfl)
  have sp1 : (w.alloc (.cells #[.int .i64 t, .int .i64 x0, .int .i64 x1, .int .i64 x2, .slice a U.length cap] 32)).cell? ⟨w.heap.size, 1, none⟩ = some (.int .i64 x0) := by first | (simp; done) | (rw [World.cell?_alloc_at _ _ _ _ (by simp)]; rfl) | (rw [World.cell?_alloc_past _ _ _ (by simp <;> omega), World.cell?_alloc_at _ _ _ _ (by simp)]; rfl) | (rw [World.cell?_alloc_past _ _ _ (by simp <;> omega), World.cell?_alloc_past _ _ _ (by simp <;> omega), World.cell?_alloc_at _ _ _ _ (by simp)]; rfl)
  have sp2 : (w.alloc (.cells #[.int .i64 t, .int .i64 x0, .int .i64 x1, .int .i64 x2, .slice a U.length cap] 32)).cell? ⟨w.heap.size, 2, none⟩ = some (.int .i64 x1) := by first | (simp; done) | (rw [World.cell?_alloc_at _ _ _ _ (by simp)]; rfl) | (rw [World.cell?_alloc_past _ _ _ (by simp <;> omega), World.cell?_alloc_at _ _ _ _ (by simp)]; rfl) | (rw [World.cell?_alloc_past _ _ _ (by simp <;> omega), World.cell?_alloc_past _ _ _ (by simp <;> omega), World.cell?_alloc_at _ _ _ _ (by simp)]; rfl)
  have sp3 : (w.alloc (.cells #[.int .i64 t, .int .i64 x0, .int .i64 x1, .int .i64 x2, .slice a U.length cap] 32)).cell? ⟨w.heap.size, 3, none⟩ = some (.int .i64 x2) := by first | (simp; done) | (rw [World.cell?_alloc_at _ _ _ _ (by simp)]; rfl) | (rw [World.cell?_alloc_past _ _ _ (by simp <;> omega), World.cell?_alloc_at _ _ _ _ (by simp)]; rfl) | (rw [World.cell?_alloc_past _ _ _ (by simp <;> omega), World.cell?_alloc_past _ _ _ (by simp <;> omega), World.cell?_alloc_at _ _ _ _ (by simp)]; rfl)
  have sp4 : (w.alloc (.cells #[.int .i64 t, .int .i64 x0, .int .i64 x1, .int .i64 x2, .slice a U.length cap] 32)).cell? ⟨w.heap.size, 4, none⟩ = some (.slice a U.length cap) := by first | (simp; done) | (rw [World.cell?_alloc_at _ _ _ _ (by simp)]; rfl) | (rw [World.cell?_alloc_past _ _ _ (by simp <;> omega), World.cell?_alloc_at _ _ _ _ (by simp)]; rfl) | (rw [World.cell?_alloc_past _ _ _ (by simp <;> omega), World.cell?_alloc_past _ _ _ (by simp <;> omega), World.cell?_alloc_at _ _ _ _ (by simp)]; rfl)
  have hb2 := (by repeat (first | exact hbel | refine belAlloc ?_ _ | refine belDrew ?_ | refine belSet ?_ _ _ (by simp)) : Below w.heap.size w (w.alloc (.cells #[.int .i64 t, .int .i64 x0, .int .i64 x1, .int .i64 x2, .slice a U.length cap] 32)))
  replace hw := belStep hw hb2
  clear hb2 hbel
  generalize w.alloc (.cells #[.int .i64 t, .int .i64 x0, .int .i64 x1, .int .i64 x2, .slice a U.length cap] 32) = W1 at *
  replace sp0 := keep sp0
  replace sp1 := keep sp1
  replace sp2 := keep sp2
  replace sp3 := keep sp3
  replace sp4 := keep sp4
  have hbel : Below W1.heap.size W1 W1 := Below.refl _ _
  skip
  have HRL := Lib.hid (fun u (hu : Below W1.heap.size W1 u) => HTR.out.later (belStep hw hu))
  have HUL := Lib.hid (fun u (hu : Below W1.heap.size W1 u) => HR.out.later (belStep hw hu))
  have HB := Lib.hid hbel
  clear hbel
  go_wp2
  go_loopw [7, 8] (fun bv i wr => ∃ (k : Nat) (bb : Int), k ≤ T.length ∧ i = .int .i64 k ∧ bv = .int .i64 bb ∧ Hid (BestP g (T.take k) U bb) ∧ Below W1.heap.size W1 wr) (fun _ i _ => T.length - (intOf i).toNat)
  case atStart => exact ⟨0, -1, Nat.zero_le _, rfl, rfl, Lib.hid (.inl ⟨rfl, fun x hx => by cases hx⟩), HB.out⟩
  case round =>
    obtain ⟨k, bb, hk, rfl, rfl, HBP, hbel⟩ := hrel
    clear HB
    by_cases hlt : k < T.length
    · obtain ⟨x, hx⟩ : ∃ x, T[k]? = some x := ⟨T[k], List.getElem?_eq_getElem hlt⟩
      obtain ⟨bc, oc, ec, _, hcc⟩ := (HRL.out _ hbel).elem EntV.cells_len (by omega) hx
      subst ec
      have c0 := keep (hcc 0 _ rfl)
      have c1 := keep (hcc 1 _ rfl)
      have c2 := keep (hcc 2 _ rfl)
      have c3 := keep (hcc 3 _ rfl)
      have c4 := keep (hcc 4 _ rfl)
      have c5 := keep (hcc 5 _ rfl)
      have c6 := keep (hcc 6 _ rfl)
      have c7 := keep (hcc 7 _ rfl)
      have c8 := keep (hcc 8 _ rfl)
      have c9 := keep (hcc 9 _ rfl)
      have c10 := keep (hcc 10 _ rfl)
      have c11 := keep (hcc 11 _ rfl)
      rw [Nat.add_zero] at c0
      have hd : decide ((k : Int) < (T.length : Int)) = true := decide_eq_true (by omega)
      have hki : (k : Int) < (T.length : Int) := by omega
      have hk0 : (0 : Int) ≤ (k : Int) := by omega
      have HX := Lib.hid hx
      have hxo := HTO.out x (List.mem_of_getElem? hx)
      have HXO := Lib.hid hxo
      have HXR := Lib.hid (HTT.out x (List.mem_of_getElem? hx))
      have CM := Lib.hid (fun u => rref_May x u)
      obtain ⟨m, hm⟩ : ∃ b, mayE x = b := ⟨_, rfl⟩
      rw [hm] at CM
      have HM := Lib.hid hm
      clear hm hx hcc hxo
      have HBW := Lib.hid hbel
      replace sp0 := keepOnP sp0 hbel
      replace sp1 := keepOnP sp1 hbel
      replace sp2 := keepOnP sp2 hbel
      replace sp3 := keepOnP sp3 hbel
      replace sp4 := keepOnP sp4 hbel
      replace hw := belStep hw hbel
      clear hbel
      generalize wr = W2 at *
      have hbel : Below W2.heap.size W2 W2 := Below.refl _ _
      rcases m with _ | _
      · have HN := Lib.hid (best_off HX.out HM.out HBP.out)
        go_upto_region 5 with fail
        clear hbel
        refine wp_region_held_drew (S := (fun u => Below W2.heap.size W2 u)) (by kernel_rfl) (by exact (show Below W2.heap.size W2 _ from by repeat (first | assumption | exact Below.refl _ _ | refine belDrew ?_ | refine belAlloc ?_ _ | refine belStep ?_ (by assumption)))) (fun hHeld => ?_)
        refine wpAnyH_take (i := 0) (oi := ?oi_1) (v := ?v_1) ?hi_1 (by kernel_rfl) ?hf_1 ?hr_1 ?hQ_1 (Or.inl ⟨?hw_1, ?hy_1⟩) (by assumption) ?rest_1
        case hi_1 => ((simp only [List.getElem?_toArray, List.getElem?_cons_succ, List.getElem?_cons_zero]); rfl)
        case hf_1 => kernel_rfl
        case hr_1 => kernel_rfl
        case hQ_1 => exact fun _ _ _ h => h
        case hw_1 => rfl
        case hy_1 => ((intro w hSw; (try dsimp only at hSw); go_simp); all_goals (with_reducible rfl))
        try simp only [Act.put, List.setIfInBounds_toArray, List.set_cons_zero, List.set_cons_succ]
        refine wpAnyH_take (i := 1) (oi := ?oi_2) (v := ?v_2) ?hi_2 (by kernel_rfl) ?hf_2 ?hr_2 ?hQ_2 (Or.inl ⟨?hw_2, ?hy_2⟩) (by assumption) ?rest_2
        case hi_2 => ((simp only [List.getElem?_toArray, List.getElem?_cons_succ, List.getElem?_cons_zero]); rfl)
        case hf_2 => kernel_rfl
        case hr_2 => kernel_rfl
        case hQ_2 => exact fun _ _ _ h => h
        case hw_2 => rfl
        case hy_2 => ((intro w hSw; (try dsimp only at hSw); go_simp); all_goals (with_reducible rfl))
        try simp only [Act.put, List.setIfInBounds_toArray, List.set_cons_zero, List.set_cons_succ]
        refine wpAnyH_take (i := 2) (oi := ?oi_3) (v := ?v_3) ?hi_3 (by kernel_rfl) ?hf_3 ?hr_3 ?hQ_3 (Or.inl ⟨?hw_3, ?hy_3⟩) (by assumption) ?rest_3
        case hi_3 => ((simp only [List.getElem?_toArray, List.getElem?_cons_succ, List.getElem?_cons_zero]); rfl)
        case hf_3 => kernel_rfl
        case hr_3 => kernel_rfl
        case hQ_3 => exact fun _ _ _ h => h
        case hw_3 => rfl
        case hy_3 => ((intro w hSw; (try dsimp only at hSw); go_simp); all_goals (with_reducible rfl))
        try simp only [Act.put, List.setIfInBounds_toArray, List.set_cons_zero, List.set_cons_succ]
        refine wpAnyH_take (i := 3) (oi := ?oi_4) (v := ?v_4) ?hi_4 (by kernel_rfl) ?hf_4 ?hr_4 ?hQ_4 (Or.inl ⟨?hw_4, ?hy_4⟩) (by assumption) ?rest_4
        case hi_4 => ((simp only [List.getElem?_toArray, List.getElem?_cons_succ, List.getElem?_cons_zero]); rfl)
        case hf_4 => kernel_rfl
        case hr_4 => kernel_rfl
        case hQ_4 => exact fun _ _ _ h => h
        case hw_4 => rfl
        case hy_4 => ((intro w hSw; (try dsimp only at hSw); go_simp); all_goals (with_reducible rfl))
        try simp only [Act.put, List.setIfInBounds_toArray, List.set_cons_zero, List.set_cons_succ]
        refine wpAnyH_ready (rs := [4]) (by kernel_rfl) (by simp) ?_
        refine AllReadyH.cons (o := ?o1_5) ?hi_5 (fun K hK => ?rest_5) AllReadyH.nil
        case hi_5 => ((simp only [List.getElem?_toArray, List.getElem?_cons_succ, List.getElem?_cons_zero]); rfl)
        go_simp
        (first | (go_at_call 44; (with_reducible refine (CM.out _).mono ?_); rintro e wq ⟨rfl, hbq⟩))
        try go_simp
        refine hK.out _ _ (by exact (show Below W2.heap.size W2 _ from by repeat (first | assumption | exact Below.refl _ _ | refine belDrew ?_ | refine belAlloc ?_ _ | refine belStep ?_ (by assumption)))) (fun hHeld => ?_)
        clear hK K
        try simp only [Act.put, List.setIfInBounds_toArray, List.set_cons_zero, List.set_cons_succ]
        refine wpAnyH_take (i := 5) (oi := ?oi_6) (v := ?v_6) ?hi_6 (by kernel_rfl) ?hf_6 ?hr_6 ?hQ_6 (Or.inl ⟨?hw_6, ?hy_6⟩) (by assumption) ?rest_6
        case hi_6 => ((simp only [List.getElem?_toArray, List.getElem?_cons_succ, List.getElem?_cons_zero]); rfl)
        case hf_6 => kernel_rfl
        case hr_6 => kernel_rfl
        case hQ_6 => exact fun _ _ _ h => h
        case hw_6 => rfl
        case hy_6 => ((intro w hSw; (try dsimp only at hSw); go_simp); all_goals (with_reducible rfl))
        try simp only [Act.put, List.setIfInBounds_toArray, List.set_cons_zero, List.set_cons_succ]
        refine wpAnyH_take (i := 6) (oi := ?oi_7) (v := undef) ?hi_7 (by kernel_rfl) ?hf_7 ?hr_7 ?hQ_7 (Or.inr ⟨?hw_7, rfl⟩) (by assumption) ?rest_7
        case hi_7 => ((simp only [List.getElem?_toArray, List.getElem?_cons_succ, List.getElem?_cons_zero]); rfl)
        case hf_7 => kernel_rfl
        case hr_7 => kernel_rfl
        case hQ_7 => exact fun _ _ _ h => h
        case hw_7 => rfl
        try simp only [Act.put, List.setIfInBounds_toArray, List.set_cons_zero, List.set_cons_succ]
        refine wpAnyH_take (i := 7) (oi := ?oi_8) (v := undef) ?hi_8 (by kernel_rfl) ?hf_8 ?hr_8 ?hQ_8 (Or.inr ⟨?hw_8, rfl⟩) (by assumption) ?rest_8
        case hi_8 => ((simp only [List.getElem?_toArray, List.getElem?_cons_succ, List.getElem?_cons_zero]); rfl)
        case hf_8 => kernel_rfl
        case hr_8 => kernel_rfl
        case hQ_8 => exact fun _ _ _ h => h
        case hw_8 => rfl
        try simp only [Act.put, List.setIfInBounds_toArray, List.set_cons_zero, List.set_cons_succ]
        refine wpAnyH_take (i := 8) (oi := ?oi_9) (v := undef) ?hi_9 (by kernel_rfl) ?hf_9 ?hr_9 ?hQ_9 (Or.inr ⟨?hw_9, rfl⟩) (by assumption) ?rest_9
        case hi_9 => ((simp only [List.getElem?_toArray, List.getElem?_cons_succ, List.getElem?_cons_zero]); rfl)
        case hf_9 => kernel_rfl
        case hr_9 => kernel_rfl
        case hQ_9 => exact fun _ _ _ h => h
        case hw_9 => rfl
        try simp only [Act.put, List.setIfInBounds_toArray, List.set_cons_zero, List.set_cons_succ]
        refine wpAnyH_take (i := 9) (oi := ?oi_10) (v := undef) ?hi_10 (by kernel_rfl) ?hf_10 ?hr_10 ?hQ_10 (Or.inr ⟨?hw_10, rfl⟩) (by assumption) ?rest_10
        case hi_10 => ((simp only [List.getElem?_toArray, List.getElem?_cons_succ, List.getElem?_cons_zero]); rfl)
        case hf_10 => kernel_rfl
        case hr_10 => kernel_rfl
        case hQ_10 => exact fun _ _ _ h => h
        case hw_10 => rfl
        try simp only [Act.put, List.setIfInBounds_toArray, List.set_cons_zero, List.set_cons_succ]
        refine wpAnyH_take (i := 10) (oi := ?oi_11) (v := undef) ?hi_11 (by kernel_rfl) ?hf_11 ?hr_11 ?hQ_11 (Or.inr ⟨?hw_11, rfl⟩) (by assumption) ?rest_11
        case hi_11 => ((simp only [List.getElem?_toArray, List.getElem?_cons_succ, List.getElem?_cons_zero]); rfl)
        case hf_11 => kernel_rfl
        case hr_11 => kernel_rfl
        case hQ_11 => exact fun _ _ _ h => h
        case hw_11 => rfl
        try simp only [Act.put, List.setIfInBounds_toArray, List.set_cons_zero, List.set_cons_succ]
        refine wpAnyH_take (i := 11) (oi := ?oi_12) (v := undef) ?hi_12 (by kernel_rfl) ?hf_12 ?hr_12 ?hQ_12 (Or.inr ⟨?hw_12, rfl⟩) (by assumption) ?rest_12
        case hi_12 => ((simp only [List.getElem?_toArray, List.getElem?_cons_succ, List.getElem?_cons_zero]); rfl)
        case hf_12 => kernel_rfl
        case hr_12 => kernel_rfl
        case hQ_12 => exact fun _ _ _ h => h
        case hw_12 => rfl
        try simp only [Act.put, List.setIfInBounds_toArray, List.set_cons_zero, List.set_cons_succ]
        refine wpAnyH_take (i := 12) (oi := ?oi_13) (v := undef) ?hi_13 (by kernel_rfl) ?hf_13 ?hr_13 ?hQ_13 (Or.inr ⟨?hw_13, rfl⟩) (by assumption) ?rest_13
        case hi_13 => ((simp only [List.getElem?_toArray, List.getElem?_cons_succ, List.getElem?_cons_zero]); rfl)
        case hf_13 => kernel_rfl
        case hr_13 => kernel_rfl
        case hQ_13 => exact fun _ _ _ h => h
        case hw_13 => rfl
        try simp only [Act.put, List.setIfInBounds_toArray, List.set_cons_zero, List.set_cons_succ]
        refine wpAnyH_take (i := 13) (oi := ?oi_14) (v := undef) ?hi_14 (by kernel_rfl) ?hf_14 ?hr_14 ?hQ_14 (Or.inr ⟨?hw_14, rfl⟩) (by assumption) ?rest_14
        case hi_14 => ((simp only [List.getElem?_toArray, List.getElem?_cons_succ, List.getElem?_cons_zero]); rfl)
        case hf_14 => kernel_rfl
        case hr_14 => kernel_rfl
        case hQ_14 => exact fun _ _ _ h => h
        case hw_14 => rfl
        try simp only [Act.put, List.setIfInBounds_toArray, List.set_cons_zero, List.set_cons_succ]
        refine wpAnyH_take (i := 14) (oi := ?oi_15) (v := undef) ?hi_15 (by kernel_rfl) ?hf_15 ?hr_15 ?hQ_15 (Or.inr ⟨?hw_15, rfl⟩) (by assumption) ?rest_15
        case hi_15 => ((simp only [List.getElem?_toArray, List.getElem?_cons_succ, List.getElem?_cons_zero]); rfl)
        case hf_15 => kernel_rfl
        case hr_15 => kernel_rfl
        case hQ_15 => exact fun _ _ _ h => h
        case hw_15 => rfl
        try simp only [Act.put, List.setIfInBounds_toArray, List.set_cons_zero, List.set_cons_succ]
        refine wpAnyH_take (i := 15) (oi := ?oi_16) (v := undef) ?hi_16 (by kernel_rfl) ?hf_16 ?hr_16 ?hQ_16 (Or.inr ⟨?hw_16, rfl⟩) (by assumption) ?rest_16
        case hi_16 => ((simp only [List.getElem?_toArray, List.getElem?_cons_succ, List.getElem?_cons_zero]); rfl)
        case hf_16 => kernel_rfl
        case hr_16 => kernel_rfl
        case hQ_16 => exact fun _ _ _ h => h
        case hw_16 => rfl
        try simp only [Act.put, List.setIfInBounds_toArray, List.set_cons_zero, List.set_cons_succ]
        refine wpAnyH_take (i := 16) (oi := ?oi_17) (v := undef) ?hi_17 (by kernel_rfl) ?hf_17 ?hr_17 ?hQ_17 (Or.inr ⟨?hw_17, rfl⟩) (by assumption) ?rest_17
        case hi_17 => ((simp only [List.getElem?_toArray, List.getElem?_cons_succ, List.getElem?_cons_zero]); rfl)
        case hf_17 => kernel_rfl
        case hr_17 => kernel_rfl
        case hQ_17 => exact fun _ _ _ h => h
        case hw_17 => rfl
        try simp only [Act.put, List.setIfInBounds_toArray, List.set_cons_zero, List.set_cons_succ]
        refine wpAnyH_take (i := 17) (oi := ?oi_18) (v := undef) ?hi_18 (by kernel_rfl) ?hf_18 ?hr_18 ?hQ_18 (Or.inr ⟨?hw_18, rfl⟩) (by assumption) ?rest_18
        case hi_18 => ((simp only [List.getElem?_toArray, List.getElem?_cons_succ, List.getElem?_cons_zero]); rfl)
        case hf_18 => kernel_rfl
        case hr_18 => kernel_rfl
        case hQ_18 => exact fun _ _ _ h => h
        case hw_18 => rfl
        try simp only [Act.put, List.setIfInBounds_toArray, List.set_cons_zero, List.set_cons_succ]
        refine wpAnyH_take (i := 18) (oi := ?oi_19) (v := undef) ?hi_19 (by kernel_rfl) ?hf_19 ?hr_19 ?hQ_19 (Or.inr ⟨?hw_19, rfl⟩) (by assumption) ?rest_19
        case hi_19 => ((simp only [List.getElem?_toArray, List.getElem?_cons_succ, List.getElem?_cons_zero]); rfl)
        case hf_19 => kernel_rfl
        case hr_19 => kernel_rfl
        case hQ_19 => exact fun _ _ _ h => h
        case hw_19 => rfl
        try simp only [Act.put, List.setIfInBounds_toArray, List.set_cons_zero, List.set_cons_succ]
        refine wpAnyH_take (i := 19) (oi := ?oi_20) (v := undef) ?hi_20 (by kernel_rfl) ?hf_20 ?hr_20 ?hQ_20 (Or.inr ⟨?hw_20, rfl⟩) (by assumption) ?rest_20
        case hi_20 => ((simp only [List.getElem?_toArray, List.getElem?_cons_succ, List.getElem?_cons_zero]); rfl)
        case hf_20 => kernel_rfl
        case hr_20 => kernel_rfl
        case hQ_20 => exact fun _ _ _ h => h
        case hw_20 => rfl
        try simp only [Act.put, List.setIfInBounds_toArray, List.set_cons_zero, List.set_cons_succ]
        refine wpAnyH_take (i := 20) (oi := ?oi_21) (v := undef) ?hi_21 (by kernel_rfl) ?hf_21 ?hr_21 ?hQ_21 (Or.inr ⟨?hw_21, rfl⟩) (by assumption) ?rest_21
        case hi_21 => ((simp only [List.getElem?_toArray, List.getElem?_cons_succ, List.getElem?_cons_zero]); rfl)
        case hf_21 => kernel_rfl
        case hr_21 => kernel_rfl
        case hQ_21 => exact fun _ _ _ h => h
        case hw_21 => rfl
        try simp only [Act.put, List.setIfInBounds_toArray, List.set_cons_zero, List.set_cons_succ]
        refine wpAnyH_take (i := 21) (oi := ?oi_22) (v := undef) ?hi_22 (by kernel_rfl) ?hf_22 ?hr_22 ?hQ_22 (Or.inr ⟨?hw_22, rfl⟩) (by assumption) ?rest_22
        case hi_22 => ((simp only [List.getElem?_toArray, List.getElem?_cons_succ, List.getElem?_cons_zero]); rfl)
        case hf_22 => kernel_rfl
        case hr_22 => kernel_rfl
        case hQ_22 => exact fun _ _ _ h => h
        case hw_22 => rfl
        try simp only [Act.put, List.setIfInBounds_toArray, List.set_cons_zero, List.set_cons_succ]
        refine wpAnyH_take (i := 22) (oi := ?oi_23) (v := undef) ?hi_23 (by kernel_rfl) ?hf_23 ?hr_23 ?hQ_23 (Or.inr ⟨?hw_23, rfl⟩) (by assumption) ?rest_23
        case hi_23 => ((simp only [List.getElem?_toArray, List.getElem?_cons_succ, List.getElem?_cons_zero]); rfl)
        case hf_23 => kernel_rfl
        case hr_23 => kernel_rfl
        case hQ_23 => exact fun _ _ _ h => h
        case hw_23 => rfl
        try simp only [Act.put, List.setIfInBounds_toArray, List.set_cons_zero, List.set_cons_succ]
        refine wpAnyH_take (i := 23) (oi := ?oi_24) (v := ?v_24) ?hi_24 (by kernel_rfl) ?hf_24 ?hr_24 ?hQ_24 (Or.inl ⟨?hw_24, ?hy_24⟩) (by assumption) ?rest_24
        case hi_24 => ((simp only [List.getElem?_toArray, List.getElem?_cons_succ, List.getElem?_cons_zero]); rfl)
        case hf_24 => kernel_rfl
        case hr_24 => kernel_rfl
        case hQ_24 => exact fun _ _ _ h => h
        case hw_24 => rfl
        case hy_24 => ((intro w hSw; (try dsimp only at hSw); go_simp); all_goals (with_reducible rfl))
        try simp only [Act.put, List.setIfInBounds_toArray, List.set_cons_zero, List.set_cons_succ]
        refine wpAnyH_done (by kernel_rfl) ?_ _
        have hbel := hHeld
        clear hHeld
        go_wp2
        go_roundw
        case rel => exact ⟨k + 1, bb, by omega, by push_cast; rfl, rfl, Lib.hid HN.out, belStep HBW.out hbel⟩
        case measure => simp [intOf] <;> omega
      · rcases HBP.out with ⟨hb0, hn⟩ | ⟨i, z, hb0, hi, hmz, ha⟩
        · subst hb0
          have HN := Lib.hid (best_first (g := g) (U := U) HX.out HM.out hn)
          clear hn
          go_upto_region 5 with fail
          clear hbel
          refine wp_region_held_drew (S := (fun u => Below W2.heap.size W2 u)) (by kernel_rfl) (by exact (show Below W2.heap.size W2 _ from by repeat (first | assumption | exact Below.refl _ _ | refine belDrew ?_ | refine belAlloc ?_ _ | refine belStep ?_ (by assumption)))) (fun hHeld => ?_)
          refine wpAnyH_take (i := 0) (oi := ?oi_25) (v := ?v_25) ?hi_25 (by kernel_rfl) ?hf_25 ?hr_25 ?hQ_25 (Or.inl ⟨?hw_25, ?hy_25⟩) (by assumption) ?rest_25
          case hi_25 => ((simp only [List.getElem?_toArray, List.getElem?_cons_succ, List.getElem?_cons_zero]); rfl)
          case hf_25 => kernel_rfl
          case hr_25 => kernel_rfl
          case hQ_25 => exact fun _ _ _ h => h
          case hw_25 => rfl
          case hy_25 => ((intro w hSw; (try dsimp only at hSw); go_simp); all_goals (with_reducible rfl))
          try simp only [Act.put, List.setIfInBounds_toArray, List.set_cons_zero, List.set_cons_succ]
          refine wpAnyH_take (i := 1) (oi := ?oi_26) (v := ?v_26) ?hi_26 (by kernel_rfl) ?hf_26 ?hr_26 ?hQ_26 (Or.inl ⟨?hw_26, ?hy_26⟩) (by assumption) ?rest_26
          case hi_26 => ((simp only [List.getElem?_toArray, List.getElem?_cons_succ, List.getElem?_cons_zero]); rfl)
          case hf_26 => kernel_rfl
          case hr_26 => kernel_rfl
          case hQ_26 => exact fun _ _ _ h => h
          case hw_26 => rfl
          case hy_26 => ((intro w hSw; (try dsimp only at hSw); go_simp); all_goals (with_reducible rfl))
          try simp only [Act.put, List.setIfInBounds_toArray, List.set_cons_zero, List.set_cons_succ]
          refine wpAnyH_take (i := 2) (oi := ?oi_27) (v := ?v_27) ?hi_27 (by kernel_rfl) ?hf_27 ?hr_27 ?hQ_27 (Or.inl ⟨?hw_27, ?hy_27⟩) (by assumption) ?rest_27
          case hi_27 => ((simp only [List.getElem?_toArray, List.getElem?_cons_succ, List.getElem?_cons_zero]); rfl)
          case hf_27 => kernel_rfl
          case hr_27 => kernel_rfl
          case hQ_27 => exact fun _ _ _ h => h
          case hw_27 => rfl
          case hy_27 => ((intro w hSw; (try dsimp only at hSw); go_simp); all_goals (with_reducible rfl))
          try simp only [Act.put, List.setIfInBounds_toArray, List.set_cons_zero, List.set_cons_succ]
          refine wpAnyH_take (i := 3) (oi := ?oi_28) (v := ?v_28) ?hi_28 (by kernel_rfl) ?hf_28 ?hr_28 ?hQ_28 (Or.inl ⟨?hw_28, ?hy_28⟩) (by assumption) ?rest_28
          case hi_28 => ((simp only [List.getElem?_toArray, List.getElem?_cons_succ, List.getElem?_cons_zero]); rfl)
          case hf_28 => kernel_rfl
          case hr_28 => kernel_rfl
          case hQ_28 => exact fun _ _ _ h => h
          case hw_28 => rfl
          case hy_28 => ((intro w hSw; (try dsimp only at hSw); go_simp); all_goals (with_reducible rfl))
          try simp only [Act.put, List.setIfInBounds_toArray, List.set_cons_zero, List.set_cons_succ]
          refine wpAnyH_ready (rs := [4]) (by kernel_rfl) (by simp) ?_
          refine AllReadyH.cons (o := ?o1_29) ?hi_29 (fun K hK => ?rest_29) AllReadyH.nil
          case hi_29 => ((simp only [List.getElem?_toArray, List.getElem?_cons_succ, List.getElem?_cons_zero]); rfl)
          go_simp
          (first | (go_at_call 44; (with_reducible refine (CM.out _).mono ?_); rintro e wq ⟨rfl, hbq⟩))
          try go_simp
          refine hK.out _ _ (by exact (show Below W2.heap.size W2 _ from by repeat (first | assumption | exact Below.refl _ _ | refine belDrew ?_ | refine belAlloc ?_ _ | refine belStep ?_ (by assumption)))) (fun hHeld => ?_)
          clear hK K
          try simp only [Act.put, List.setIfInBounds_toArray, List.set_cons_zero, List.set_cons_succ]
          refine wpAnyH_take (i := 5) (oi := ?oi_30) (v := ?v_30) ?hi_30 (by kernel_rfl) ?hf_30 ?hr_30 ?hQ_30 (Or.inl ⟨?hw_30, ?hy_30⟩) (by assumption) ?rest_30
          case hi_30 => ((simp only [List.getElem?_toArray, List.getElem?_cons_succ, List.getElem?_cons_zero]); rfl)
          case hf_30 => kernel_rfl
          case hr_30 => kernel_rfl
          case hQ_30 => exact fun _ _ _ h => h
          case hw_30 => rfl
          case hy_30 => ((intro w hSw; (try dsimp only at hSw); go_simp); all_goals (with_reducible rfl))
          try simp only [Act.put, List.setIfInBounds_toArray, List.set_cons_zero, List.set_cons_succ]
          refine wpAnyH_take (i := 6) (oi := ?oi_31) (v := ?v_31) ?hi_31 (by kernel_rfl) ?hf_31 ?hr_31 ?hQ_31 (Or.inl ⟨?hw_31, ?hy_31⟩) (by assumption) ?rest_31
          case hi_31 => ((simp only [List.getElem?_toArray, List.getElem?_cons_succ, List.getElem?_cons_zero]); rfl)
          case hf_31 => kernel_rfl
          case hr_31 => kernel_rfl
          case hQ_31 => exact fun _ _ _ h => h
          case hw_31 => rfl
          case hy_31 => ((intro w hSw; (try dsimp only at hSw); go_simp); all_goals (with_reducible rfl))
          try simp only [Act.put, List.setIfInBounds_toArray, List.set_cons_zero, List.set_cons_succ]
          refine wpAnyH_take (i := 7) (oi := ?oi_32) (v := ?v_32) ?hi_32 (by kernel_rfl) ?hf_32 ?hr_32 ?hQ_32 (Or.inl ⟨?hw_32, ?hy_32⟩) (by assumption) ?rest_32
          case hi_32 => ((simp only [List.getElem?_toArray, List.getElem?_cons_succ, List.getElem?_cons_zero]); rfl)
          case hf_32 => kernel_rfl
          case hr_32 => kernel_rfl
          case hQ_32 => exact fun _ _ _ h => h
          case hw_32 => rfl
          case hy_32 => ((intro w hSw; (try dsimp only at hSw); go_simp); all_goals (with_reducible rfl))
          try simp only [Act.put, List.setIfInBounds_toArray, List.set_cons_zero, List.set_cons_succ]
          refine wpAnyH_take (i := 8) (oi := ?oi_33) (v := ?v_33) ?hi_33 (by kernel_rfl) ?hf_33 ?hr_33 ?hQ_33 (Or.inl ⟨?hw_33, ?hy_33⟩) (by assumption) ?rest_33
          case hi_33 => ((simp only [List.getElem?_toArray, List.getElem?_cons_succ, List.getElem?_cons_zero]); rfl)
          case hf_33 => kernel_rfl
          case hr_33 => kernel_rfl
          case hQ_33 => exact fun _ _ _ h => h
          case hw_33 => rfl
          case hy_33 => ((intro w hSw; (try dsimp only at hSw); go_simp); all_goals (with_reducible rfl))
          try simp only [Act.put, List.setIfInBounds_toArray, List.set_cons_zero, List.set_cons_succ]
          refine wpAnyH_take (i := 9) (oi := ?oi_34) (v := undef) ?hi_34 (by kernel_rfl) ?hf_34 ?hr_34 ?hQ_34 (Or.inr ⟨?hw_34, rfl⟩) (by assumption) ?rest_34
          case hi_34 => ((simp only [List.getElem?_toArray, List.getElem?_cons_succ, List.getElem?_cons_zero]); rfl)
          case hf_34 => kernel_rfl
          case hr_34 => kernel_rfl
          case hQ_34 => exact fun _ _ _ h => h
          case hw_34 => rfl
          try simp only [Act.put, List.setIfInBounds_toArray, List.set_cons_zero, List.set_cons_succ]
          refine wpAnyH_take (i := 10) (oi := ?oi_35) (v := undef) ?hi_35 (by kernel_rfl) ?hf_35 ?hr_35 ?hQ_35 (Or.inr ⟨?hw_35, rfl⟩) (by assumption) ?rest_35
          case hi_35 => ((simp only [List.getElem?_toArray, List.getElem?_cons_succ, List.getElem?_cons_zero]); rfl)
          case hf_35 => kernel_rfl
          case hr_35 => kernel_rfl
          case hQ_35 => exact fun _ _ _ h => h
          case hw_35 => rfl
          try simp only [Act.put, List.setIfInBounds_toArray, List.set_cons_zero, List.set_cons_succ]
          refine wpAnyH_take (i := 11) (oi := ?oi_36) (v := undef) ?hi_36 (by kernel_rfl) ?hf_36 ?hr_36 ?hQ_36 (Or.inr ⟨?hw_36, rfl⟩) (by assumption) ?rest_36
          case hi_36 => ((simp only [List.getElem?_toArray, List.getElem?_cons_succ, List.getElem?_cons_zero]); rfl)
          case hf_36 => kernel_rfl
          case hr_36 => kernel_rfl
          case hQ_36 => exact fun _ _ _ h => h
          case hw_36 => rfl
          try simp only [Act.put, List.setIfInBounds_toArray, List.set_cons_zero, List.set_cons_succ]
          refine wpAnyH_take (i := 12) (oi := ?oi_37) (v := undef) ?hi_37 (by kernel_rfl) ?hf_37 ?hr_37 ?hQ_37 (Or.inr ⟨?hw_37, rfl⟩) (by assumption) ?rest_37
          case hi_37 => ((simp only [List.getElem?_toArray, List.getElem?_cons_succ, List.getElem?_cons_zero]); rfl)
          case hf_37 => kernel_rfl
          case hr_37 => kernel_rfl
          case hQ_37 => exact fun _ _ _ h => h
          case hw_37 => rfl
          try simp only [Act.put, List.setIfInBounds_toArray, List.set_cons_zero, List.set_cons_succ]
          refine wpAnyH_take (i := 13) (oi := ?oi_38) (v := undef) ?hi_38 (by kernel_rfl) ?hf_38 ?hr_38 ?hQ_38 (Or.inr ⟨?hw_38, rfl⟩) (by assumption) ?rest_38
          case hi_38 => ((simp only [List.getElem?_toArray, List.getElem?_cons_succ, List.getElem?_cons_zero]); rfl)
          case hf_38 => kernel_rfl
          case hr_38 => kernel_rfl
          case hQ_38 => exact fun _ _ _ h => h
          case hw_38 => rfl
          try simp only [Act.put, List.setIfInBounds_toArray, List.set_cons_zero, List.set_cons_succ]
          refine wpAnyH_take (i := 14) (oi := ?oi_39) (v := undef) ?hi_39 (by kernel_rfl) ?hf_39 ?hr_39 ?hQ_39 (Or.inr ⟨?hw_39, rfl⟩) (by assumption) ?rest_39
          case hi_39 => ((simp only [List.getElem?_toArray, List.getElem?_cons_succ, List.getElem?_cons_zero]); rfl)
          case hf_39 => kernel_rfl
          case hr_39 => kernel_rfl
          case hQ_39 => exact fun _ _ _ h => h
          case hw_39 => rfl
          try simp only [Act.put, List.setIfInBounds_toArray, List.set_cons_zero, List.set_cons_succ]
          refine wpAnyH_take (i := 15) (oi := ?oi_40) (v := undef) ?hi_40 (by kernel_rfl) ?hf_40 ?hr_40 ?hQ_40 (Or.inr ⟨?hw_40, rfl⟩) (by assumption) ?rest_40
          case hi_40 => ((simp only [List.getElem?_toArray, List.getElem?_cons_succ, List.getElem?_cons_zero]); rfl)
          case hf_40 => kernel_rfl
          case hr_40 => kernel_rfl
          case hQ_40 => exact fun _ _ _ h => h
          case hw_40 => rfl
          try simp only [Act.put, List.setIfInBounds_toArray, List.set_cons_zero, List.set_cons_succ]
          refine wpAnyH_take (i := 16) (oi := ?oi_41) (v := undef) ?hi_41 (by kernel_rfl) ?hf_41 ?hr_41 ?hQ_41 (Or.inr ⟨?hw_41, rfl⟩) (by assumption) ?rest_41
          case hi_41 => ((simp only [List.getElem?_toArray, List.getElem?_cons_succ, List.getElem?_cons_zero]); rfl)
          case hf_41 => kernel_rfl
          case hr_41 => kernel_rfl
          case hQ_41 => exact fun _ _ _ h => h
          case hw_41 => rfl
          try simp only [Act.put, List.setIfInBounds_toArray, List.set_cons_zero, List.set_cons_succ]
          refine wpAnyH_take (i := 17) (oi := ?oi_42) (v := undef) ?hi_42 (by kernel_rfl) ?hf_42 ?hr_42 ?hQ_42 (Or.inr ⟨?hw_42, rfl⟩) (by assumption) ?rest_42
          case hi_42 => ((simp only [List.getElem?_toArray, List.getElem?_cons_succ, List.getElem?_cons_zero]); rfl)
          case hf_42 => kernel_rfl
          case hr_42 => kernel_rfl
          case hQ_42 => exact fun _ _ _ h => h
          case hw_42 => rfl
          try simp only [Act.put, List.setIfInBounds_toArray, List.set_cons_zero, List.set_cons_succ]
          refine wpAnyH_take (i := 18) (oi := ?oi_43) (v := undef) ?hi_43 (by kernel_rfl) ?hf_43 ?hr_43 ?hQ_43 (Or.inr ⟨?hw_43, rfl⟩) (by assumption) ?rest_43
          case hi_43 => ((simp only [List.getElem?_toArray, List.getElem?_cons_succ, List.getElem?_cons_zero]); rfl)
          case hf_43 => kernel_rfl
          case hr_43 => kernel_rfl
          case hQ_43 => exact fun _ _ _ h => h
          case hw_43 => rfl
          try simp only [Act.put, List.setIfInBounds_toArray, List.set_cons_zero, List.set_cons_succ]
          refine wpAnyH_take (i := 19) (oi := ?oi_44) (v := undef) ?hi_44 (by kernel_rfl) ?hf_44 ?hr_44 ?hQ_44 (Or.inr ⟨?hw_44, rfl⟩) (by assumption) ?rest_44
          case hi_44 => ((simp only [List.getElem?_toArray, List.getElem?_cons_succ, List.getElem?_cons_zero]); rfl)
          case hf_44 => kernel_rfl
          case hr_44 => kernel_rfl
          case hQ_44 => exact fun _ _ _ h => h
          case hw_44 => rfl
          try simp only [Act.put, List.setIfInBounds_toArray, List.set_cons_zero, List.set_cons_succ]
          refine wpAnyH_take (i := 20) (oi := ?oi_45) (v := undef) ?hi_45 (by kernel_rfl) ?hf_45 ?hr_45 ?hQ_45 (Or.inr ⟨?hw_45, rfl⟩) (by assumption) ?rest_45
          case hi_45 => ((simp only [List.getElem?_toArray, List.getElem?_cons_succ, List.getElem?_cons_zero]); rfl)
          case hf_45 => kernel_rfl
          case hr_45 => kernel_rfl
          case hQ_45 => exact fun _ _ _ h => h
          case hw_45 => rfl
          try simp only [Act.put, List.setIfInBounds_toArray, List.set_cons_zero, List.set_cons_succ]
          refine wpAnyH_take (i := 21) (oi := ?oi_46) (v := undef) ?hi_46 (by kernel_rfl) ?hf_46 ?hr_46 ?hQ_46 (Or.inr ⟨?hw_46, rfl⟩) (by assumption) ?rest_46
          case hi_46 => ((simp only [List.getElem?_toArray, List.getElem?_cons_succ, List.getElem?_cons_zero]); rfl)
          case hf_46 => kernel_rfl
          case hr_46 => kernel_rfl
          case hQ_46 => exact fun _ _ _ h => h
          case hw_46 => rfl
          try simp only [Act.put, List.setIfInBounds_toArray, List.set_cons_zero, List.set_cons_succ]
          refine wpAnyH_take (i := 22) (oi := ?oi_47) (v := ?v_47) ?hi_47 (by kernel_rfl) ?hf_47 ?hr_47 ?hQ_47 (Or.inl ⟨?hw_47, ?hy_47⟩) (by assumption) ?rest_47
          case hi_47 => ((simp only [List.getElem?_toArray, List.getElem?_cons_succ, List.getElem?_cons_zero]); rfl)
          case hf_47 => kernel_rfl
          case hr_47 => kernel_rfl
          case hQ_47 => exact fun _ _ _ h => h
          case hw_47 => rfl
          case hy_47 => ((intro w hSw; (try dsimp only at hSw); go_simp); all_goals (with_reducible rfl))
          try simp only [Act.put, List.setIfInBounds_toArray, List.set_cons_zero, List.set_cons_succ]
          refine wpAnyH_take (i := 23) (oi := ?oi_48) (v := ?v_48) ?hi_48 (by kernel_rfl) ?hf_48 ?hr_48 ?hQ_48 (Or.inl ⟨?hw_48, ?hy_48⟩) (by assumption) ?rest_48
          case hi_48 => ((simp only [List.getElem?_toArray, List.getElem?_cons_succ, List.getElem?_cons_zero]); rfl)
          case hf_48 => kernel_rfl
          case hr_48 => kernel_rfl
          case hQ_48 => exact fun _ _ _ h => h
          case hw_48 => rfl
          case hy_48 => ((intro w hSw; (try dsimp only at hSw); go_simp); all_goals (with_reducible rfl))
          try simp only [Act.put, List.setIfInBounds_toArray, List.set_cons_zero, List.set_cons_succ]
          refine wpAnyH_done (by kernel_rfl) ?_ _
          have hbel := hHeld
          clear hHeld
          go_wp2
          go_roundw
          case rel => exact ⟨k + 1, k, by omega, by push_cast; rfl, rfl, Lib.hid HN.out, belStep HBW.out hbel⟩
          case measure => simp [intOf] <;> omega
        · subst hb0
          have hik : i < k := by
            rcases Nat.lt_or_ge i k with q | q
            · exact q
            · rw [List.getElem?_eq_none (by rw [List.length_take]; omega)] at hi; cases hi
          have hiT : T[i]? = some z := by rwa [List.getElem?_take_of_lt hik] at hi
          have HI := Lib.hid hi
          have HA := Lib.hid ha
          have HMZ := Lib.hid hmz
          have hzo := HTO.out z (List.mem_of_getElem? hiT)
          have hzr := HTT.out z (List.mem_of_getElem? hiT)
          obtain ⟨bz, oz, ez, _, hcz⟩ := (HRL.out _ HBW.out).elem EntV.cells_len (by omega) hiT
          simp only [Option.some.injEq, Addr.mk.injEq, and_true] at ez
          obtain ⟨rfl, rfl⟩ := ez
          have z0 := keep (hcz 0 _ rfl)
          have z1 := keep (hcz 1 _ rfl)
          have z2 := keep (hcz 2 _ rfl)
          have z3 := keep (hcz 3 _ rfl)
          have z4 := keep (hcz 4 _ rfl)
          have z5 := keep (hcz 5 _ rfl)
          have z6 := keep (hcz 6 _ rfl)
          have z7 := keep (hcz 7 _ rfl)
          have z8 := keep (hcz 8 _ rfl)
          have z9 := keep (hcz 9 _ rfl)
          have z10 := keep (hcz 10 _ rfl)
          have z11 := keep (hcz 11 _ rfl)
          rw [Nat.add_zero] at z0
          have hiL : (i : Int) < (T.length : Int) := by omega
          have hi0 : (0 : Int) ≤ (i : Int) := by omega
          have hn0 : ¬ ((i : Int) < 0) := by omega
          have hn1 : decide ((i : Int) < 0) = false := decide_eq_false hn0
          have CA := Lib.hid (fun u (hu : Below W2.heap.size W2 u) => rref_Ahead g G x.pod z.pod t x0 x1 x2 a U.length cap U u hg HGG.out HXO.out.1 HXR.out hzo.1 hzr HU.out rfl (HUL.out u (belStep HBW.out hu)))
          obtain ⟨ab, hab⟩ : ∃ q, aheadB g x.pod z.pod U = q := ⟨_, rfl⟩
          rw [hab] at CA
          have HAB := Lib.hid hab
          clear hab hi ha hmz hzo hzr hiT hcz
          go_upto_region 5 with fail
          rcases ab with _ | _
          · have HN := Lib.hid (best_old HX.out HI.out HMZ.out HA.out HAB.out)
            clear hbel
            refine wp_region_held_drew (S := (fun u => Below W2.heap.size W2 u)) (by kernel_rfl) (by exact (show Below W2.heap.size W2 _ from by repeat (first | assumption | exact Below.refl _ _ | refine belDrew ?_ | refine belAlloc ?_ _ | refine belStep ?_ (by assumption)))) (fun hHeld => ?_)
            refine wpAnyH_take (i := 0) (oi := ?oi_49) (v := ?v_49) ?hi_49 (by kernel_rfl) ?hf_49 ?hr_49 ?hQ_49 (Or.inl ⟨?hw_49, ?hy_49⟩) (by assumption) ?rest_49
            case hi_49 => ((simp only [List.getElem?_toArray, List.getElem?_cons_succ, List.getElem?_cons_zero]); rfl)
            case hf_49 => kernel_rfl
            case hr_49 => kernel_rfl
            case hQ_49 => exact fun _ _ _ h => h
            case hw_49 => rfl
            case hy_49 => ((intro w hSw; (try dsimp only at hSw); go_simp); all_goals (with_reducible rfl))
            try simp only [Act.put, List.setIfInBounds_toArray, List.set_cons_zero, List.set_cons_succ]
            refine wpAnyH_take (i := 1) (oi := ?oi_50) (v := ?v_50) ?hi_50 (by kernel_rfl) ?hf_50 ?hr_50 ?hQ_50 (Or.inl ⟨?hw_50, ?hy_50⟩) (by assumption) ?rest_50
            case hi_50 => ((simp only [List.getElem?_toArray, List.getElem?_cons_succ, List.getElem?_cons_zero]); rfl)
            case hf_50 => kernel_rfl
            case hr_50 => kernel_rfl
            case hQ_50 => exact fun _ _ _ h => h
            case hw_50 => rfl
            case hy_50 => ((intro w hSw; (try dsimp only at hSw); go_simp); all_goals (with_reducible rfl))
            try simp only [Act.put, List.setIfInBounds_toArray, List.set_cons_zero, List.set_cons_succ]
            refine wpAnyH_take (i := 2) (oi := ?oi_51) (v := ?v_51) ?hi_51 (by kernel_rfl) ?hf_51 ?hr_51 ?hQ_51 (Or.inl ⟨?hw_51, ?hy_51⟩) (by assumption) ?rest_51
            case hi_51 => ((simp only [List.getElem?_toArray, List.getElem?_cons_succ, List.getElem?_cons_zero]); rfl)
            case hf_51 => kernel_rfl
            case hr_51 => kernel_rfl
            case hQ_51 => exact fun _ _ _ h => h
            case hw_51 => rfl
            case hy_51 => ((intro w hSw; (try dsimp only at hSw); go_simp); all_goals (with_reducible rfl))
            try simp only [Act.put, List.setIfInBounds_toArray, List.set_cons_zero, List.set_cons_succ]
            refine wpAnyH_take (i := 3) (oi := ?oi_52) (v := ?v_52) ?hi_52 (by kernel_rfl) ?hf_52 ?hr_52 ?hQ_52 (Or.inl ⟨?hw_52, ?hy_52⟩) (by assumption) ?rest_52
            case hi_52 => ((simp only [List.getElem?_toArray, List.getElem?_cons_succ, List.getElem?_cons_zero]); rfl)
            case hf_52 => kernel_rfl
            case hr_52 => kernel_rfl
            case hQ_52 => exact fun _ _ _ h => h
            case hw_52 => rfl
            case hy_52 => ((intro w hSw; (try dsimp only at hSw); go_simp); all_goals (with_reducible rfl))
            try simp only [Act.put, List.setIfInBounds_toArray, List.set_cons_zero, List.set_cons_succ]
            refine wpAnyH_ready (rs := [4]) (by kernel_rfl) (by simp) ?_
            refine AllReadyH.cons (o := ?o1_53) ?hi_53 (fun K hK => ?rest_53) AllReadyH.nil
            case hi_53 => ((simp only [List.getElem?_toArray, List.getElem?_cons_succ, List.getElem?_cons_zero]); rfl)
            go_simp
            (first | (go_at_call 44; (with_reducible refine (CM.out _).mono ?_); rintro e wq ⟨rfl, hbq⟩) | (go_at_call 42; (with_reducible refine (CA.out _ hHeld).mono ?_); rintro e wq ⟨rfl, hbq⟩))
            try go_simp
            refine hK.out _ _ (by exact (show Below W2.heap.size W2 _ from by repeat (first | assumption | exact Below.refl _ _ | refine belDrew ?_ | refine belAlloc ?_ _ | refine belStep ?_ (by assumption)))) (fun hHeld => ?_)
            clear hK K
            try simp only [Act.put, List.setIfInBounds_toArray, List.set_cons_zero, List.set_cons_succ]
            refine wpAnyH_take (i := 5) (oi := ?oi_54) (v := ?v_54) ?hi_54 (by kernel_rfl) ?hf_54 ?hr_54 ?hQ_54 (Or.inl ⟨?hw_54, ?hy_54⟩) (by assumption) ?rest_54
            case hi_54 => ((simp only [List.getElem?_toArray, List.getElem?_cons_succ, List.getElem?_cons_zero]); rfl)
            case hf_54 => kernel_rfl
            case hr_54 => kernel_rfl
            case hQ_54 => exact fun _ _ _ h => h
            case hw_54 => rfl
            case hy_54 => ((intro w hSw; (try dsimp only at hSw); go_simp); all_goals (with_reducible rfl))
            try simp only [Act.put, List.setIfInBounds_toArray, List.set_cons_zero, List.set_cons_succ]
            refine wpAnyH_take (i := 6) (oi := ?oi_55) (v := ?v_55) ?hi_55 (by kernel_rfl) ?hf_55 ?hr_55 ?hQ_55 (Or.inl ⟨?hw_55, ?hy_55⟩) (by assumption) ?rest_55
            case hi_55 => ((simp only [List.getElem?_toArray, List.getElem?_cons_succ, List.getElem?_cons_zero]); rfl)
            case hf_55 => kernel_rfl
            case hr_55 => kernel_rfl
            case hQ_55 => exact fun _ _ _ h => h
            case hw_55 => rfl
            case hy_55 => ((intro w hSw; (try dsimp only at hSw); go_simp); all_goals (with_reducible rfl))
            try simp only [Act.put, List.setIfInBounds_toArray, List.set_cons_zero, List.set_cons_succ]
            refine wpAnyH_take (i := 7) (oi := ?oi_56) (v := ?v_56) ?hi_56 (by kernel_rfl) ?hf_56 ?hr_56 ?hQ_56 (Or.inl ⟨?hw_56, ?hy_56⟩) (by assumption) ?rest_56
            case hi_56 => ((simp only [List.getElem?_toArray, List.getElem?_cons_succ, List.getElem?_cons_zero]); rfl)
            case hf_56 => kernel_rfl
            case hr_56 => kernel_rfl
            case hQ_56 => exact fun _ _ _ h => h
            case hw_56 => rfl
            case hy_56 => ((intro w hSw; (try dsimp only at hSw); go_simp); all_goals (with_reducible rfl))
            try simp only [Act.put, List.setIfInBounds_toArray, List.set_cons_zero, List.set_cons_succ]
            refine wpAnyH_take (i := 8) (oi := ?oi_57) (v := ?v_57) ?hi_57 (by kernel_rfl) ?hf_57 ?hr_57 ?hQ_57 (Or.inl ⟨?hw_57, ?hy_57⟩) (by assumption) ?rest_57
            case hi_57 => ((simp only [List.getElem?_toArray, List.getElem?_cons_succ, List.getElem?_cons_zero]); rfl)
            case hf_57 => kernel_rfl
            case hr_57 => kernel_rfl
            case hQ_57 => exact fun _ _ _ h => h
            case hw_57 => rfl
            case hy_57 => ((intro w hSw; (try dsimp only at hSw); go_simp); all_goals (with_reducible rfl))
            try simp only [Act.put, List.setIfInBounds_toArray, List.set_cons_zero, List.set_cons_succ]
            refine wpAnyH_take (i := 9) (oi := ?oi_58) (v := ?v_58) ?hi_58 (by kernel_rfl) ?hf_58 ?hr_58 ?hQ_58 (Or.inl ⟨?hw_58, ?hy_58⟩) (by assumption) ?rest_58
            case hi_58 => ((simp only [List.getElem?_toArray, List.getElem?_cons_succ, List.getElem?_cons_zero]); rfl)
            case hf_58 => kernel_rfl
            case hr_58 => kernel_rfl
            case hQ_58 => exact fun _ _ _ h => h
            case hw_58 => rfl
            case hy_58 => ((intro w hSw; (try dsimp only at hSw); go_simp); all_goals (with_reducible rfl))
            try simp only [Act.put, List.setIfInBounds_toArray, List.set_cons_zero, List.set_cons_succ]
            refine wpAnyH_take (i := 10) (oi := ?oi_59) (v := ?v_59) ?hi_59 (by kernel_rfl) ?hf_59 ?hr_59 ?hQ_59 (Or.inl ⟨?hw_59, ?hy_59⟩) (by assumption) ?rest_59
            case hi_59 => ((simp only [List.getElem?_toArray, List.getElem?_cons_succ, List.getElem?_cons_zero]); rfl)
            case hf_59 => kernel_rfl
            case hr_59 => kernel_rfl
            case hQ_59 => exact fun _ _ _ h => h
            case hw_59 => rfl
            case hy_59 => ((intro w hSw; (try dsimp only at hSw); go_simp); all_goals (with_reducible rfl))
            try simp only [Act.put, List.setIfInBounds_toArray, List.set_cons_zero, List.set_cons_succ]
            refine wpAnyH_take (i := 11) (oi := ?oi_60) (v := ?v_60) ?hi_60 (by kernel_rfl) ?hf_60 ?hr_60 ?hQ_60 (Or.inl ⟨?hw_60, ?hy_60⟩) (by assumption) ?rest_60
            case hi_60 => ((simp only [List.getElem?_toArray, List.getElem?_cons_succ, List.getElem?_cons_zero]); rfl)
            case hf_60 => kernel_rfl
            case hr_60 => kernel_rfl
            case hQ_60 => exact fun _ _ _ h => h
            case hw_60 => rfl
            case hy_60 => ((intro w hSw; (try dsimp only at hSw); go_simp); all_goals (with_reducible rfl))
            try simp only [Act.put, List.setIfInBounds_toArray, List.set_cons_zero, List.set_cons_succ]
            refine wpAnyH_take (i := 12) (oi := ?oi_61) (v := ?v_61) ?hi_61 (by kernel_rfl) ?hf_61 ?hr_61 ?hQ_61 (Or.inl ⟨?hw_61, ?hy_61⟩) (by assumption) ?rest_61
            case hi_61 => ((simp only [List.getElem?_toArray, List.getElem?_cons_succ, List.getElem?_cons_zero]); rfl)
            case hf_61 => kernel_rfl
            case hr_61 => kernel_rfl
            case hQ_61 => exact fun _ _ _ h => h
            case hw_61 => rfl
            case hy_61 => ((intro w hSw; (try dsimp only at hSw); go_simp); all_goals (with_reducible rfl))
            try simp only [Act.put, List.setIfInBounds_toArray, List.set_cons_zero, List.set_cons_succ]
            refine wpAnyH_take (i := 13) (oi := ?oi_62) (v := ?v_62) ?hi_62 (by kernel_rfl) ?hf_62 ?hr_62 ?hQ_62 (Or.inl ⟨?hw_62, ?hy_62⟩) (by assumption) ?rest_62
            case hi_62 => ((simp only [List.getElem?_toArray, List.getElem?_cons_succ, List.getElem?_cons_zero]); rfl)
            case hf_62 => kernel_rfl
            case hr_62 => kernel_rfl
            case hQ_62 => exact fun _ _ _ h => h
            case hw_62 => rfl
            case hy_62 => ((intro w hSw; (try dsimp only at hSw); go_simp); all_goals (with_reducible rfl))
            try simp only [Act.put, List.setIfInBounds_toArray, List.set_cons_zero, List.set_cons_succ]
            refine wpAnyH_take (i := 14) (oi := ?oi_63) (v := ?v_63) ?hi_63 (by kernel_rfl) ?hf_63 ?hr_63 ?hQ_63 (Or.inl ⟨?hw_63, ?hy_63⟩) (by assumption) ?rest_63
            case hi_63 => ((simp only [List.getElem?_toArray, List.getElem?_cons_succ, List.getElem?_cons_zero]); rfl)
            case hf_63 => kernel_rfl
            case hr_63 => kernel_rfl
            case hQ_63 => exact fun _ _ _ h => h
            case hw_63 => rfl
            case hy_63 => ((intro w hSw; (try dsimp only at hSw); go_simp); all_goals (with_reducible rfl))
            try simp only [Act.put, List.setIfInBounds_toArray, List.set_cons_zero, List.set_cons_succ]
            refine wpAnyH_take (i := 15) (oi := ?oi_64) (v := ?v_64) ?hi_64 (by kernel_rfl) ?hf_64 ?hr_64 ?hQ_64 (Or.inl ⟨?hw_64, ?hy_64⟩) (by assumption) ?rest_64
            case hi_64 => ((simp only [List.getElem?_toArray, List.getElem?_cons_succ, List.getElem?_cons_zero]); rfl)
            case hf_64 => kernel_rfl
            case hr_64 => kernel_rfl
            case hQ_64 => exact fun _ _ _ h => h
            case hw_64 => rfl
            case hy_64 => ((intro w hSw; (try dsimp only at hSw); go_simp); all_goals (with_reducible rfl))
            try simp only [Act.put, List.setIfInBounds_toArray, List.set_cons_zero, List.set_cons_succ]
            refine wpAnyH_take (i := 16) (oi := ?oi_65) (v := ?v_65) ?hi_65 (by kernel_rfl) ?hf_65 ?hr_65 ?hQ_65 (Or.inl ⟨?hw_65, ?hy_65⟩) (by assumption) ?rest_65
            case hi_65 => ((simp only [List.getElem?_toArray, List.getElem?_cons_succ, List.getElem?_cons_zero]); rfl)
            case hf_65 => kernel_rfl
            case hr_65 => kernel_rfl
            case hQ_65 => exact fun _ _ _ h => h
            case hw_65 => rfl
            case hy_65 => ((intro w hSw; (try dsimp only at hSw); go_simp); all_goals (with_reducible rfl))
            try simp only [Act.put, List.setIfInBounds_toArray, List.set_cons_zero, List.set_cons_succ]
            refine wpAnyH_take (i := 17) (oi := ?oi_66) (v := ?v_66) ?hi_66 (by kernel_rfl) ?hf_66 ?hr_66 ?hQ_66 (Or.inl ⟨?hw_66, ?hy_66⟩) (by assumption) ?rest_66
            case hi_66 => ((simp only [List.getElem?_toArray, List.getElem?_cons_succ, List.getElem?_cons_zero]); rfl)
            case hf_66 => kernel_rfl
            case hr_66 => kernel_rfl
            case hQ_66 => exact fun _ _ _ h => h
            case hw_66 => rfl
            case hy_66 => ((intro w hSw; (try dsimp only at hSw); go_simp); all_goals (with_reducible rfl))
            try simp only [Act.put, List.setIfInBounds_toArray, List.set_cons_zero, List.set_cons_succ]
            refine wpAnyH_take (i := 18) (oi := ?oi_67) (v := ?v_67) ?hi_67 (by kernel_rfl) ?hf_67 ?hr_67 ?hQ_67 (Or.inl ⟨?hw_67, ?hy_67⟩) (by assumption) ?rest_67
            case hi_67 => ((simp only [List.getElem?_toArray, List.getElem?_cons_succ, List.getElem?_cons_zero]); rfl)
            case hf_67 => kernel_rfl
            case hr_67 => kernel_rfl
            case hQ_67 => exact fun _ _ _ h => h
            case hw_67 => rfl
            case hy_67 => ((intro w hSw; (try dsimp only at hSw); go_simp); all_goals (with_reducible rfl))
            try simp only [Act.put, List.setIfInBounds_toArray, List.set_cons_zero, List.set_cons_succ]
            refine wpAnyH_take (i := 19) (oi := ?oi_68) (v := ?v_68) ?hi_68 (by kernel_rfl) ?hf_68 ?hr_68 ?hQ_68 (Or.inl ⟨?hw_68, ?hy_68⟩) (by assumption) ?rest_68
            case hi_68 => ((simp only [List.getElem?_toArray, List.getElem?_cons_succ, List.getElem?_cons_zero]); rfl)
            case hf_68 => kernel_rfl
            case hr_68 => kernel_rfl
            case hQ_68 => exact fun _ _ _ h => h
            case hw_68 => rfl
            case hy_68 => ((intro w hSw; (try dsimp only at hSw); go_simp); all_goals (with_reducible rfl))
            try simp only [Act.put, List.setIfInBounds_toArray, List.set_cons_zero, List.set_cons_succ]
            refine wpAnyH_take (i := 20) (oi := ?oi_69) (v := ?v_69) ?hi_69 (by kernel_rfl) ?hf_69 ?hr_69 ?hQ_69 (Or.inl ⟨?hw_69, ?hy_69⟩) (by assumption) ?rest_69
            case hi_69 => ((simp only [List.getElem?_toArray, List.getElem?_cons_succ, List.getElem?_cons_zero]); rfl)
            case hf_69 => kernel_rfl
            case hr_69 => kernel_rfl
            case hQ_69 => exact fun _ _ _ h => h
            case hw_69 => rfl
            case hy_69 => ((intro w hSw; (try dsimp only at hSw); go_simp); all_goals (with_reducible rfl))
            try simp only [Act.put, List.setIfInBounds_toArray, List.set_cons_zero, List.set_cons_succ]
            refine wpAnyH_ready (rs := [21]) (by kernel_rfl) (by simp) ?_
            refine AllReadyH.cons (o := ?o1_70) ?hi_70 (fun K hK => ?rest_70) AllReadyH.nil
            case hi_70 => ((simp only [List.getElem?_toArray, List.getElem?_cons_succ, List.getElem?_cons_zero]); rfl)
            go_simp
            (first | (go_at_call 44; (with_reducible refine (CM.out _).mono ?_); rintro e wq ⟨rfl, hbq⟩) | (go_at_call 42; (with_reducible refine (CA.out _ hHeld).mono ?_); rintro e wq ⟨rfl, hbq⟩))
            try go_simp
            refine hK.out _ _ (by exact (show Below W2.heap.size W2 _ from by repeat (first | assumption | exact Below.refl _ _ | refine belDrew ?_ | refine belAlloc ?_ _ | refine belStep ?_ (by assumption)))) (fun hHeld => ?_)
            clear hK K
            try simp only [Act.put, List.setIfInBounds_toArray, List.set_cons_zero, List.set_cons_succ]
            refine wpAnyH_take (i := 22) (oi := ?oi_71) (v := ?v_71) ?hi_71 (by kernel_rfl) ?hf_71 ?hr_71 ?hQ_71 (Or.inl ⟨?hw_71, ?hy_71⟩) (by assumption) ?rest_71
            case hi_71 => ((simp only [List.getElem?_toArray, List.getElem?_cons_succ, List.getElem?_cons_zero]); rfl)
            case hf_71 => kernel_rfl
            case hr_71 => kernel_rfl
            case hQ_71 => exact fun _ _ _ h => h
            case hw_71 => rfl
            case hy_71 => ((intro w hSw; (try dsimp only at hSw); go_simp); all_goals (with_reducible rfl))
            try simp only [Act.put, List.setIfInBounds_toArray, List.set_cons_zero, List.set_cons_succ]
            refine wpAnyH_take (i := 23) (oi := ?oi_72) (v := ?v_72) ?hi_72 (by kernel_rfl) ?hf_72 ?hr_72 ?hQ_72 (Or.inl ⟨?hw_72, ?hy_72⟩) (by assumption) ?rest_72
            case hi_72 => ((simp only [List.getElem?_toArray, List.getElem?_cons_succ, List.getElem?_cons_zero]); rfl)
            case hf_72 => kernel_rfl
            case hr_72 => kernel_rfl
            case hQ_72 => exact fun _ _ _ h => h
            case hw_72 => rfl
            case hy_72 => ((intro w hSw; (try dsimp only at hSw); go_simp); all_goals (with_reducible rfl))
            try simp only [Act.put, List.setIfInBounds_toArray, List.set_cons_zero, List.set_cons_succ]
            refine wpAnyH_done (by kernel_rfl) ?_ _
            have hbel := hHeld
            clear hHeld
            go_wp2
            go_roundw
            case rel => exact ⟨k + 1, i, by omega, by push_cast; rfl, rfl, Lib.hid HN.out, belStep HBW.out hbel⟩
            case measure => simp [intOf] <;> omega
          · have HN := Lib.hid (best_new (i := i) HX.out HM.out HA.out HAB.out)
            clear hbel
            refine wp_region_held_drew (S := (fun u => Below W2.heap.size W2 u)) (by kernel_rfl) (by exact (show Below W2.heap.size W2 _ from by repeat (first | assumption | exact Below.refl _ _ | refine belDrew ?_ | refine belAlloc ?_ _ | refine belStep ?_ (by assumption)))) (fun hHeld => ?_)
            refine wpAnyH_take (i := 0) (oi := ?oi_73) (v := ?v_73) ?hi_73 (by kernel_rfl) ?hf_73 ?hr_73 ?hQ_73 (Or.inl ⟨?hw_73, ?hy_73⟩) (by assumption) ?rest_73
            case hi_73 => ((simp only [List.getElem?_toArray, List.getElem?_cons_succ, List.getElem?_cons_zero]); rfl)
            case hf_73 => kernel_rfl
            case hr_73 => kernel_rfl
            case hQ_73 => exact fun _ _ _ h => h
            case hw_73 => rfl
            case hy_73 => ((intro w hSw; (try dsimp only at hSw); go_simp); all_goals (with_reducible rfl))
            try simp only [Act.put, List.setIfInBounds_toArray, List.set_cons_zero, List.set_cons_succ]
            refine wpAnyH_take (i := 1) (oi := ?oi_74) (v := ?v_74) ?hi_74 (by kernel_rfl) ?hf_74 ?hr_74 ?hQ_74 (Or.inl ⟨?hw_74, ?hy_74⟩) (by assumption) ?rest_74
            case hi_74 => ((simp only [List.getElem?_toArray, List.getElem?_cons_succ, List.getElem?_cons_zero]); rfl)
            case hf_74 => kernel_rfl
            case hr_74 => kernel_rfl
            case hQ_74 => exact fun _ _ _ h => h
            case hw_74 => rfl
            case hy_74 => ((intro w hSw; (try dsimp only at hSw); go_simp); all_goals (with_reducible rfl))
            try simp only [Act.put, List.setIfInBounds_toArray, List.set_cons_zero, List.set_cons_succ]
            refine wpAnyH_take (i := 2) (oi := ?oi_75) (v := ?v_75) ?hi_75 (by kernel_rfl) ?hf_75 ?hr_75 ?hQ_75 (Or.inl ⟨?hw_75, ?hy_75⟩) (by assumption) ?rest_75
            case hi_75 => ((simp only [List.getElem?_toArray, List.getElem?_cons_succ, List.getElem?_cons_zero]); rfl)
            case hf_75 => kernel_rfl
            case hr_75 => kernel_rfl
            case hQ_75 => exact fun _ _ _ h => h
            case hw_75 => rfl
            case hy_75 => ((intro w hSw; (try dsimp only at hSw); go_simp); all_goals (with_reducible rfl))
            try simp only [Act.put, List.setIfInBounds_toArray, List.set_cons_zero, List.set_cons_succ]
            refine wpAnyH_take (i := 3) (oi := ?oi_76) (v := ?v_76) ?hi_76 (by kernel_rfl) ?hf_76 ?hr_76 ?hQ_76 (Or.inl ⟨?hw_76, ?hy_76⟩) (by assumption) ?rest_76
            case hi_76 => ((simp only [List.getElem?_toArray, List.getElem?_cons_succ, List.getElem?_cons_zero]); rfl)
            case hf_76 => kernel_rfl
            case hr_76 => kernel_rfl
            case hQ_76 => exact fun _ _ _ h => h
            case hw_76 => rfl
            case hy_76 => ((intro w hSw; (try dsimp only at hSw); go_simp); all_goals (with_reducible rfl))
            try simp only [Act.put, List.setIfInBounds_toArray, List.set_cons_zero, List.set_cons_succ]
            refine wpAnyH_ready (rs := [4]) (by kernel_rfl) (by simp) ?_
            refine AllReadyH.cons (o := ?o1_77) ?hi_77 (fun K hK => ?rest_77) AllReadyH.nil
            case hi_77 => ((simp only [List.getElem?_toArray, List.getElem?_cons_succ, List.getElem?_cons_zero]); rfl)
            go_simp
            (first | (go_at_call 44; (with_reducible refine (CM.out _).mono ?_); rintro e wq ⟨rfl, hbq⟩) | (go_at_call 42; (with_reducible refine (CA.out _ hHeld).mono ?_); rintro e wq ⟨rfl, hbq⟩))
            try go_simp
            refine hK.out _ _ (by exact (show Below W2.heap.size W2 _ from by repeat (first | assumption | exact Below.refl _ _ | refine belDrew ?_ | refine belAlloc ?_ _ | refine belStep ?_ (by assumption)))) (fun hHeld => ?_)
            clear hK K
            try simp only [Act.put, List.setIfInBounds_toArray, List.set_cons_zero, List.set_cons_succ]
            refine wpAnyH_take (i := 5) (oi := ?oi_78) (v := ?v_78) ?hi_78 (by kernel_rfl) ?hf_78 ?hr_78 ?hQ_78 (Or.inl ⟨?hw_78, ?hy_78⟩) (by assumption) ?rest_78
            case hi_78 => ((simp only [List.getElem?_toArray, List.getElem?_cons_succ, List.getElem?_cons_zero]); rfl)
            case hf_78 => kernel_rfl
            case hr_78 => kernel_rfl
            case hQ_78 => exact fun _ _ _ h => h
            case hw_78 => rfl
            case hy_78 => ((intro w hSw; (try dsimp only at hSw); go_simp); all_goals (with_reducible rfl))
            try simp only [Act.put, List.setIfInBounds_toArray, List.set_cons_zero, List.set_cons_succ]
            refine wpAnyH_take (i := 6) (oi := ?oi_79) (v := ?v_79) ?hi_79 (by kernel_rfl) ?hf_79 ?hr_79 ?hQ_79 (Or.inl ⟨?hw_79, ?hy_79⟩) (by assumption) ?rest_79
            case hi_79 => ((simp only [List.getElem?_toArray, List.getElem?_cons_succ, List.getElem?_cons_zero]); rfl)
            case hf_79 => kernel_rfl
            case hr_79 => kernel_rfl
            case hQ_79 => exact fun _ _ _ h => h
            case hw_79 => rfl
            case hy_79 => ((intro w hSw; (try dsimp only at hSw); go_simp); all_goals (with_reducible rfl))
            try simp only [Act.put, List.setIfInBounds_toArray, List.set_cons_zero, List.set_cons_succ]
            refine wpAnyH_take (i := 7) (oi := ?oi_80) (v := ?v_80) ?hi_80 (by kernel_rfl) ?hf_80 ?hr_80 ?hQ_80 (Or.inl ⟨?hw_80, ?hy_80⟩) (by assumption) ?rest_80
            case hi_80 => ((simp only [List.getElem?_toArray, List.getElem?_cons_succ, List.getElem?_cons_zero]); rfl)
            case hf_80 => kernel_rfl
            case hr_80 => kernel_rfl
            case hQ_80 => exact fun _ _ _ h => h
            case hw_80 => rfl
            case hy_80 => ((intro w hSw; (try dsimp only at hSw); go_simp); all_goals (with_reducible rfl))
            try simp only [Act.put, List.setIfInBounds_toArray, List.set_cons_zero, List.set_cons_succ]
            refine wpAnyH_take (i := 8) (oi := ?oi_81) (v := ?v_81) ?hi_81 (by kernel_rfl) ?hf_81 ?hr_81 ?hQ_81 (Or.inl ⟨?hw_81, ?hy_81⟩) (by assumption) ?rest_81
            case hi_81 => ((simp only [List.getElem?_toArray, List.getElem?_cons_succ, List.getElem?_cons_zero]); rfl)
            case hf_81 => kernel_rfl
            case hr_81 => kernel_rfl
            case hQ_81 => exact fun _ _ _ h => h
            case hw_81 => rfl
            case hy_81 => ((intro w hSw; (try dsimp only at hSw); go_simp); all_goals (with_reducible rfl))
            try simp only [Act.put, List.setIfInBounds_toArray, List.set_cons_zero, List.set_cons_succ]
            refine wpAnyH_take (i := 9) (oi := ?oi_82) (v := ?v_82) ?hi_82 (by kernel_rfl) ?hf_82 ?hr_82 ?hQ_82 (Or.inl ⟨?hw_82, ?hy_82⟩) (by assumption) ?rest_82
            case hi_82 => ((simp only [List.getElem?_toArray, List.getElem?_cons_succ, List.getElem?_cons_zero]); rfl)
            case hf_82 => kernel_rfl
            case hr_82 => kernel_rfl
            case hQ_82 => exact fun _ _ _ h => h
            case hw_82 => rfl
            case hy_82 => ((intro w hSw; (try dsimp only at hSw); go_simp); all_goals (with_reducible rfl))
            try simp only [Act.put, List.setIfInBounds_toArray, List.set_cons_zero, List.set_cons_succ]
            refine wpAnyH_take (i := 10) (oi := ?oi_83) (v := ?v_83) ?hi_83 (by kernel_rfl) ?hf_83 ?hr_83 ?hQ_83 (Or.inl ⟨?hw_83, ?hy_83⟩) (by assumption) ?rest_83
            case hi_83 => ((simp only [List.getElem?_toArray, List.getElem?_cons_succ, List.getElem?_cons_zero]); rfl)
            case hf_83 => kernel_rfl
            case hr_83 => kernel_rfl
            case hQ_83 => exact fun _ _ _ h => h
            case hw_83 => rfl
            case hy_83 => ((intro w hSw; (try dsimp only at hSw); go_simp); all_goals (with_reducible rfl))
            try simp only [Act.put, List.setIfInBounds_toArray, List.set_cons_zero, List.set_cons_succ]
            refine wpAnyH_take (i := 11) (oi := ?oi_84) (v := ?v_84) ?hi_84 (by kernel_rfl) ?hf_84 ?hr_84 ?hQ_84 (Or.inl ⟨?hw_84, ?hy_84⟩) (by assumption) ?rest_84
            case hi_84 => ((simp only [List.getElem?_toArray, List.getElem?_cons_succ, List.getElem?_cons_zero]); rfl)
            case hf_84 => kernel_rfl
            case hr_84 => kernel_rfl
            case hQ_84 => exact fun _ _ _ h => h
            case hw_84 => rfl
            case hy_84 => ((intro w hSw; (try dsimp only at hSw); go_simp); all_goals (with_reducible rfl))
            try simp only [Act.put, List.setIfInBounds_toArray, List.set_cons_zero, List.set_cons_succ]
            refine wpAnyH_take (i := 12) (oi := ?oi_85) (v := ?v_85) ?hi_85 (by kernel_rfl) ?hf_85 ?hr_85 ?hQ_85 (Or.inl ⟨?hw_85, ?hy_85⟩) (by assumption) ?rest_85
            case hi_85 => ((simp only [List.getElem?_toArray, List.getElem?_cons_succ, List.getElem?_cons_zero]); rfl)
            case hf_85 => kernel_rfl
            case hr_85 => kernel_rfl
            case hQ_85 => exact fun _ _ _ h => h
            case hw_85 => rfl
            case hy_85 => ((intro w hSw; (try dsimp only at hSw); go_simp); all_goals (with_reducible rfl))
            try simp only [Act.put, List.setIfInBounds_toArray, List.set_cons_zero, List.set_cons_succ]
            refine wpAnyH_take (i := 13) (oi := ?oi_86) (v := ?v_86) ?hi_86 (by kernel_rfl) ?hf_86 ?hr_86 ?hQ_86 (Or.inl ⟨?hw_86, ?hy_86⟩) (by assumption) ?rest_86
            case hi_86 => ((simp only [List.getElem?_toArray, List.getElem?_cons_succ, List.getElem?_cons_zero]); rfl)
            case hf_86 => kernel_rfl
            case hr_86 => kernel_rfl
            case hQ_86 => exact fun _ _ _ h => h
            case hw_86 => rfl
            case hy_86 => ((intro w hSw; (try dsimp only at hSw); go_simp); all_goals (with_reducible rfl))
            try simp only [Act.put, List.setIfInBounds_toArray, List.set_cons_zero, List.set_cons_succ]
            refine wpAnyH_take (i := 14) (oi := ?oi_87) (v := ?v_87) ?hi_87 (by kernel_rfl) ?hf_87 ?hr_87 ?hQ_87 (Or.inl ⟨?hw_87, ?hy_87⟩) (by assumption) ?rest_87
            case hi_87 => ((simp only [List.getElem?_toArray, List.getElem?_cons_succ, List.getElem?_cons_zero]); rfl)
            case hf_87 => kernel_rfl
            case hr_87 => kernel_rfl
            case hQ_87 => exact fun _ _ _ h => h
            case hw_87 => rfl
            case hy_87 => ((intro w hSw; (try dsimp only at hSw); go_simp); all_goals (with_reducible rfl))
            try simp only [Act.put, List.setIfInBounds_toArray, List.set_cons_zero, List.set_cons_succ]
            refine wpAnyH_take (i := 15) (oi := ?oi_88) (v := ?v_88) ?hi_88 (by kernel_rfl) ?hf_88 ?hr_88 ?hQ_88 (Or.inl ⟨?hw_88, ?hy_88⟩) (by assumption) ?rest_88
            case hi_88 => ((simp only [List.getElem?_toArray, List.getElem?_cons_succ, List.getElem?_cons_zero]); rfl)
            case hf_88 => kernel_rfl
            case hr_88 => kernel_rfl
            case hQ_88 => exact fun _ _ _ h => h
            case hw_88 => rfl
            case hy_88 => ((intro w hSw; (try dsimp only at hSw); go_simp); all_goals (with_reducible rfl))
            try simp only [Act.put, List.setIfInBounds_toArray, List.set_cons_zero, List.set_cons_succ]
            refine wpAnyH_take (i := 16) (oi := ?oi_89) (v := ?v_89) ?hi_89 (by kernel_rfl) ?hf_89 ?hr_89 ?hQ_89 (Or.inl ⟨?hw_89, ?hy_89⟩) (by assumption) ?rest_89
            case hi_89 => ((simp only [List.getElem?_toArray, List.getElem?_cons_succ, List.getElem?_cons_zero]); rfl)
            case hf_89 => kernel_rfl
            case hr_89 => kernel_rfl
            case hQ_89 => exact fun _ _ _ h => h
            case hw_89 => rfl
            case hy_89 => ((intro w hSw; (try dsimp only at hSw); go_simp); all_goals (with_reducible rfl))
            try simp only [Act.put, List.setIfInBounds_toArray, List.set_cons_zero, List.set_cons_succ]
            refine wpAnyH_take (i := 17) (oi := ?oi_90) (v := ?v_90) ?hi_90 (by kernel_rfl) ?hf_90 ?hr_90 ?hQ_90 (Or.inl ⟨?hw_90, ?hy_90⟩) (by assumption) ?rest_90
            case hi_90 => ((simp only [List.getElem?_toArray, List.getElem?_cons_succ, List.getElem?_cons_zero]); rfl)
            case hf_90 => kernel_rfl
            case hr_90 => kernel_rfl
            case hQ_90 => exact fun _ _ _ h => h
            case hw_90 => rfl
            case hy_90 => ((intro w hSw; (try dsimp only at hSw); go_simp); all_goals (with_reducible rfl))
            try simp only [Act.put, List.setIfInBounds_toArray, List.set_cons_zero, List.set_cons_succ]
            refine wpAnyH_take (i := 18) (oi := ?oi_91) (v := ?v_91) ?hi_91 (by kernel_rfl) ?hf_91 ?hr_91 ?hQ_91 (Or.inl ⟨?hw_91, ?hy_91⟩) (by assumption) ?rest_91
            case hi_91 => ((simp only [List.getElem?_toArray, List.getElem?_cons_succ, List.getElem?_cons_zero]); rfl)
            case hf_91 => kernel_rfl
            case hr_91 => kernel_rfl
            case hQ_91 => exact fun _ _ _ h => h
            case hw_91 => rfl
            case hy_91 => ((intro w hSw; (try dsimp only at hSw); go_simp); all_goals (with_reducible rfl))
            try simp only [Act.put, List.setIfInBounds_toArray, List.set_cons_zero, List.set_cons_succ]
            refine wpAnyH_take (i := 19) (oi := ?oi_92) (v := ?v_92) ?hi_92 (by kernel_rfl) ?hf_92 ?hr_92 ?hQ_92 (Or.inl ⟨?hw_92, ?hy_92⟩) (by assumption) ?rest_92
            case hi_92 => ((simp only [List.getElem?_toArray, List.getElem?_cons_succ, List.getElem?_cons_zero]); rfl)
            case hf_92 => kernel_rfl
            case hr_92 => kernel_rfl
            case hQ_92 => exact fun _ _ _ h => h
            case hw_92 => rfl
            case hy_92 => ((intro w hSw; (try dsimp only at hSw); go_simp); all_goals (with_reducible rfl))
            try simp only [Act.put, List.setIfInBounds_toArray, List.set_cons_zero, List.set_cons_succ]
            refine wpAnyH_take (i := 20) (oi := ?oi_93) (v := ?v_93) ?hi_93 (by kernel_rfl) ?hf_93 ?hr_93 ?hQ_93 (Or.inl ⟨?hw_93, ?hy_93⟩) (by assumption) ?rest_93
            case hi_93 => ((simp only [List.getElem?_toArray, List.getElem?_cons_succ, List.getElem?_cons_zero]); rfl)
            case hf_93 => kernel_rfl
            case hr_93 => kernel_rfl
            case hQ_93 => exact fun _ _ _ h => h
            case hw_93 => rfl
            case hy_93 => ((intro w hSw; (try dsimp only at hSw); go_simp); all_goals (with_reducible rfl))
            try simp only [Act.put, List.setIfInBounds_toArray, List.set_cons_zero, List.set_cons_succ]
            refine wpAnyH_ready (rs := [21]) (by kernel_rfl) (by simp) ?_
            refine AllReadyH.cons (o := ?o1_94) ?hi_94 (fun K hK => ?rest_94) AllReadyH.nil
            case hi_94 => ((simp only [List.getElem?_toArray, List.getElem?_cons_succ, List.getElem?_cons_zero]); rfl)
            go_simp
            (first | (go_at_call 44; (with_reducible refine (CM.out _).mono ?_); rintro e wq ⟨rfl, hbq⟩) | (go_at_call 42; (with_reducible refine (CA.out _ hHeld).mono ?_); rintro e wq ⟨rfl, hbq⟩))
            try go_simp
            refine hK.out _ _ (by exact (show Below W2.heap.size W2 _ from by repeat (first | assumption | exact Below.refl _ _ | refine belDrew ?_ | refine belAlloc ?_ _ | refine belStep ?_ (by assumption)))) (fun hHeld => ?_)
            clear hK K
            try simp only [Act.put, List.setIfInBounds_toArray, List.set_cons_zero, List.set_cons_succ]
            refine wpAnyH_take (i := 22) (oi := ?oi_95) (v := ?v_95) ?hi_95 (by kernel_rfl) ?hf_95 ?hr_95 ?hQ_95 (Or.inl ⟨?hw_95, ?hy_95⟩) (by assumption) ?rest_95
            case hi_95 => ((simp only [List.getElem?_toArray, List.getElem?_cons_succ, List.getElem?_cons_zero]); rfl)
            case hf_95 => kernel_rfl
            case hr_95 => kernel_rfl
            case hQ_95 => exact fun _ _ _ h => h
            case hw_95 => rfl
            case hy_95 => ((intro w hSw; (try dsimp only at hSw); go_simp); all_goals (with_reducible rfl))
            try simp only [Act.put, List.setIfInBounds_toArray, List.set_cons_zero, List.set_cons_succ]
            refine wpAnyH_take (i := 23) (oi := ?oi_96) (v := ?v_96) ?hi_96 (by kernel_rfl) ?hf_96 ?hr_96 ?hQ_96 (Or.inl ⟨?hw_96, ?hy_96⟩) (by assumption) ?rest_96
            case hi_96 => ((simp only [List.getElem?_toArray, List.getElem?_cons_succ, List.getElem?_cons_zero]); rfl)
            case hf_96 => kernel_rfl
            case hr_96 => kernel_rfl
            case hQ_96 => exact fun _ _ _ h => h
            case hw_96 => rfl
            case hy_96 => ((intro w hSw; (try dsimp only at hSw); go_simp); all_goals (with_reducible rfl))
            try simp only [Act.put, List.setIfInBounds_toArray, List.set_cons_zero, List.set_cons_succ]
            refine wpAnyH_done (by kernel_rfl) ?_ _
            have hbel := hHeld
            clear hHeld
            go_wp2
            go_roundw
            case rel => exact ⟨k + 1, k, by omega, by push_cast; rfl, rfl, Lib.hid HN.out, belStep HBW.out hbel⟩
            case measure => simp [intOf] <;> omega
    · obtain rfl : k = T.length := by omega
      have hki : ¬ (T.length : Int) < (T.length : Int) := by omega
      have HBP2 := Lib.hid (by have h := HBP.out; rw [List.take_length] at h; exact h : BestP g T U bb)
      go_wp2
      go_ret
      exact ⟨BestR.mk HBP2.out, belStep hw hbel⟩
end Go.Proofs.Ytcgpmihjodolmaa
