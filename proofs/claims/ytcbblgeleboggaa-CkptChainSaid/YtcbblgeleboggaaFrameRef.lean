
/- The reference's Put and Get of frames. -/
import Derived.Test.YtcbblgeleboggaaFrameGet
namespace Go.Proofs.Ytcbblgeleboggaa
open Go.RowKit
set_option linter.unusedVariables false
set_option linter.unusedSimpArgs false

set_option maxRecDepth 100000 in
set_option maxHeartbeats 2000000 in
theorem fref_Put (v : Nat) (a : Option Addr) (len cap : Nat) (l : List Int) (w : World) (hv : v < 4294967296) (hl : Ints .u8 w a len cap l) (hlen : len ≤ 900000) :
    Calls Try.prog 16 #[.int .i64 v, .slice a len cap] w fun e w' => ∃ a2 c2, e = .returned (.slice a2 (len + 16) c2) ∧ Ints .u8 w' a2 (len + 16) c2 (frameL v l) ∧ Below w.heap.size w w' := by
  have hb := hl.bounds
  obtain ⟨hln, hb1, hb2⟩ := hb
  have hm4 : Ints .u8 (w.alloc (.cells #[.int .u8 66, .int .u8 76, .int .u8 71, .int .u8 49] 5 (4, 5))) (some ⟨w.heap.size, 0, none⟩) 4 4 mark4 := lits w mark4 (4, 5) (by simp [mark4]) mark4_B
  have HM := Lib.hid hm4
  have HL := Lib.hid hl
  have HN := Lib.hid hln
  have hbel := (belAlloc (Below.refl _ _) _ : Below w.heap.size w (w.alloc (.cells #[.int .u8 66, .int .u8 76, .int .u8 71, .int .u8 49] 5 (4, 5))))
  have hcv := fun (v : World) (C : Array Value) (n c : Nat) => Lib.run_convert_bytes_const (P := Try.prog) v 29 5 C n c Try.underlying29 Try.underlying5
  have hhb := headL_B (v := v) (bytes_of hl)
  have HHB := Lib.hid hhb
  clear hl hm4 hln hhb
  go_enter Try.func16, Try.ntmps16
  have E1 := Lib.hid (show (mark4 ++ tailN v 4).length = 8 by rw [List.length_append, tailN_len]; rfl)
  have E2 := Lib.hid (show (mark4 ++ tailN v 4 ++ tailN len 4).length = 12 by rw [List.length_append, List.length_append, tailN_len, tailN_len]; rfl)
  go_wp2_with (first | (go_at_call 29; (with_reducible refine (fref_Word v _ hv).mono ?_); rintro e w1 ⟨g1, rfl, hi1, hb1⟩; replace hbel := belStep hbel hb1; replace HM := Lib.hid (HM.out.later hb1); have H1 := Lib.hid hi1; clear hb1 hi1) | (at_builtin; refine wpList_app_grow rfl _ _ 29 rfl 5 .u8 1 Try.underlying29 info_u8 _ 4 4 mark4 rfl HM.out _ 4 4 _ rfl H1.out (by omega) (by omega) (by unfold maxLen; omega) (by omega) ?_; intro v2 w2 ho2 hb2; have hs12 : w1.heap.size ≤ w2.heap.size := hb2.size; have hsz : w.heap.size ≤ w1.heap.size := hbel.size; replace hbel := belStep hbel hb2; have HO := Lib.hid ho2; clear ho2 hb2) | (go_at_call 29; (with_reducible refine (fref_Word len _ (by omega)).mono ?_); rintro e w3 ⟨g3, rfl, hi3, hb3⟩; replace hbel := belStep hbel hb3; replace HO := Lib.hid (HO.out.later hb3); have hs23 : w2.heap.size ≤ w3.heap.size := hb3.size; have H3 := Lib.hid hi3; clear hb3 hi3) | (at_builtin; refine wpList_app_ints rfl _ _ 29 rfl w1.heap.size 5 .u8 1 Try.underlying29 info_u8 _ _ rfl HO.out _ 4 4 _ rfl H3.out (by rw [E1.out]; simp only [maxLen]; omega) (by rw [E1.out]; omega) (by omega) ?_; intro v4 w4 ho4 hb4 hg4; have hs34 : w3.heap.size ≤ w4.heap.size := hg4.size; replace hbel := hbel.trans (hb4.mono hsz); have HO4 := Lib.hid ho4; clear ho4 hb4 hg4) | (at_builtin; refine wpList_app_ints rfl _ _ 29 rfl w1.heap.size 5 .u8 1 Try.underlying29 info_u8 _ _ rfl HO4.out _ len cap l rfl (HL.out.later hbel) ?c1 ?c2 ?c3 ?_))
  case c1 => rw [E2.out]; simp only [maxLen]; omega
  case c2 => rw [E2.out]; omega
  case c3 => omega
  intro v5 w5 ho5 hb5 hg5
  replace hbel := hbel.trans (hb5.mono hsz)
  have e3 : mark4 ++ tailN v 4 ++ tailN len 4 ++ l = headL v l := by unfold headL; rw [HN.out]; simp only [List.append_assoc]
  have ho6 : OwnI w5 w1.heap.size 5 .u8 v5 (headL v l) := by rw [← e3]; simpa only [List.append_assoc] using ho5
  obtain ⟨a5, c5, rfl, hi5⟩ := ints_of_own ho6 (fun m hm => wf8 m (HHB.out m hm))
  rw [headL_len, HN.out] at hi5 ⊢
  have CP := Lib.hid (refput_ints a5 (len + 12) c5 (headL v l) w5 hi5 (by omega))
  clear ho5 ho6 hb5 hg5 hi5 e3
  go_wp2_with (go_at_call 30; (with_reducible refine CP.out.mono ?_); rintro e w6 ⟨a6, c6, rfl, hi6, hb6⟩)
  go_ret
  exact ⟨a6, c6, rfl, hi6, belStep hbel hb6⟩

/-- What the reference reads: the version's bytes, and the body. -/
def rV (b : List Int) : Nat := numW ((b.drop 4).take 4)
def rB (b : List Int) : List Int := (b.drop 12).take (b.length - 16)
theorem r_frame {b : List Int} {v : Nat} {x : List Int} (h : IsFrame b v x) : rV b = v ∧ rB b = x ∧ frameL (rV b) (rB b) = b := by
  obtain ⟨e, hv, hx⟩ := h
  obtain ⟨_, f1, f2, _⟩ := frame_body hv hx
  have e4 : rV b = v := by
    unfold rV; rw [e]; unfold frameL withSum
    rw [List.drop_append_of_le_length (by rw [headL_len]; omega), List.take_append_of_le_length (by rw [List.length_drop, headL_len]; omega), f1]
  have e12 : rB b = x := by
    unfold rB; rw [e]; rw [frameL_len]; unfold frameL withSum
    rw [List.drop_append_of_le_length (by rw [headL_len]; omega), f2, show x.length + 16 - 16 = x.length by omega, List.take_left]
  exact ⟨e4, e12, by rw [e4, e12]; exact e.symm⟩
theorem r_none {b : List Int} (hb : Bytes b) (h : NoFrame b) (hl : b.length ≤ 1000000) : (frameL (rV b) (rB b) == b) = false := by
  rw [beq_eq_false_iff_ne]
  intro e
  refine h (rV b) (rB b) ⟨e.symm, ?_, ?_⟩
  · have := numW_lt ((hb.drop 4).take 4)
    have l1 : ((b.drop 4).take 4).length ≤ 4 := by simp; omega
    have l2 : 256 ^ ((b.drop 4).take 4).length ≤ 256 ^ 4 := Nat.pow_le_pow_right (by omega) l1
    unfold rV; omega
  · unfold rB; simp; omega
theorem numW_step (l : List Int) (i : Nat) (h : i < l.length) : numW (l.drop i) = (el l i).toNat + 256 * numW (l.drop (i + 1)) := by
  rw [List.drop_eq_getElem_cons h]
  show (l[i]).toNat + 256 * _ = _
  unfold el
  rw [List.getD_eq_getElem?_getD, List.getElem?_eq_getElem h]; rfl

def RG (l : List Int) (k : Nat) (ok : Bool) (e : Ending) (w' : World) : Prop := (ok = true ∧ ∃ a2 c2, e = .returned (.tuple #[.int .i64 (rV l), .slice a2 k c2, .bool true]) ∧ Ints .u8 w' a2 k c2 (rB l)) ∨ (ok = false ∧ e = .returned (.tuple #[.int .i64 0, .slice none 0 0, .bool false]))
set_option maxRecDepth 100000 in
set_option maxHeartbeats 4000000 in
theorem fref_Get (a : Option Addr) (k cap : Nat) (l : List Int) (w : World) (hl : Ints .u8 w a (k + 16) cap l) (hlen : k ≤ 900000) (ok : Bool) (hok : (frameL (rV l) (rB l) == l) = ok) :
    Calls Try.prog 23 #[.slice a (k + 16) cap] w fun e w' => RG l k ok e w' ∧ Below w.heap.size w w' := by
  have hbd := hl.bounds
  obtain ⟨hln, hb1, hb2⟩ := hbd
  have hby := bytes_of hl
  obtain ⟨b, off, rfl, hlt0, hcell⟩ := hl.opened (by omega)
  have h4 : ((l.drop 4).take 4).length = 4 := by simp; omega
  have hels : ∀ j, j < 4 → el ((l.drop 4).take 4) j = el l (j + 4) := fun j hj => by unfold el; simp [List.getElem?_take, List.getElem?_drop, hj, Nat.add_comm]
  have hby4 : Bytes ((l.drop 4).take 4) := (hby.drop 4).take 4
  have HL := Lib.hid hl
  have HN := Lib.hid hln
  have HC := Lib.hid hcell
  have H4 := Lib.hid h4
  have HE := Lib.hid hels
  have HBY := Lib.hid hby
  obtain ⟨q, eq⟩ : ∃ q, (l.drop 4).take 4 = q := ⟨_, rfl⟩
  rw [eq] at H4 HE hby4
  have EQ := Lib.hid eq
  have HOK := Lib.hid hok
  clear hl hln hcell h4 hels hby eq hok
  go_enter Try.func23, Try.ntmps23
  go_wp2
  go_loopw [5, 6] (fun x i wr => ∃ m : Nat, m ≤ 4 ∧ i = .int .i64 ((m : Int) + 3) ∧ x = .int .i64 (numW (q.drop m)) ∧ w = wr) (fun _ i _ => (intOf i).toNat)
  case atStart => exact ⟨4, by omega, rfl, by rw [List.drop_of_length_le (by rw [H4.out]; omega)]; rfl, rfl⟩
  case round =>
    obtain ⟨m, hm, rfl, rfl, rfl⟩ := hrel
    by_cases h0 : m = 0
    · subst h0
      have e1 : ((0 : Nat) : Int) + 3 = 3 := rfl
      rw [e1, List.drop_zero]
      clear e1
      have hne1 : ¬ cap = 12 := by omega
      have hne2 : ¬ (cap : Int) = 12 := by omega
      go_upto_region 9 with (fail)
      rw [show k + 16 - 4 - 12 = k by omega]
      have hbody : Ints .u8 w (some ⟨b, off + 12, none⟩) k (cap - 12) (rB l) := by
        have e5 : rB l = (l.drop 12).take k := by unfold rB; rw [HN.out]; congr 1
        rw [e5]
        by_cases h0 : k = 0
        · subst h0
          rw [List.take_zero]
          exact ⟨⟨rfl, by omega, by unfold maxLen; omega, fun q => (by cases q), .inl rfl⟩, fun m hm => by cases hm⟩
        · have h5 := (HL.out.drop (n := 12) (by omega)).take (n := k) (by omega) (by simp)
          exact h5
      have eV : numW q = rV l := by unfold rV; rw [EQ.out]
      have hv : numW q < 4294967296 := by have := numW_lt hby4; rw [H4.out] at this; omega
      rw [eV] at hv ⊢
      obtain ⟨v, ev⟩ : ∃ v, rV l = v := ⟨_, rfl⟩
      rw [ev] at hv ⊢
      have EV := Lib.hid ev
      have HB := Lib.hid hbody
      have CP := Lib.hid (fun u (hu : Below w.heap.size w u) => fref_Put v _ k (cap - 12) (rB l) u hv (HB.out.later hu) hlen)
      have KS := Lib.hid (fun u (hu : Below w.heap.size w u) => conv_str (HL.out.later hu))
      have HFB := Lib.hid (frameL_B (v := v) (bytes_of hbody))
      rw [ev] at HOK
      clear eV ev hbody hby4 EQ H4 HE
      have hw : Below w.heap.size w w := Below.refl _ _
      have hgt : decide ((1048576 : Int) < (k : Int)) = false := by rw [decide_eq_false_iff_not]; omega
      refine wp_region_held_drew (S := (fun w' => (convert 29 9 (.slice (some ⟨b, off, none⟩) (k + 16) cap)).run Try.prog w' = .ok (.string (strOfNums l)) w')) (by kernel_rfl) (by exact KS.out _ (by repeat (first | assumption | exact Below.refl _ _ | refine belAlloc ?_ _ | refine belDrew ?_ | refine belStep ?_ (by assumption)))) (fun hHeld => ?_)
      refine wpAnyH_take (i := 0) (oi := ?oi_1) (v := ?v_1) ?hi_1 (by kernel_rfl) ?hf_1 ?hr_1 ?hQ_1 (Or.inl ⟨?hw_1, ?hy_1⟩) (by assumption) ?rest_1
      case hi_1 => ((simp only [List.getElem?_toArray, List.getElem?_cons_succ, List.getElem?_cons_zero]); rfl)
      case hf_1 => kernel_rfl
      case hr_1 => kernel_rfl
      case hQ_1 => exact fun _ _ _ h => h
      case hw_1 => rfl
      case hy_1 => ((intro w hSw; (try dsimp only at hSw); go_simp); all_goals (with_reducible rfl))
      try simp only [Act.put, List.setIfInBounds_toArray, List.set_cons_zero, List.set_cons_succ]
      refine wpAnyH_take (i := 1) (oi := ?oi_2) (v := ?v_2) ?hi_2 (by kernel_rfl) ?hf_2 ?hr_2 ?hQ_2 (Or.inl ⟨?hw_2, ?hy_2⟩) (by assumption) ?rest_2
      case hi_2 => ((simp only [List.getElem?_toArray, List.getElem?_cons_succ, List.getElem?_cons_zero]); rfl)
      case hf_2 => kernel_rfl
      case hr_2 => kernel_rfl
      case hQ_2 => exact fun _ _ _ h => h
      case hw_2 => rfl
      case hy_2 => ((intro w hSw; (try dsimp only at hSw); go_simp); all_goals (with_reducible rfl))
      try simp only [Act.put, List.setIfInBounds_toArray, List.set_cons_zero, List.set_cons_succ]
      refine wpAnyH_take (i := 2) (oi := ?oi_3) (v := ?v_3) ?hi_3 (by kernel_rfl) ?hf_3 ?hr_3 ?hQ_3 (Or.inl ⟨?hw_3, ?hy_3⟩) (by assumption) ?rest_3
      case hi_3 => ((simp only [List.getElem?_toArray, List.getElem?_cons_succ, List.getElem?_cons_zero]); rfl)
      case hf_3 => kernel_rfl
      case hr_3 => kernel_rfl
      case hQ_3 => exact fun _ _ _ h => h
      case hw_3 => rfl
      case hy_3 => ((intro w hSw; (try dsimp only at hSw); go_simp); all_goals (with_reducible rfl))
      try simp only [Act.put, List.setIfInBounds_toArray, List.set_cons_zero, List.set_cons_succ]
      refine wpAnyH_take (i := 3) (oi := ?oi_4) (v := ?v_4) ?hi_4 (by kernel_rfl) ?hf_4 ?hr_4 ?hQ_4 (Or.inl ⟨?hw_4, ?hy_4⟩) (by assumption) ?rest_4
      case hi_4 => ((simp only [List.getElem?_toArray, List.getElem?_cons_succ, List.getElem?_cons_zero]); rfl)
      case hf_4 => kernel_rfl
      case hr_4 => kernel_rfl
      case hQ_4 => exact fun _ _ _ h => h
      case hw_4 => rfl
      case hy_4 => ((intro w hSw; (try dsimp only at hSw); go_simp); all_goals (with_reducible rfl))
      try simp only [Act.put, List.setIfInBounds_toArray, List.set_cons_zero, List.set_cons_succ]
      refine wpAnyH_take (i := 4) (oi := ?oi_5) (v := ?v_5) ?hi_5 (by kernel_rfl) ?hf_5 ?hr_5 ?hQ_5 (Or.inl ⟨?hw_5, ?hy_5⟩) (by assumption) ?rest_5
      case hi_5 => ((simp only [List.getElem?_toArray, List.getElem?_cons_succ, List.getElem?_cons_zero]); rfl)
      case hf_5 => kernel_rfl
      case hr_5 => kernel_rfl
      case hQ_5 => exact fun _ _ _ h => h
      case hw_5 => rfl
      case hy_5 => ((intro w hSw; (try dsimp only at hSw); go_simp); all_goals (with_reducible rfl))
      try simp only [Act.put, List.setIfInBounds_toArray, List.set_cons_zero, List.set_cons_succ]
      refine wpAnyH_take (i := 5) (oi := ?oi_6) (v := ?v_6) ?hi_6 (by kernel_rfl) ?hf_6 ?hr_6 ?hQ_6 (Or.inl ⟨?hw_6, ?hy_6⟩) (by assumption) ?rest_6
      case hi_6 => ((simp only [List.getElem?_toArray, List.getElem?_cons_succ, List.getElem?_cons_zero]); rfl)
      case hf_6 => kernel_rfl
      case hr_6 => kernel_rfl
      case hQ_6 => exact fun _ _ _ h => h
      case hw_6 => rfl
      case hy_6 => ((intro w hSw; (try dsimp only at hSw); go_simp); all_goals (with_reducible rfl))
      try simp only [Act.put, List.setIfInBounds_toArray, List.set_cons_zero, List.set_cons_succ]
      refine wpAnyH_take (i := 8) (oi := ?oi_7) (v := ?v_7) ?hi_7 (by kernel_rfl) ?hf_7 ?hr_7 ?hQ_7 (Or.inl ⟨?hw_7, ?hy_7⟩) (by assumption) ?rest_7
      case hi_7 => ((simp only [List.getElem?_toArray, List.getElem?_cons_succ, List.getElem?_cons_zero]); rfl)
      case hf_7 => kernel_rfl
      case hr_7 => kernel_rfl
      case hQ_7 => exact fun _ _ _ h => h
      case hw_7 => rfl
      case hy_7 => ((intro w hSw; (try dsimp only at hSw); go_simp); all_goals (with_reducible rfl))
      try simp only [Act.put, List.setIfInBounds_toArray, List.set_cons_zero, List.set_cons_succ]
      refine wpAnyH_take (i := 9) (oi := ?oi_8) (v := ?v_8) ?hi_8 (by kernel_rfl) ?hf_8 ?hr_8 ?hQ_8 (Or.inl ⟨?hw_8, ?hy_8⟩) (by assumption) ?rest_8
      case hi_8 => ((simp only [List.getElem?_toArray, List.getElem?_cons_succ, List.getElem?_cons_zero]); rfl)
      case hf_8 => kernel_rfl
      case hr_8 => kernel_rfl
      case hQ_8 => exact fun _ _ _ h => h
      case hw_8 => rfl
      case hy_8 => ((intro w hSw; (try dsimp only at hSw); go_simp); all_goals (with_reducible rfl))
      try simp only [Act.put, List.setIfInBounds_toArray, List.set_cons_zero, List.set_cons_succ]
      refine wpAnyH_ready (rs := [6]) (by kernel_rfl) (by simp) ?_
      refine AllReadyH.cons (o := ?o1_9) ?hi_9 (fun K hK => ?rest_9) AllReadyH.nil
      case hi_9 => ((simp only [List.getElem?_toArray, List.getElem?_cons_succ, List.getElem?_cons_zero]); rfl)
      go_simp
      ((go_at_call 16; (with_reducible refine (CP.out _ (by repeat (first | assumption | exact Below.refl _ _ | refine belDrew ?_))).mono ?_); rintro e w6 ⟨a6, c6, rfl, hi6, hb6⟩; have ct6 := conv_str hi6))
      try go_simp
      refine hK.out _ _ (by exact KS.out _ (by repeat (first | assumption | exact Below.refl _ _ | refine belAlloc ?_ _ | refine belDrew ?_ | refine belStep ?_ (by assumption)))) (fun hHeld => ?_)
      clear hK K
      try simp only [Act.put, List.setIfInBounds_toArray, List.set_cons_zero, List.set_cons_succ]
      refine wpAnyH_ready (rs := [7]) (by kernel_rfl) (by simp) ?_
      refine AllReadyH.cons (o := ?o1_10) ?hi_10 (fun K hK => ?rest_10) AllReadyH.nil
      case hi_10 => ((simp only [List.getElem?_toArray, List.getElem?_cons_succ, List.getElem?_cons_zero]); rfl)
      go_simp
      refine hK.out _ _ (by exact KS.out _ (by repeat (first | assumption | exact Below.refl _ _ | refine belAlloc ?_ _ | refine belDrew ?_ | refine belStep ?_ (by assumption)))) (fun hHeld => ?_)
      clear hK K
      try simp only [Act.put, List.setIfInBounds_toArray, List.set_cons_zero, List.set_cons_succ]
      refine wpAnyH_ready (rs := [10]) (by kernel_rfl) (by simp) ?_
      refine AllReadyH.cons (o := ?o1_11) ?hi_11 (fun K hK => ?rest_11) AllReadyH.nil
      case hi_11 => ((simp only [List.getElem?_toArray, List.getElem?_cons_succ, List.getElem?_cons_zero]); rfl)
      go_simp
      refine hK.out _ _ (by exact KS.out _ (by repeat (first | assumption | exact Below.refl _ _ | refine belAlloc ?_ _ | refine belDrew ?_ | refine belStep ?_ (by assumption)))) (fun hHeld => ?_)
      clear hK K
      try simp only [Act.put, List.setIfInBounds_toArray, List.set_cons_zero, List.set_cons_succ]
      refine wpAnyH_ready (rs := [11]) (by kernel_rfl) (by simp) ?_
      refine AllReadyH.cons (o := ?o1_12) ?hi_12 (fun K hK => ?rest_12) AllReadyH.nil
      case hi_12 => ((simp only [List.getElem?_toArray, List.getElem?_cons_succ, List.getElem?_cons_zero]); rfl)
      go_simp
      refine hK.out _ _ (by exact KS.out _ (by repeat (first | assumption | exact Below.refl _ _ | refine belAlloc ?_ _ | refine belDrew ?_ | refine belStep ?_ (by assumption)))) (fun hHeld => ?_)
      clear hK K
      try simp only [Act.put, List.setIfInBounds_toArray, List.set_cons_zero, List.set_cons_succ]
      refine wpAnyH_done (by kernel_rfl) ?_ _
      have hst := str_inj HFB.out HBY.out
      rw [HOK.out] at hst
      rw [hst]
      replace hbel : Below w.heap.size w w6 := belStep (belDrew hw) hb6
      clear hst ct6 hi6
      cases ok with
      | true =>
        go_wp2
        go_ret3
        obtain rfl := EV.out
        exact ⟨.inl ⟨rfl, _, _, rfl, HB.out.later hbel⟩, hbel⟩
      | false =>
        go_wp2
        go_ret3
        exact ⟨.inr ⟨rfl, rfl⟩, hbel⟩
    · obtain ⟨j, rfl⟩ : ∃ j, m = j + 1 := ⟨m - 1, by omega⟩
      have hst := numW_step q j (by rw [H4.out]; omega)
      have hn := numW_lt (hby4.drop (j + 1))
      rw [List.length_drop, H4.out] at hn
      have hp : 256 ^ (4 - (j + 1)) ≤ 256 ^ 3 := Nat.pow_le_pow_right (by omega) (by omega)
      have x0 := HC.out (j + 4) (by omega)
      have hc := hby4 _ (el_mem (l := q) (i := j) (by rw [H4.out]; omega))
      rw [← HE.out j (by omega)] at x0
      obtain ⟨c, ec⟩ : ∃ c : Nat, el q j = c := ⟨(el q j).toNat, by omega⟩
      rw [ec] at x0 hst hc
      obtain ⟨n, en⟩ : ∃ n, numW (q.drop (j + 1)) = n := ⟨_, rfl⟩
      rw [en] at hn hst ⊢
      have HS := Lib.hid hst
      rw [show ((j + 1 : Nat) : Int) + 3 = (((j + 4 : Nat)) : Int) by omega]
      clear hst ec en
      go_wp2
      go_roundw
      case rel => exact ⟨j, by omega, by congr 1; omega, by rw [HS.out]; congr 1; simp; omega, by first | rfl | trivial⟩
      case measure => simp [intOf] <;> omega

theorem fref_Get_short (a : Option Addr) (len cap : Nat) (l : List Int) (w : World) (hl : Ints .u8 w a len cap l) (h16 : len < 16) :
    Calls Try.prog 23 #[.slice a len cap] w fun e w' => e = .returned (.tuple #[.int .i64 0, .slice none 0 0, .bool false]) ∧ w = w' := by
  have hb := hl.bounds.2
  clear hl
  go_enter Try.func23, Try.ntmps23
  go_wp2
  go_ret3
  exact ⟨rfl, rfl⟩
/-- The reference's Get, in the words of frames. -/
theorem fref_Get_ok (a : Option Addr) (k cap : Nat) (l : List Int) (w : World) (hl : Ints .u8 w a (k + 16) cap l) (hlen : k ≤ 900000) (v : Nat) (x : List Int) (hf : IsFrame l v x) :
    Calls Try.prog 23 #[.slice a (k + 16) cap] w fun e w' => ∃ a2 c2, e = .returned (.tuple #[.int .i64 v, .slice a2 k c2, .bool true]) ∧ Ints .u8 w' a2 k c2 x ∧ Below w.heap.size w w' := by
  obtain ⟨h1, h2, h3⟩ := r_frame hf
  refine (fref_Get a k cap l w hl hlen true (by rw [h3]; simp)).mono ?_
  rintro e w' ⟨⟨_, a2, c2, rfl, hi⟩ | ⟨h, _⟩, hb⟩
  · rw [h2] at hi
    exact ⟨a2, c2, by rw [h1], hi, hb⟩
  · cases h
theorem fref_Get_no (a : Option Addr) (len cap : Nat) (l : List Int) (w : World) (hl : Ints .u8 w a len cap l) (hlen : len ≤ 900000) (hf : NoFrame l) :
    Calls Try.prog 23 #[.slice a len cap] w fun e w' => e = .returned (.tuple #[.int .i64 0, .slice none 0 0, .bool false]) ∧ Below w.heap.size w w' := by
  by_cases h16 : len < 16
  · refine (fref_Get_short a len cap l w hl h16).mono ?_
    rintro e w' ⟨rfl, rfl⟩
    exact ⟨rfl, Below.refl _ _⟩
  · obtain ⟨k, rfl⟩ : ∃ k, len = k + 16 := ⟨len - 16, by omega⟩
    refine (fref_Get a k cap l w hl (by omega) false (r_none (bytes_of hl) hf (by have := hl.bounds; omega))).mono ?_
    rintro e w' ⟨⟨h, _⟩ | ⟨_, rfl⟩, hb⟩
    · cases h
    · exact ⟨rfl, hb⟩
end Go.Proofs.Ytcbblgeleboggaa
