
/- Stage 10: the reference: Look: contract. -/
import Derived.Test.YtcnjcldfbidkmaaDkF3
namespace Go.Proofs.Ytcnjcldfbidkmaa
open Go.RowKit Go.Sort
set_option linter.unusedVariables false
set_option linter.unusedSimpArgs false
theorem len_apply (L : List FileM) (o : MOp) : (applyF L o).length ≤ L.length + 1 := by
  unfold applyF moveF
  split
  · exact len_putF _ _ _
  · split
    · split
      · omega
      · split
        · omega
        · exact Nat.le_trans (len_delF _ _) (len_putF _ _ _)
    · split
      · exact Nat.le_trans (len_delF _ _) (Nat.le_succ _)
      · omega
theorem loc_trans {X Y : List Nat} {w : World} {v : Value} {K : List FileV} {N N2 : Nat} (h : ∃ Z, FIn Z w v K ∧ ∀ b ∈ Z, b ∈ Y ∨ N2 ≤ b) (hY : ∀ b ∈ Y, b ∈ X ∨ N ≤ b) (hN : N ≤ N2) : ∃ Z, FIn Z w v K ∧ ∀ b ∈ Z, b ∈ X ∨ N ≤ b := by
  obtain ⟨Z, h1, h2⟩ := h
  exact ⟨Z, h1, fun b hb => (h2 b hb).elim (hY b) (fun q => .inr (Nat.le_trans hN q))⟩
def OpOK (w : World) (o : OpV) : Prop := o.good w ∧ o.Z.length ≤ 1000 ∧ (o.kind = 1 ∨ o.kind = 2 ∨ o.kind = 3)
theorem OpOK.later {u w : World} {o : OpV} (h : OpOK u o) (hb : Below u.heap.size u w) : OpOK w o := ⟨h.1.later hb, h.2⟩
set_option maxRecDepth 100000 in
set_option maxHeartbeats 16000000 in
theorem fr_Look (a : Option Addr) (n c : Nat) (L : List FileV) (b : Option Addr) (m d : Nat) (T : List OpV) (X : List Nat) (w : World) (hL : FIn X w (.slice a n c) L) (hs : SortedF (L.map FileV.m)) (hn : L.length ≤ 400) (hm : T.length = m) (hT : Row w b m d 4 (T.flatMap OpV.cells)) (hg : ∀ o ∈ T, OpOK w o) (hm2 : m ≤ 100) :
    Calls Try.prog 36 #[.slice a n c, .slice b m d] w fun e w' => ∃ v : Value, e = .returned v ∧ ∃ K : List FileV, (∃ Y, FIn Y w' v K ∧ ∀ b ∈ Y, b ∈ X ∨ w.heap.size ≤ b) ∧ K.map FileV.m = (T.map OpV.m).foldl applyF (L.map FileV.m) ∧ Below w.heap.size w w' := by
  have hbel : Below w.heap.size w w := Below.refl _ _
  have hbd_b : m ≤ d ∧ d ≤ 9223372036854775807 := by obtain ⟨_, h1, h2, _⟩ := hT; unfold maxLen at h2; exact ⟨h1, h2⟩
  obtain ⟨hbd1_b, hbd2_b⟩ := hbd_b
  subst hm
  have HT := Lib.hid hT
  have HG := Lib.hid hg
  have HSO := Lib.hid hs
  have HL := Lib.hid (⟨X, hL, fun b hb => .inl hb⟩ : ∃ Y, FIn Y w (.slice a n c) L ∧ ∀ b ∈ Y, b ∈ X ∨ w.heap.size ≤ b)
  have hnn := hn
  clear hT hg hs hL hn
  go_enter Try.func36, Try.ntmps36
  go_wp2
  go_loopw [0, 5] (fun lv iv wr => ∃ (k : Nat) (K : List FileV), k ≤ T.length ∧ iv = .int .i64 k ∧ Hid (∃ Y, FIn Y wr lv K ∧ ∀ b ∈ Y, b ∈ X ∨ w.heap.size ≤ b) ∧ Hid (K.map FileV.m = ((T.take k).map OpV.m).foldl applyF (L.map FileV.m)) ∧ Hid (K.length ≤ L.length + k) ∧ Below w.heap.size w wr) (fun _ iv _ => T.length - (intOf iv).toNat)
  case atStart => exact ⟨0, L, Nat.zero_le _, rfl, HL, Lib.hid rfl, Lib.hid (Nat.le_refl _), hbel⟩
  case round =>
    clear HL hbel
    obtain ⟨k, K, hk, rfl, HF, HM, HNK, hbel⟩ := hrel
    by_cases hlt : k < T.length
    · have hd : decide ((k : Int) < (T.length : Int)) = true := decide_eq_true (by omega)
      have hki : (k : Int) < (T.length : Int) := by omega
      have hk0 : (0 : Int) ≤ (k : Int) := by omega
      obtain ⟨o, ho⟩ : ∃ o, T[k]? = some o := ⟨T[k], List.getElem?_eq_getElem hlt⟩
      obtain ⟨bc, oc, ec, _, hcc⟩ := (HT.out).elem OpV.cells_len (by omega) ho
      subst ec
      have c0 := keep (hcc 0 _ rfl)
      have c1 := keep (hcc 1 _ rfl)
      have c2 := keep (hcc 2 _ rfl)
      have c3 := keep (hcc 3 _ rfl)
      rw [Nat.add_zero] at c0
      have HGO := Lib.hid (HG.out o (List.mem_of_getElem? ho))
      have HN := Lib.hid (show ((T.take (k + 1)).map OpV.m).foldl applyF (L.map FileV.m) = applyF (((T.take k).map OpV.m).foldl applyF (L.map FileV.m)) o.m by rw [takeD_next ho, List.map_append, List.foldl_append]; rfl)
      clear ho hcc
      have hzb1 : o.Z.length ≤ o.bc := HGO.out.1.1.1.2.1
      have hzb2 : o.bc ≤ 9223372036854775807 := by have := HGO.out.1.1.1.2.2.1; unfold maxLen at this; omega
      obtain ⟨Y, ⟨fa, fc, rfl, hfr, hyr, hyz⟩, hyb⟩ := HF.out
      have hfg := fun f hf => (hyz f hf).1
      have HYB := Lib.hid hyb
      have HYR := Lib.hid hyr
      have HYZ := Lib.hid (fun f hf => (hyz f hf).2)
      clear hyr hyz hyb
      have CD := Lib.hid (fr_Do fa K.length fc K Y o wr rfl hfr hfg HYR.out HYZ.out (by rw [HM.out]; exact sorted_fold (fun L o h => sorted_applyF h o) _ HSO.out) (by have := HNK.out; omega) (HGO.out.later hbel).1 HGO.out.2.1 HGO.out.2.2)
      clear hfr hfg
      go_wp2_with (go_at_call 76; (with_reducible refine (CD.out).mono ?_); rintro e w6 ⟨v, rfl, KN, hf6, hm6, hb6⟩; have HF6 := Lib.hid (loc_trans hf6 HYB.out hbel.size); have HM6 := Lib.hid hm6; have hb9 := belStep hbel hb6; clear hf6 hm6 hb6)
      have HN6 := Lib.hid (show KN.length ≤ L.length + (k + 1) from by have h1 := len_apply (K.map FileV.m) (o.m); have h2 := congrArg List.length HM6.out; rw [List.length_map] at h1 h2; have h3 := HNK.out; omega)
      go_roundw
      case rel => exact ⟨k + 1, KN, by omega, by push_cast; rfl, HF6, Lib.hid (by rw [HN.out, ← HM.out]; exact HM6.out), HN6, hb9⟩
      case measure => simp [intOf] <;> omega
    · obtain rfl : k = T.length := by omega
      have hd : decide ((T.length : Int) < (T.length : Int)) = false := decide_eq_false (by omega)
      rw [List.take_length] at HM
      go_wp2
      go_ret
      exact ⟨_, rfl, K, HF.out, HM.out, hbel⟩
end Go.Proofs.Ytcnjcldfbidkmaa
