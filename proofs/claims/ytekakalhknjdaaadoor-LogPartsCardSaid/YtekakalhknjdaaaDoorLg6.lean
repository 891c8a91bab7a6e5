
/- Stage 27: the reader: text, number, signal, kind: contracts. -/
import Derived.Test.YtekakalhknjdaaaDoorLg5
import Derived.Test.YtekakalhknjdaaaDoorThrA
namespace Go.Proofs.YtekakalhknjdaaaDoor
open Go.RowKit
set_option linter.unusedVariables false
set_option linter.unusedSimpArgs false
/-- A reader in memory: the pieces of a line, k of them taken. -/
def RdAt (u : World) (B g : Nat) (L : List (List UInt8)) (k : Nat) : Prop := Blk u B [.slice (some ⟨g, min k (L.length - 1), none⟩) (L.length - k) (L.length - k)] 63 ∧ (∀ j x, L[j]? = some x → u.cell? ⟨g, j, none⟩ = some (.string (bA x))) ∧ g ≠ B ∧ g < u.heap.size
theorem RdAt.later {u v : World} {B g k : Nat} {L : List (List UInt8)} (h : RdAt u B g L k) (hb : Below u.heap.size u v) : RdAt v B g L k :=
  ⟨h.1.later hb, fun j x hj => cell_later hb (h.2.1 j x hj), h.2.2.1, Nat.lt_of_lt_of_le h.2.2.2 hb.size⟩
theorem belLow6 {base : Nat} {w u : World} (h : Below base w u) (a : Addr) (x : Value) (ha : base ≤ a.block) : Below base w (u.setCell a x) := h.setCell ha x
theorem getD_none6 {L : List (List UInt8)} {k : Nat} (h : L.length ≤ k) : L.getD k [] = [] := by rw [List.getD_eq_getElem?_getD, List.getElem?_eq_none h]; rfl
theorem getD_some6 {L : List (List UInt8)} {k : Nat} (h : k < L.length) : L[k]? = some (L.getD k []) := by rw [List.getD_eq_getElem?_getD, List.getElem?_eq_getElem h]; rfl
/-- What alone is other: a block of old, and what is new. -/
def Sole (B : Nat) (w w' : World) : Prop := Below B w w' ∧ ∀ q, q < w.heap.size → q ≠ B → w'.heap[q]? = w.heap[q]?
theorem Sole.bel {B base : Nat} {w w' : World} (h : Sole B w w') (hb : base ≤ B) : Below base w w' := h.1.mono hb
theorem Sole.refl (B : Nat) (w : World) : Sole B w w := ⟨Below.refl _ _, fun _ _ _ => rfl⟩
theorem Sole.set (B : Nat) (w : World) (x : Value) : Sole B w (w.setCell ⟨B, 0, none⟩ x) := ⟨belLow6 (Below.refl _ _) _ _ (Nat.le_refl _), fun q _ hn => Below.heap_setCell _ _ _ _ (show q ≠ (⟨B, 0, none⟩ : Addr).block from hn)⟩
theorem Sole.trans {B : Nat} {u v w : World} (h1 : Sole B u v) (h2 : Sole B v w) : Sole B u w := ⟨h1.1.trans h2.1, fun q hq hn => (h2.2 q (Nat.lt_of_lt_of_le hq h1.1.size) hn).trans (h1.2 q hq hn)⟩
theorem Sole.of {B : Nat} {u v : World} (hB : B < u.heap.size) (h : Below u.heap.size u v) : Sole B u v := ⟨h.mono (Nat.le_of_lt hB), fun q hq _ => h.block q hq⟩
theorem Sole.blk {B q : Nat} {w w' : World} {C : List Value} {T : TypeId} (ho : Sole B w w') (h : Blk w q C T) (hn : q ≠ B) : Blk w' q C T := (ho.2 q h.lt hn).trans h
theorem RdAt.other {u : World} {B g k q j : Nat} {L : List (List UInt8)} (h : RdAt u B g L k) (h1 : q ≠ B) (h2 : q ≠ g) (x : Value) : RdAt (u.setCell ⟨q, j, none⟩ x) B g L k := by
  obtain ⟨a, b, c, d⟩ := h
  refine ⟨?_, fun j x hj => ?_, c, by rw [World.size_setCell]; exact d⟩
  · unfold Blk at *
    rw [Below.heap_setCell _ _ _ _ (show B ≠ (⟨q, _, none⟩ : Addr).block from fun e => h1 e.symm)]; exact a
  · rw [World.cell?_setCell_far _ _ _ _ (fun e => h2 e)]
    exact b j x hj
theorem RdAt.next {u : World} {B g k : Nat} {L : List (List UInt8)} (h : RdAt u B g L k) (hk : k + 1 < L.length) : RdAt (u.setCell ⟨B, 0, none⟩ (.slice (some ⟨g, k + 1, none⟩) (L.length - (k + 1)) (L.length - (k + 1)))) B g L (k + 1) := by
  obtain ⟨h1, h2, h3, h4⟩ := h
  refine ⟨?_, fun j x hj => ?_, h3, by rw [World.size_setCell]; exact h4⟩
  · have e : min (k + 1) (L.length - 1) = k + 1 := by omega
    rw [e]
    exact h1.set 0 _
  · rw [World.cell?_setCell_far _ _ _ _ (fun e => h3 e.symm)]
    exact h2 j x hj
theorem RdAt.last {u : World} {B g k : Nat} {L : List (List UInt8)} (h : RdAt u B g L k) (hk : k + 1 = L.length) : RdAt (u.setCell ⟨B, 0, none⟩ (.slice (some ⟨g, k, none⟩) 0 0)) B g L (k + 1) := by
  obtain ⟨h1, h2, h3, h4⟩ := h
  refine ⟨?_, fun j x hj => ?_, h3, by rw [World.size_setCell]; exact h4⟩
  · have e : min (k + 1) (L.length - 1) = k := by omega
    rw [e, show L.length - (k + 1) = 0 by omega]
    exact h1.set 0 _
  · rw [World.cell?_setCell_far _ _ _ _ (fun e => h3 e.symm)]
    exact h2 j x hj
theorem RdAt.past {u : World} {B g k : Nat} {L : List (List UInt8)} (h : RdAt u B g L k) (hk : L.length ≤ k) : RdAt u B g L (k + 1) := by
  obtain ⟨h1, h2⟩ := h
  refine ⟨?_, h2⟩
  rw [show min (k + 1) (L.length - 1) = min k (L.length - 1) by omega, show L.length - (k + 1) = L.length - k by omega]
  exact h1
theorem belFrom {base : Nat} {w u v : World} (h : Below base w u) (h2 : Below u.heap.size u v) (hs : base ≤ w.heap.size) : Below base w v := h.trans (h2.mono (Nat.le_trans hs h.size))
theorem numG_some {l : List UInt8} {v : Int} (h : Lib.atoiAll l = .ok v) : numG l = v := by unfold numG; rw [h]
theorem numG_no {l : List UInt8} (h : ∀ v, Lib.atoiAll l ≠ .ok v) : numG l = -1 := by
  unfold numG
  rcases q : Lib.atoiAll l with v | _ | _
  · exact absurd q (h v)
  · rfl
  · rfl
theorem bA_toL (l : List UInt8) : (bA l).toList = l := by rw [sl, bA_data]
theorem idx_is (w : Nat → List UInt8) (l : List UInt8) : ∀ k, Lib.idxOfS ((List.range k).map (fun j => bA (w j))) (bA l) = idxE w l k := by
  have hinj : ∀ a b : List UInt8, bA a = bA b → a = b := fun a b h => by have := congrArg (fun s : ByteArray => s.data.toList) h; simpa [bA_data] using this
  intro k
  have key : ∀ k, (idxE w l k = -1 ∧ ∀ j, j < k → w j ≠ l) ∨ (∃ n, n < k ∧ idxE w l k = (n : Int) ∧ w n = l ∧ ∀ j, j < n → w j ≠ l) := by
    intro k
    induction k with
    | zero => exact .inl ⟨rfl, fun j hj => absurd hj (by omega)⟩
    | succ k ih =>
      rcases ih with ⟨h1, h2⟩ | ⟨n, hn, h1, h2, h3⟩
      · by_cases hw : w k = l
        · exact .inr ⟨k, by omega, by unfold idxE; rw [if_pos h1, if_pos hw], hw, h2⟩
        · refine .inl ⟨by unfold idxE; rw [if_pos h1, if_neg hw], fun j hj => ?_⟩
          rcases Nat.lt_or_ge j k with h | h
          · exact h2 j h
          · have : j = k := by omega
            rw [this]; exact hw
      · exact .inr ⟨n, by omega, by unfold idxE; rw [if_neg (by omega), h1], h2, h3⟩
  have hg : ∀ j, j < k → ((List.range k).map (fun j => bA (w j))).getD j ByteArray.empty = bA (w j) := by
    intro j hj
    rw [List.getD_eq_getElem?_getD, List.getElem?_map, List.getElem?_range hj]; rfl
  have ht : ((List.range k).map (fun j => bA (w j))).take k = (List.range k).map (fun j => bA (w j)) := List.take_of_length_le (by simp)
  rw [← ht]
  rcases key k with ⟨h1, h2⟩ | ⟨n, hn, h1, h2, h3⟩
  · rw [h1]
    refine Lib.idxOfS_miss _ k _ (fun j hj => ?_)
    rw [hg j hj]
    exact fun e => h2 j hj (hinj _ _ e)
  · rw [h1]
    refine Lib.idxOfS_hit _ k n _ hn (by simp) ?_ (fun j hj => ?_)
    · rw [hg n hn, h2]
    · rw [hg j (by omega)]
      exact fun e => h3 j hj (hinj _ _ e)
set_option maxRecDepth 100000 in
set_option maxHeartbeats 16000000 in
theorem lg_text (B base g k : Nat) (L : List (List UInt8)) (w : World) (hR : RdAt w B g L k) (hb : base ≤ B) (hL : L.length ≤ maxLen) :
    Calls Tryd.prog 42 #[.pointer (some ⟨B, 0, none⟩)] w fun e w' => e = .returned (.string (bA (L.getD k []))) ∧ RdAt w' B g L (k + 1) ∧ Sole B w w' := by
  have HR := Lib.hid hR
  obtain ⟨hB, hC, hg, hgl⟩ := hR
  unfold maxLen at hL
  by_cases hk : L.length ≤ k
  · have HN := Lib.hid (getD_none6 hk)
    have hz : L.length - k = 0 := by omega
    rw [hz] at hB
    have b0 := hB.cell (j := 0) rfl
    have bf := hB.frozen
    clear hB hC hg hgl
    go_enter Tryd.func42, Tryd.ntmps42
    go_wp2
    go_ret
    exact ⟨by rw [HN.out] <;> rfl, HR.out.past hk, Sole.refl _ _⟩
  · have hk2 : k < L.length := by omega
    have HX := Lib.hid (hC k _ (getD_some6 hk2))
    obtain ⟨x, hx⟩ : ∃ x, bA (L.getD k []) = x := ⟨_, rfl⟩
    rw [hx] at HX ⊢
    clear hx
    have hmk : min k (L.length - 1) = k := by omega
    rw [hmk] at hB
    by_cases h1 : k + 1 = L.length
    · have hz : L.length - k = 1 := by omega
      rw [hz] at hB
      have b0 := hB.cell (j := 0) rfl
      have bf := hB.frozen
      have x0 := HX.out
      have HN := Lib.hid (HR.out.last h1)
      clear hB hC hg hgl
      go_enter Tryd.func42, Tryd.ntmps42
      go_wp2
      go_ret
      exact ⟨rfl, HN.out, Sole.set _ _ _⟩
    · have h1a : k + 1 < L.length := by omega
      have hz : ¬ L.length - k = 1 := by omega
      have t1 : (((L.length - k : Nat) : Int) == 0) = false := by rw [beq_eq_false_iff_ne]; omega
      have t2 : (0 : Int) < ((L.length - k : Nat) : Int) := by omega
      have t3 : (1 : Int) ≤ ((L.length - k : Nat) : Int) := by omega
      have hs1 : ((L.length - k : Nat) : Int) - 1 = ((L.length - (k + 1) : Nat) : Int) := by omega
      have b0 := hB.cell (j := 0) rfl
      have bf := hB.frozen
      have x0 := HX.out
      have HN := Lib.hid (HR.out.next h1a)
      clear hB hC hg hgl
      go_enter Tryd.func42, Tryd.ntmps42
      go_wp2
      go_ret
      exact ⟨rfl, HN.out, Sole.set _ _ _⟩
set_option maxRecDepth 100000 in
set_option maxHeartbeats 16000000 in
theorem lg_number (B base g k : Nat) (L : List (List UInt8)) (w : World) (hR : RdAt w B g L k) (hb : base ≤ B) (hL : L.length ≤ maxLen) (he : ∀ u, Below base w u → Env u) (hs : ∀ j, (L.getD j []).length ≤ 1000000) :
    Calls Tryd.prog 29 #[.pointer (some ⟨B, 0, none⟩)] w fun e w' => e = .returned (.int .i64 (numG (L.getD k []))) ∧ RdAt w' B g L (k + 1) ∧ Sole B w w' := by
  have HL := Lib.hid hL
  have HS := Lib.hid hs
  have hz1 := hR.1.lt
  have CT := Lib.hid (lg_text B base g k L w hR hb HL.out)
  have HE := Lib.hid he
  clear hR hL hs he
  obtain ⟨t, htt⟩ : ∃ t, bA (L.getD k []) = t := ⟨_, rfl⟩
  have htl : t.toList = L.getD k [] := by rw [← htt]; exact bA_toL _
  have hts : t.size ≤ 1000000 := by rw [← htt, bA_size]; exact HS.out k
  rw [htt] at CT
  clear htt HS
  by_cases hv : ∃ v, Lib.atoiAll (L.getD k []) = .ok v
  · obtain ⟨v, hv⟩ := hv
    have HV := Lib.hid (numG_some hv)
    rw [← htl] at hv
    have CA := Lib.hid (fun u => atoi_ok t v u hts hv)
    clear hv htl hts
    go_enter Tryd.func29, Tryd.ntmps29
    go_wp2_with (first | (go_at_call 42; (with_reducible refine (CT.out).mono ?_); rintro e w1 ⟨rfl, hr1, hb1⟩; have HR1 := Lib.hid hr1; have HB1 := Lib.hid hb1; clear hr1 hb1) | (go_at_call 41; (with_reducible refine (CA.out _).mono ?_); rintro e w2 ⟨rfl, hb2⟩; have HB2 := Lib.hid hb2; clear hb2))
    go_ret
    rw [HV.out]
    exact ⟨rfl, HR1.out.later HB2.out, HB1.out.trans (Sole.of HR1.out.1.lt HB2.out)⟩
  · have hv2 : ∀ v, Lib.atoiAll (L.getD k []) ≠ .ok v := fun v q => hv ⟨v, q⟩
    have HV := Lib.hid (numG_no hv2)
    rw [← htl] at hv2
    have CA := Lib.hid (fun u hu => atoi_err t u hts hu hv2)
    clear hv hv2 htl hts
    go_enter Tryd.func29, Tryd.ntmps29
    go_wp2_with (first | (go_at_call 42; (with_reducible refine (CT.out).mono ?_); rintro e w1 ⟨rfl, hr1, hb1⟩; have HR1 := Lib.hid hr1; have HB1 := Lib.hid hb1; clear hr1 hb1) | (go_at_call 41; (with_reducible refine (CA.out _ (HE.out _ (HB1.out.bel hb))).mono ?_); rintro e w2 ⟨i9, N9, rfl, hb2⟩; have HB2 := Lib.hid hb2; clear hb2))
    go_ret
    rw [HV.out]
    exact ⟨rfl, HR1.out.later HB2.out, HB1.out.trans (Sole.of HR1.out.1.lt HB2.out)⟩
set_option maxRecDepth 100000 in
set_option maxHeartbeats 16000000 in
theorem lg_signal (B base g k : Nat) (L : List (List UInt8)) (w : World) (hR : RdAt w B g L k) (hb : base ≤ B) (hL : L.length ≤ maxLen) :
    Calls Tryd.prog 44 #[.pointer (some ⟨B, 0, none⟩)] w fun e w' => e = .returned (.int .i64 (idxE sgE (L.getD k []) 3)) ∧ RdAt w' B g L (k + 1) ∧ Sole B w w' := by
  have HR := Lib.hid hR
  have HL := Lib.hid hL
  have hz1 := hR.1.lt
  clear hR hL
  obtain ⟨t, htt⟩ : ∃ t, bA (L.getD k []) = t := ⟨_, rfl⟩
  have HI := Lib.hid (idx_is sgE (L.getD k []) 3)
  rw [htt] at HI
  have HTT := Lib.hid htt
  clear htt
  obtain ⟨zs, hzs⟩ : ∃ zs, (List.range 3).map (fun j => bA (sgE j)) = zs := ⟨_, rfl⟩
  have hzl : zs.length = 3 := by rw [← hzs]; rfl
  have HZ := Lib.hid (show [.string ⟨#[109, 101, 109, 111, 114, 121]⟩, .string ⟨#[100, 105, 115, 107]⟩, .string ⟨#[112, 105, 100]⟩] = zs.map Value.string from by rw [← hzs]; rfl)
  have HI2 := Lib.hid (show Lib.idxOfS (zs.take 3) t = idxE sgE (L.getD k []) 3 from by rw [← HI.out, ← hzs, List.take_of_length_le (by simp)])
  clear hzs HI
  go_enter Tryd.func44, Tryd.ntmps44
  go_upto_region 2 with (go_at_call 60; (with_reducible refine (lg_signals _).mono ?_); rintro e w1 ⟨rfl, hb1⟩; have HB1 := Lib.hid hb1; clear hb1)
  have hb2 := belStep HB1.out (belAlloc (Below.refl w1.heap.size w1) (.cells #[.string ⟨#[109, 101, 109, 111, 114, 121]⟩, .string ⟨#[100, 105, 115, 107]⟩, .string ⟨#[112, 105, 100]⟩] 93))
  have HB2 := Lib.hid hb2
  have HR2 := Lib.hid (HR.out.later hb2)
  have HA := Lib.hid (Blk.new w1 [.string ⟨#[109, 101, 109, 111, 114, 121]⟩, .string ⟨#[100, 105, 115, 107]⟩, .string ⟨#[112, 105, 100]⟩] 93)
  have hs1 := HB1.out.size
  have hs2 := HB2.out.size
  generalize w1.alloc (.cells #[.string ⟨#[109, 101, 109, 111, 114, 121]⟩, .string ⟨#[100, 105, 115, 107]⟩, .string ⟨#[112, 105, 100]⟩] 93) = w2 at *
  rw [HZ.out] at HA
  clear hb2
  refine wp_region_upc (S := fun _ => True) [3, 4] (by kernel_rfl) (by trivial) (fun hHeld => ?_)
  refine UpC.take (i := 0) (oi := ?oi_uc1) (v := ?v_uc1) ?hi_uc1 (by kernel_rfl) ?hf_uc1 ?hr_uc1 (by kernel_rfl) ?hQ_uc1 (Or.inl ⟨?hw_uc1, ?hy_uc1⟩) (by assumption) ?rest_uc1
  case hi_uc1 => ((simp only [List.getElem?_toArray, List.getElem?_cons_succ, List.getElem?_cons_zero]); rfl)
  case hf_uc1 => kernel_rfl
  case hr_uc1 => kernel_rfl
  case hQ_uc1 => exact fun _ _ _ h => h
  case hw_uc1 => rfl
  case hy_uc1 => ((intro w hSw; (try dsimp only at hSw); go_simp); all_goals (with_reducible rfl))
  try simp only [Act.put, List.setIfInBounds_toArray, List.set_cons_zero, List.set_cons_succ]
  refine UpC.take (i := 1) (oi := ?oi_uc2) (v := ?v_uc2) ?hi_uc2 (by kernel_rfl) ?hf_uc2 ?hr_uc2 (by kernel_rfl) ?hQ_uc2 (Or.inl ⟨?hw_uc2, ?hy_uc2⟩) (by assumption) ?rest_uc2
  case hi_uc2 => ((simp only [List.getElem?_toArray, List.getElem?_cons_succ, List.getElem?_cons_zero]); rfl)
  case hf_uc2 => kernel_rfl
  case hr_uc2 => kernel_rfl
  case hQ_uc2 => exact fun _ _ _ h => h
  case hw_uc2 => rfl
  case hy_uc2 => ((intro w hSw; (try dsimp only at hSw); go_simp); all_goals (with_reducible rfl))
  try simp only [Act.put, List.setIfInBounds_toArray, List.set_cons_zero, List.set_cons_succ]
  have CT := Lib.hid (lg_text B base g k L w2.drew (HR2.out.later (belDrew (Below.refl _ _))) hb HL.out)
  rw [HTT.out] at CT
  refine UpC.one (i := 2) (o := ?o_uc3) (by kernel_rfl) ?hi_uc3 (fun K hK => ?rest_uc3)
  case hi_uc3 => ((simp only [List.getElem?_toArray, List.getElem?_cons_succ, List.getElem?_cons_zero]); rfl)
  go_simp
  (go_at_call 42; (with_reducible refine (CT.out).mono ?_); rintro e w3 ⟨rfl, hw3, ho3⟩; have HA3 := Lib.hid (ho3.blk (HA.out.later (belDrew (Below.refl _ _))) (by omega)); have HW3 := Lib.hid hw3; have HB3 := Lib.hid ((Sole.of hz1 (belDrew HB2.out)).trans ho3); clear hw3 ho3)
  try go_simp
  refine hK.out _ _ (fun _ _ => by trivial) (fun hHeld0 => ?_)
  replace hHeld := hHeld0 (by decide) hHeld
  clear hK K hHeld0
  try simp only [Act.put, List.setIfInBounds_toArray, List.set_cons_zero, List.set_cons_succ]
  have CI := Lib.hid (Tryd.slices_Index_string w1.heap.size 0 3 3 zs t w3 (by omega) (by omega) (fun j hj => by rw [Nat.zero_add]; exact HA3.out.cell (by rw [List.getElem?_map, List.getElem?_eq_getElem hj]; simp [List.getD_eq_getElem?_getD, List.getElem?_eq_getElem hj])))
  rw [HI2.out] at CI
  refine UpC.one (i := 3) (o := ?o_uc4) (by kernel_rfl) ?hi_uc4 (fun K hK => ?rest_uc4)
  case hi_uc4 => ((simp only [List.getElem?_toArray, List.getElem?_cons_succ, List.getElem?_cons_zero]); rfl)
  go_simp
  (go_at_call 59; (with_reducible refine (CI.out).mono ?_); rintro e w4 ⟨rfl, rfl⟩)
  try go_simp
  refine hK.out _ _ (fun q => absurd q (by decide)) (fun _ => ?_)
  clear hK K
  try simp only [Act.put, List.setIfInBounds_toArray, List.set_cons_zero, List.set_cons_succ]
  refine UpC.one (i := 4) (o := ?o_uc5) (by kernel_rfl) ?hi_uc5 (fun K hK => ?rest_uc5)
  case hi_uc5 => ((simp only [List.getElem?_toArray, List.getElem?_cons_succ, List.getElem?_cons_zero]); rfl)
  go_simp
  refine hK.out _ _ (fun q => absurd q (by decide)) (fun _ => ?_)
  clear hK K
  try simp only [Act.put, List.setIfInBounds_toArray, List.set_cons_zero, List.set_cons_succ]
  refine UpC.done (by kernel_rfl) ?_ _
  go_wp2
  go_ret
  exact ⟨rfl, HW3.out, HB3.out⟩
set_option maxRecDepth 100000 in
set_option maxHeartbeats 16000000 in
theorem lg_kind (B base g k : Nat) (L : List (List UInt8)) (w : World) (hR : RdAt w B g L k) (hb : base ≤ B) (hL : L.length ≤ maxLen) :
    Calls Tryd.prog 43 #[.pointer (some ⟨B, 0, none⟩)] w fun e w' => e = .returned (.int .i64 (idxE kwE (L.getD k []) 17)) ∧ RdAt w' B g L (k + 1) ∧ Sole B w w' := by
  have HR := Lib.hid hR
  have HL := Lib.hid hL
  have hz1 := hR.1.lt
  clear hR hL
  obtain ⟨t, htt⟩ : ∃ t, bA (L.getD k []) = t := ⟨_, rfl⟩
  have HI := Lib.hid (idx_is kwE (L.getD k []) 17)
  rw [htt] at HI
  have HTT := Lib.hid htt
  clear htt
  obtain ⟨zs, hzs⟩ : ∃ zs, (List.range 17).map (fun j => bA (kwE j)) = zs := ⟨_, rfl⟩
  have hzl : zs.length = 17 := by rw [← hzs]; rfl
  have HZ := Lib.hid (show [.string ⟨#[]⟩, .string ⟨#[97, 100, 109, 105, 116]⟩, .string ⟨#[112, 114, 101, 101, 109, 112, 116]⟩, .string ⟨#[114, 101, 106, 101, 99, 116]⟩, .string ⟨#[100, 101, 108, 101, 116, 101]⟩, .string ⟨#[101, 118, 105, 99, 116]⟩, .string ⟨#[111, 110]⟩, .string ⟨#[111, 102, 102]⟩, .string ⟨#[98, 101, 103, 105, 110]⟩, .string ⟨#[112, 117, 108, 108]⟩, .string ⟨#[117, 112]⟩, .string ⟨#[102, 97, 105, 108]⟩, .string ⟨#[103, 111, 110, 101]⟩, .string ⟨#[100, 101, 97, 100]⟩, .string ⟨#[105, 109, 97, 103, 101]⟩, .string ⟨#[115, 116, 111, 112]⟩, .string ⟨#[114, 101, 99, 111, 118, 101, 114]⟩] = zs.map Value.string from by rw [← hzs]; rfl)
  have HI2 := Lib.hid (show Lib.idxOfS (zs.take 17) t = idxE kwE (L.getD k []) 17 from by rw [← HI.out, ← hzs, List.take_of_length_le (by simp)])
  clear hzs HI
  go_enter Tryd.func43, Tryd.ntmps43
  go_upto_region 2 with (go_at_call 46; (with_reducible refine (lg_words _).mono ?_); rintro e w1 ⟨rfl, hb1⟩; have HB1 := Lib.hid hb1; clear hb1)
  have hb2 := belStep HB1.out (belAlloc (Below.refl w1.heap.size w1) (.cells #[.string ⟨#[]⟩, .string ⟨#[97, 100, 109, 105, 116]⟩, .string ⟨#[112, 114, 101, 101, 109, 112, 116]⟩, .string ⟨#[114, 101, 106, 101, 99, 116]⟩, .string ⟨#[100, 101, 108, 101, 116, 101]⟩, .string ⟨#[101, 118, 105, 99, 116]⟩, .string ⟨#[111, 110]⟩, .string ⟨#[111, 102, 102]⟩, .string ⟨#[98, 101, 103, 105, 110]⟩, .string ⟨#[112, 117, 108, 108]⟩, .string ⟨#[117, 112]⟩, .string ⟨#[102, 97, 105, 108]⟩, .string ⟨#[103, 111, 110, 101]⟩, .string ⟨#[100, 101, 97, 100]⟩, .string ⟨#[105, 109, 97, 103, 101]⟩, .string ⟨#[115, 116, 111, 112]⟩, .string ⟨#[114, 101, 99, 111, 118, 101, 114]⟩] 85))
  have HB2 := Lib.hid hb2
  have HR2 := Lib.hid (HR.out.later hb2)
  have HA := Lib.hid (Blk.new w1 [.string ⟨#[]⟩, .string ⟨#[97, 100, 109, 105, 116]⟩, .string ⟨#[112, 114, 101, 101, 109, 112, 116]⟩, .string ⟨#[114, 101, 106, 101, 99, 116]⟩, .string ⟨#[100, 101, 108, 101, 116, 101]⟩, .string ⟨#[101, 118, 105, 99, 116]⟩, .string ⟨#[111, 110]⟩, .string ⟨#[111, 102, 102]⟩, .string ⟨#[98, 101, 103, 105, 110]⟩, .string ⟨#[112, 117, 108, 108]⟩, .string ⟨#[117, 112]⟩, .string ⟨#[102, 97, 105, 108]⟩, .string ⟨#[103, 111, 110, 101]⟩, .string ⟨#[100, 101, 97, 100]⟩, .string ⟨#[105, 109, 97, 103, 101]⟩, .string ⟨#[115, 116, 111, 112]⟩, .string ⟨#[114, 101, 99, 111, 118, 101, 114]⟩] 85)
  have hs1 := HB1.out.size
  have hs2 := HB2.out.size
  generalize w1.alloc (.cells #[.string ⟨#[]⟩, .string ⟨#[97, 100, 109, 105, 116]⟩, .string ⟨#[112, 114, 101, 101, 109, 112, 116]⟩, .string ⟨#[114, 101, 106, 101, 99, 116]⟩, .string ⟨#[100, 101, 108, 101, 116, 101]⟩, .string ⟨#[101, 118, 105, 99, 116]⟩, .string ⟨#[111, 110]⟩, .string ⟨#[111, 102, 102]⟩, .string ⟨#[98, 101, 103, 105, 110]⟩, .string ⟨#[112, 117, 108, 108]⟩, .string ⟨#[117, 112]⟩, .string ⟨#[102, 97, 105, 108]⟩, .string ⟨#[103, 111, 110, 101]⟩, .string ⟨#[100, 101, 97, 100]⟩, .string ⟨#[105, 109, 97, 103, 101]⟩, .string ⟨#[115, 116, 111, 112]⟩, .string ⟨#[114, 101, 99, 111, 118, 101, 114]⟩] 85) = w2 at *
  rw [HZ.out] at HA
  clear hb2
  refine wp_region_upc (S := fun _ => True) [3, 4] (by kernel_rfl) (by trivial) (fun hHeld => ?_)
  refine UpC.take (i := 0) (oi := ?oi_uc6) (v := ?v_uc6) ?hi_uc6 (by kernel_rfl) ?hf_uc6 ?hr_uc6 (by kernel_rfl) ?hQ_uc6 (Or.inl ⟨?hw_uc6, ?hy_uc6⟩) (by assumption) ?rest_uc6
  case hi_uc6 => ((simp only [List.getElem?_toArray, List.getElem?_cons_succ, List.getElem?_cons_zero]); rfl)
  case hf_uc6 => kernel_rfl
  case hr_uc6 => kernel_rfl
  case hQ_uc6 => exact fun _ _ _ h => h
  case hw_uc6 => rfl
  case hy_uc6 => ((intro w hSw; (try dsimp only at hSw); go_simp); all_goals (with_reducible rfl))
  try simp only [Act.put, List.setIfInBounds_toArray, List.set_cons_zero, List.set_cons_succ]
  refine UpC.take (i := 1) (oi := ?oi_uc7) (v := ?v_uc7) ?hi_uc7 (by kernel_rfl) ?hf_uc7 ?hr_uc7 (by kernel_rfl) ?hQ_uc7 (Or.inl ⟨?hw_uc7, ?hy_uc7⟩) (by assumption) ?rest_uc7
  case hi_uc7 => ((simp only [List.getElem?_toArray, List.getElem?_cons_succ, List.getElem?_cons_zero]); rfl)
  case hf_uc7 => kernel_rfl
  case hr_uc7 => kernel_rfl
  case hQ_uc7 => exact fun _ _ _ h => h
  case hw_uc7 => rfl
  case hy_uc7 => ((intro w hSw; (try dsimp only at hSw); go_simp); all_goals (with_reducible rfl))
  try simp only [Act.put, List.setIfInBounds_toArray, List.set_cons_zero, List.set_cons_succ]
  have CT := Lib.hid (lg_text B base g k L w2.drew (HR2.out.later (belDrew (Below.refl _ _))) hb HL.out)
  rw [HTT.out] at CT
  refine UpC.one (i := 2) (o := ?o_uc8) (by kernel_rfl) ?hi_uc8 (fun K hK => ?rest_uc8)
  case hi_uc8 => ((simp only [List.getElem?_toArray, List.getElem?_cons_succ, List.getElem?_cons_zero]); rfl)
  go_simp
  (go_at_call 42; (with_reducible refine (CT.out).mono ?_); rintro e w3 ⟨rfl, hw3, ho3⟩; have HA3 := Lib.hid (ho3.blk (HA.out.later (belDrew (Below.refl _ _))) (by omega)); have HW3 := Lib.hid hw3; have HB3 := Lib.hid ((Sole.of hz1 (belDrew HB2.out)).trans ho3); clear hw3 ho3)
  try go_simp
  refine hK.out _ _ (fun _ _ => by trivial) (fun hHeld0 => ?_)
  replace hHeld := hHeld0 (by decide) hHeld
  clear hK K hHeld0
  try simp only [Act.put, List.setIfInBounds_toArray, List.set_cons_zero, List.set_cons_succ]
  have CI := Lib.hid (Tryd.slices_Index_string w1.heap.size 0 17 17 zs t w3 (by omega) (by omega) (fun j hj => by rw [Nat.zero_add]; exact HA3.out.cell (by rw [List.getElem?_map, List.getElem?_eq_getElem hj]; simp [List.getD_eq_getElem?_getD, List.getElem?_eq_getElem hj])))
  rw [HI2.out] at CI
  refine UpC.one (i := 3) (o := ?o_uc9) (by kernel_rfl) ?hi_uc9 (fun K hK => ?rest_uc9)
  case hi_uc9 => ((simp only [List.getElem?_toArray, List.getElem?_cons_succ, List.getElem?_cons_zero]); rfl)
  go_simp
  (go_at_call 59; (with_reducible refine (CI.out).mono ?_); rintro e w4 ⟨rfl, rfl⟩)
  try go_simp
  refine hK.out _ _ (fun q => absurd q (by decide)) (fun _ => ?_)
  clear hK K
  try simp only [Act.put, List.setIfInBounds_toArray, List.set_cons_zero, List.set_cons_succ]
  refine UpC.one (i := 4) (o := ?o_uc10) (by kernel_rfl) ?hi_uc10 (fun K hK => ?rest_uc10)
  case hi_uc10 => ((simp only [List.getElem?_toArray, List.getElem?_cons_succ, List.getElem?_cons_zero]); rfl)
  go_simp
  refine hK.out _ _ (fun q => absurd q (by decide)) (fun _ => ?_)
  clear hK K
  try simp only [Act.put, List.setIfInBounds_toArray, List.set_cons_zero, List.set_cons_succ]
  refine UpC.done (by kernel_rfl) ?_ _
  go_wp2
  go_ret
  exact ⟨rfl, HW3.out, HB3.out⟩
end Go.Proofs.YtekakalhknjdaaaDoor
