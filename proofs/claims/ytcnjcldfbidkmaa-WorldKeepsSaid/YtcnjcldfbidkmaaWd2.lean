
/- Stage 16: the place of a container: contracts. -/
import Derived.Test.YtcnjcldfbidkmaaWd1
import Derived.Test.YtcnjcldfbidkmaaShelfS
namespace Go.Proofs.Ytcnjcldfbidkmaa
open Go.RowKit Go.Sort Go.Lib
set_option linter.unusedVariables false
set_option linter.unusedSimpArgs false
def placeC (L : List ContV) (s : ByteArray) : Nat := (L.filter fun x => decide (x.id.toList < s.toList)).length
def thereC (L : List ContV) (s : ByteArray) : Bool := L.any fun x => x.id.toList == s.toList
theorem RisesC.lt {L : List ContV} (h : RisesC L) {i j : Nat} {x y : ContV} (hi : L[i]? = some x) (hj : L[j]? = some y) (hij : i < j) : x.id.toList < y.id.toList := by
  obtain ⟨h1, rfl⟩ := List.getElem?_eq_some_iff.1 hi
  obtain ⟨h2, rfl⟩ := List.getElem?_eq_some_iff.1 hj
  exact List.pairwise_iff_getElem.1 h i j h1 h2 hij
/-- Where a name stands: those ahead are less, those from there on aren't. -/
structure PartsC (L : List ContV) (s : ByteArray) (k : Nat) : Prop where
  le : k ≤ L.length
  lo : ∀ i x, i < k → L[i]? = some x → x.id.toList < s.toList
  hi : ∀ i x, k ≤ i → L[i]? = some x → ¬ x.id.toList < s.toList
theorem PartsC.place {L : List ContV} {s : ByteArray} {k : Nat} (h : PartsC L s k) : placeC L s = k := by
  unfold placeC
  have e : L.filter (fun x => decide (x.id.toList < s.toList)) = L.take k := by
    conv => lhs; rw [← List.take_append_drop k L]
    rw [List.filter_append, List.filter_eq_self.2, List.filter_eq_nil_iff.2, List.append_nil]
    · intro x hx
      obtain ⟨i, hi⟩ := List.getElem?_of_mem hx
      rw [List.getElem?_drop] at hi
      simpa using h.hi _ x (by omega) hi
    · intro x hx
      obtain ⟨i, hi⟩ := List.getElem?_of_mem hx
      have hik : i < k := by
        rcases Nat.lt_or_ge i k with q | q
        · exact q
        · rw [List.getElem?_eq_none (by rw [List.length_take]; omega)] at hi; cases hi
      rw [List.getElem?_take_of_lt hik] at hi
      simpa using h.lo _ x hik hi
  rw [e, List.length_take]
  exact Nat.min_eq_left h.le
theorem PartsC.there {L : List ContV} {s : ByteArray} {k : Nat} (h : PartsC L s k) (hr : RisesC L) : thereC L s = true ↔ ∃ x, L[k]? = some x ∧ x.id.toList = s.toList := by
  unfold thereC
  rw [List.any_eq_true]
  constructor
  · rintro ⟨x, hx, he⟩
    have he := eq_of_beq he
    obtain ⟨i, hi⟩ := List.getElem?_of_mem hx
    have hki : k ≤ i := by
      rcases Nat.lt_or_ge i k with q | q
      · have := h.lo i x q hi; rw [he] at this; exact absurd this (List.lt_irrefl _)
      · exact q
    rcases Nat.lt_or_ge k i with q | q
    · have hkl : k < L.length := by have := (List.getElem?_eq_some_iff.1 hi).1; omega
      have h2 := hr.lt (List.getElem?_eq_getElem hkl) hi q
      rw [he] at h2
      exact absurd h2 (h.hi k _ (Nat.le_refl _) (List.getElem?_eq_getElem hkl))
    · obtain rfl : i = k := by omega
      exact ⟨x, hi, he⟩
  · rintro ⟨x, hx, he⟩
    exact ⟨x, List.mem_of_getElem? hx, by rw [he]; exact beq_self_eq_true _⟩
theorem partsC_of {L : List ContV} (h : RisesC L) (s : ByteArray) : PartsC L s (placeC L s) := by
  have key : ∀ k, k ≤ L.length → (∀ i x, i < k → L[i]? = some x → x.id.toList < s.toList) → ∃ k, PartsC L s k := by
    intro k hk hlo
    generalize hn : L.length - k = n
    induction n generalizing k with
    | zero => exact ⟨k, hk, hlo, fun i x hi hx => by have := (List.getElem?_eq_some_iff.1 hx).1; omega⟩
    | succ n ih =>
      have hkl : k < L.length := by omega
      by_cases hlt : L[k].id.toList < s.toList
      · refine ih (k + 1) (by omega) (fun i x hi hx => ?_) (by omega)
        rcases Nat.lt_or_ge i k with q | q
        · exact hlo i x q hx
        · obtain rfl : i = k := by omega
          rw [List.getElem?_eq_getElem hkl] at hx; cases hx; exact hlt
      · refine ⟨k, hk, hlo, fun i x hi hx hc => ?_⟩
        rcases Nat.lt_or_ge k i with q | q
        · exact hlt (List.lt_trans (h.lt (List.getElem?_eq_getElem hkl) hx q) hc)
        · obtain rfl : i = k := by omega
          rw [List.getElem?_eq_getElem hkl] at hx; cases hx; exact hlt hc
  obtain ⟨k, hk⟩ := key 0 (Nat.zero_le _) (fun i x hi => by omega)
  rw [hk.place]; exact hk
theorem thereC_at {L : List ContV} (h : RisesC L) {s : ByteArray} (ht : thereC L s = true) : ∃ x, L[placeC L s]? = some x ∧ x.id.toList = s.toList := ((partsC_of h s).there h).1 ht
theorem cmpB_list : ∀ l m : List UInt8, Lib.compareBytes l m = if l < m then -1 else if l = m then 0 else 1
  | [], [] => by simp [Lib.compareBytes]
  | [], b :: m => by simp [Lib.compareBytes]
  | a :: l, [] => by simp [Lib.compareBytes]
  | a :: l, b :: m => by
    rw [Lib.compareBytes, cmpB_list l m]
    rcases Nat.lt_trichotomy a.toNat b.toNat with h | h | h
    · have h1 : a < b := UInt8.lt_iff_toNat_lt.2 h
      rw [if_pos h1, if_pos (List.cons_lt_cons_iff.2 (.inl h1))]
    · have h1 : a = b := UInt8.toNat_inj.1 h
      subst h1
      have h2 : ¬ a < a := fun q => absurd (UInt8.lt_iff_toNat_lt.1 q) (Nat.lt_irrefl _)
      rw [if_neg h2, if_neg h2]
      by_cases k : l < m
      · rw [if_pos k, if_pos (List.cons_lt_cons_iff.2 (.inr ⟨rfl, k⟩))]
      · have h5 : ¬ a :: l < a :: m := fun q => by
          rcases List.cons_lt_cons_iff.1 q with q | ⟨_, q⟩
          · exact absurd q h2
          · exact absurd q k
        by_cases e : l = m
        · rw [if_neg k, if_pos e, if_neg h5, if_pos (by rw [e])]
        · rw [if_neg k, if_neg e, if_neg h5, if_neg (fun q => e (List.cons.inj q).2)]
    · have h1 : ¬ a < b := fun q => by have := UInt8.lt_iff_toNat_lt.1 q; omega
      have h2 : b < a := UInt8.lt_iff_toNat_lt.2 h
      have h3 : a ≠ b := fun q => by subst q; omega
      have h5 : ¬ a :: l < b :: m := fun q => by
        rcases List.cons_lt_cons_iff.1 q with q | ⟨q, _⟩
        · exact absurd q h1
        · exact absurd q h3
      rw [if_neg h1, if_pos h2, if_neg h5, if_neg (fun q => h3 (List.cons.inj q).1)]
theorem cmpB_S (a b : ByteArray) : Lib.compareBytes a.data.toList b.data.toList = cS a b := by
  unfold cS
  rw [cmpB_list, Lib.toList_data, Lib.toList_data]
theorem there_no {L : List ContV} {s : ByteArray} {x : ContV} {p : Nat} (h : RisesC L) (hx : L[placeC L s]? = some x) : thereC L s = (x.id.toList == s.toList) := by
  have hp := partsC_of h s
  rw [Bool.eq_iff_iff, hp.there h, beq_iff_eq]
  exact ⟨fun ⟨y, hy, he⟩ => by cases hx.symm.trans hy; exact he, fun he => ⟨x, hx, he⟩⟩
theorem str_res {e : Ending} {w w' : World} {a b : ByteArray} (h : e = .returned (.int .i64 (Lib.compareBytes a.data.toList b.data.toList)) ∧ w' = w) : e = .returned (.int .i64 (cS a b)) ∧ Below w.heap.size w w' := by
  obtain ⟨h1, rfl⟩ := h
  exact ⟨by rw [h1, cmpB_S], Below.refl _ _⟩
set_option maxRecDepth 100000 in
set_option maxHeartbeats 16000000 in
theorem wd_place1 (x : ContV) (s : ByteArray) (w : World) :
    Calls Try.prog 103 #[.agg #[.string x.id, .int .i64 x.state, .int .i64 x.tries, .int .i64 x.last], .string s] w fun e w' => e = .returned (.int .i64 (cS x.id s)) ∧ Below w.heap.size w w' := by
  have hw : Below w.heap.size w w := Below.refl _ _
  have hbel := hw
  have CC := Lib.hid (fun u => Try.strings_Compare x.id s u)
  go_enter Try.func103, Try.ntmps103
  go_upto_region 1 with fail
  have cc0 : (w.alloc (.cells #[.string x.id, .int .i64 x.state, .int .i64 x.tries, .int .i64 x.last] 44)).cell? ⟨w.heap.size, 0, none⟩ = some (.string x.id) := by first | (simp; done) | (rw [World.cell?_alloc_at _ _ _ _ (by simp)]; rfl) | (rw [World.cell?_alloc_past _ _ _ (by simp <;> omega), World.cell?_alloc_at _ _ _ _ (by simp)]; rfl) | (rw [World.cell?_alloc_past _ _ _ (by simp <;> omega), World.cell?_alloc_past _ _ _ (by simp <;> omega), World.cell?_alloc_at _ _ _ _ (by simp)]; rfl)
  have cc1 : (w.alloc (.cells #[.string x.id, .int .i64 x.state, .int .i64 x.tries, .int .i64 x.last] 44)).cell? ⟨w.heap.size, 1, none⟩ = some (.int .i64 x.state) := by first | (simp; done) | (rw [World.cell?_alloc_at _ _ _ _ (by simp)]; rfl) | (rw [World.cell?_alloc_past _ _ _ (by simp <;> omega), World.cell?_alloc_at _ _ _ _ (by simp)]; rfl) | (rw [World.cell?_alloc_past _ _ _ (by simp <;> omega), World.cell?_alloc_past _ _ _ (by simp <;> omega), World.cell?_alloc_at _ _ _ _ (by simp)]; rfl)
  have cc2 : (w.alloc (.cells #[.string x.id, .int .i64 x.state, .int .i64 x.tries, .int .i64 x.last] 44)).cell? ⟨w.heap.size, 2, none⟩ = some (.int .i64 x.tries) := by first | (simp; done) | (rw [World.cell?_alloc_at _ _ _ _ (by simp)]; rfl) | (rw [World.cell?_alloc_past _ _ _ (by simp <;> omega), World.cell?_alloc_at _ _ _ _ (by simp)]; rfl) | (rw [World.cell?_alloc_past _ _ _ (by simp <;> omega), World.cell?_alloc_past _ _ _ (by simp <;> omega), World.cell?_alloc_at _ _ _ _ (by simp)]; rfl)
  have cc3 : (w.alloc (.cells #[.string x.id, .int .i64 x.state, .int .i64 x.tries, .int .i64 x.last] 44)).cell? ⟨w.heap.size, 3, none⟩ = some (.int .i64 x.last) := by first | (simp; done) | (rw [World.cell?_alloc_at _ _ _ _ (by simp)]; rfl) | (rw [World.cell?_alloc_past _ _ _ (by simp <;> omega), World.cell?_alloc_at _ _ _ _ (by simp)]; rfl) | (rw [World.cell?_alloc_past _ _ _ (by simp <;> omega), World.cell?_alloc_past _ _ _ (by simp <;> omega), World.cell?_alloc_at _ _ _ _ (by simp)]; rfl)
  have hb2 := (by repeat (first | exact hbel | refine belAlloc ?_ _ | refine belDrew ?_ | refine belSet ?_ _ _ (by simp)) : Below w.heap.size w (w.alloc (.cells #[.string x.id, .int .i64 x.state, .int .i64 x.tries, .int .i64 x.last] 44)))
  replace hw := belStep hw hb2
  clear hb2 hbel
  generalize w.alloc (.cells #[.string x.id, .int .i64 x.state, .int .i64 x.tries, .int .i64 x.last] 44) = W1 at *
  replace cc0 := keep cc0
  replace cc1 := keep cc1
  replace cc2 := keep cc2
  replace cc3 := keep cc3
  have hbel : Below W1.heap.size W1 W1 := Below.refl _ _
  skip
  go_wp2_with (go_at_call 104; (with_reducible refine (CC.out _).mono ?_); rintro e w1 hq_; have hbz := str_res hq_; obtain ⟨rfl, hb_⟩ := hbz; replace hbel := belStep hbel hb_; clear hb_ hq_)
  go_ret
  exact ⟨rfl, belStep hw hbel⟩
set_option maxRecDepth 100000 in
set_option maxHeartbeats 16000000 in
theorem wd_bsearch (a : Option Addr) (len cap : Nat) (L : List ContV) (s : ByteArray) (w : World) (hl : L.length = len) (hR : Row w a len cap 4 (L.flatMap ContV.cells)) (hri : RisesC L) (hn : len ≤ 100000) :
    Calls Try.prog 102 #[.slice a len cap, .string s, .func (.func 103) #[] #[]] w fun e w' => e = .returned (.tuple #[.int .i64 (placeC L s), .bool (thereC L s)]) ∧ Below w.heap.size w w' := by
  have hw : Below w.heap.size w w := Below.refl _ _
  have hbd_a : len ≤ cap ∧ cap ≤ 9223372036854775807 := by obtain ⟨_, h1, h2, _⟩ := hR; unfold maxLen at h2; exact ⟨h1, h2⟩
  obtain ⟨hbd1_a, hbd2_a⟩ := hbd_a
  have HR := Lib.hid hR
  have HRI := Lib.hid hri
  clear hR hri
  subst hl
  go_enter Try.func102, Try.ntmps102
  go_wp2
  go_loopw [9, 10] (fun lv hv wr => ∃ lo hi : Nat, lo ≤ hi ∧ hi ≤ L.length ∧ lv = .int .i64 lo ∧ hv = .int .i64 hi ∧ Hid (∀ i x, i < lo → L[i]? = some x → x.id.toList < s.toList) ∧ Hid (∀ i x, hi ≤ i → L[i]? = some x → ¬ x.id.toList < s.toList) ∧ Below w.heap.size w wr) (fun l h _ => (intOf h).toNat - (intOf l).toNat)
  case atStart => exact ⟨0, L.length, Nat.zero_le _, Nat.le_refl _, rfl, rfl, Lib.hid (fun i x hi => by omega), Lib.hid (fun i x hi hx => by have := (List.getElem?_eq_some_iff.1 hx).1; omega), hw⟩
  case round =>
    clear hw
    obtain ⟨lo, hi, hlh, hhl, rfl, rfl, HLO, HHI, hbel⟩ := hrel
    by_cases hlt : lo < hi
    · obtain ⟨m, hm⟩ : ∃ m : Nat, ((lo : Int) + (hi : Int)) / 2 = (m : Int) := ⟨(lo + hi) / 2, by omega⟩
      have hml : lo ≤ m := by omega
      have hmh : m < hi := by omega
      have hmL : m < L.length := by omega
      have hs1 : IntKind.i64.wrap ((lo : Int) + (hi : Int)) = (lo : Int) + (hi : Int) := IntWalk.i64_in _ (by omega)
      have hs2 : IntKind.u64.wrap ((lo : Int) + (hi : Int)) = (lo : Int) + (hi : Int) := by rw [show IntKind.u64.wrap ((lo : Int) + (hi : Int)) = ((lo : Int) + (hi : Int)) % 18446744073709551616 by simp [IntKind.wrap, IntKind.bits, IntKind.signed]]; omega
      have hs3 : IntKind.u64.wrap (m : Int) = (m : Int) := by rw [show IntKind.u64.wrap (m : Int) = (m : Int) % 18446744073709551616 by simp [IntKind.wrap, IntKind.bits, IntKind.signed]]; omega
      have hs4 : IntKind.i64.wrap (m : Int) = (m : Int) := IntWalk.i64_in _ (by omega)
      have hd : decide ((lo : Int) < (hi : Int)) = true := decide_eq_true (by omega)
      have hli : (lo : Int) < (hi : Int) := by omega
      have hmi : (m : Int) < (L.length : Int) := by omega
      have hm0 : (0 : Int) ≤ (m : Int) := by omega
      have hm9 : (m : Int) ≤ 9223372036854775806 := by omega
      have hs5 : IntKind.i64.wrap ((m : Int) + 1) = (m : Int) + 1 := IntWalk.i64_in _ (by omega)
      obtain ⟨x, hx⟩ : ∃ x, L[m]? = some x := ⟨L[m], List.getElem?_eq_getElem hmL⟩
      obtain ⟨bc, oc, ec, _, hcc⟩ := (HR.out).elem ContV.cells_len (by omega) hx
      subst ec
      have c0 := keep (hcc 0 _ rfl)
      have c1 := keep (hcc 1 _ rfl)
      have c2 := keep (hcc 2 _ rfl)
      have c3 := keep (hcc 3 _ rfl)
      rw [Nat.add_zero] at c0
      have HX := Lib.hid hx
      have CU := Lib.hid (fun u => wd_place1 x s u)
      have HC9 := Lib.hid (cS_neg (x := x.id) (y := s))
      obtain ⟨c, hc⟩ : ∃ c, cS x.id s = c := ⟨_, rfl⟩
      rw [hc] at CU HC9
      clear hx hcc hc
      by_cases hb : c < 0
      · have HB := Lib.hid (HC9.out.1 hb)
        have hdc : decide (c < 0) = true := decide_eq_true hb
        go_wp2_with (go_at_call 103; (with_reducible refine (CU.out _).mono ?_); rintro e w1 ⟨rfl, hb_⟩; have hbz := belStep hbel hb_; clear hbel; have hbel := hbz; clear hbz hb_)
        go_roundw
        case rel => exact ⟨m + 1, hi, by omega, by omega, by push_cast; rfl, rfl, Lib.hid (fun i y hi hy => (Nat.lt_or_ge i m).elim (fun q => List.lt_trans (HRI.out.lt hy HX.out q) HB.out) (fun q => by rw [show i = m from Nat.le_antisymm (Nat.lt_succ_iff.1 hi) q] at hy; cases HX.out.symm.trans hy; exact HB.out)), HHI, hbel⟩
        case measure => simp [intOf] <;> omega
      · have HB := Lib.hid (show ¬ x.id.toList < s.toList from fun q => hb (HC9.out.2 q))
        have hdc : decide (c < 0) = false := decide_eq_false hb
        go_wp2_with (go_at_call 103; (with_reducible refine (CU.out _).mono ?_); rintro e w1 ⟨rfl, hb_⟩; have hbz := belStep hbel hb_; clear hbel; have hbel := hbz; clear hbz hb_)
        go_roundw
        case rel => exact ⟨lo, m, by omega, by omega, rfl, rfl, HLO, Lib.hid (fun i y hi hy hc => (Nat.lt_or_ge m i).elim (fun q => HB.out (List.lt_trans (HRI.out.lt HX.out hy q) hc)) (fun q => by rw [show i = m from Nat.le_antisymm q hi] at hy; cases HX.out.symm.trans hy; exact HB.out hc)), hbel⟩
        case measure => simp [intOf] <;> omega
    · obtain rfl : lo = hi := by omega
      have hd : decide ((lo : Int) < (lo : Int)) = false := decide_eq_false (by omega)
      have HP := Lib.hid (show PartsC L s lo from ⟨hhl, HLO.out, HHI.out⟩)
      have HPL := Lib.hid HP.out.place
      clear HLO HHI hlt
      by_cases hll : lo < L.length
      · have hd2 : decide ((lo : Int) < (L.length : Int)) = true := decide_eq_true (by omega)
        have hli : (lo : Int) < (L.length : Int) := by omega
        have hl0 : (0 : Int) ≤ (lo : Int) := by omega
        obtain ⟨x, hx⟩ : ∃ x, L[lo]? = some x := ⟨L[lo], List.getElem?_eq_getElem hll⟩
        obtain ⟨bc, oc, ec, _, hcc⟩ := (HR.out).elem ContV.cells_len (by omega) hx
        subst ec
        have c0 := keep (hcc 0 _ rfl)
        have c1 := keep (hcc 1 _ rfl)
        have c2 := keep (hcc 2 _ rfl)
        have c3 := keep (hcc 3 _ rfl)
        rw [Nat.add_zero] at c0
        have HT := Lib.hid (there_no (p := 0) HRI.out (by rw [HPL.out]; exact hx))
        have CU := Lib.hid (fun u => wd_place1 x s u)
        have HC0 := Lib.hid (cS_zero (x := x.id) (y := s))
        obtain ⟨c, hc⟩ : ∃ c, cS x.id s = c := ⟨_, rfl⟩
        rw [hc] at CU HC0
        clear hx hcc hc
        by_cases h0 : c = 0
        · have HTT := Lib.hid (show thereC L s = true by rw [HT.out, beq_iff_eq]; exact HC0.out.1 h0)
          have t0 : (c == 0) = true := by rw [h0]; rfl
          clear h0
          go_wp2_with (go_at_call 103; (with_reducible refine (CU.out _).mono ?_); rintro e w1 ⟨rfl, hb_⟩; have hbz := belStep hbel hb_; clear hbel; have hbel := hbz; clear hbz hb_)
          go_ret2
          exact ⟨by rw [HPL.out, HTT.out]; rfl, hbel⟩
        · have HTT := Lib.hid (show thereC L s = false by rw [HT.out, beq_eq_false_iff_ne]; exact fun q => h0 (HC0.out.2 q))
          have t0 : (c == 0) = false := by rw [beq_eq_false_iff_ne]; exact h0
          clear h0
          go_wp2_with (go_at_call 103; (with_reducible refine (CU.out _).mono ?_); rintro e w1 ⟨rfl, hb_⟩; have hbz := belStep hbel hb_; clear hbel; have hbel := hbz; clear hbz hb_)
          go_ret2
          exact ⟨by rw [HPL.out, HTT.out]; rfl, hbel⟩
      · have hd2 : decide ((lo : Int) < (L.length : Int)) = false := decide_eq_false (by omega)
        have HTT := Lib.hid (show thereC L s = false by cases h : thereC L s with | false => rfl | true => obtain ⟨x, hx, _⟩ := thereC_at HRI.out h; rw [HPL.out] at hx; exact absurd (List.getElem?_eq_some_iff.1 hx).1 hll)
        go_wp2
        go_ret2
        exact ⟨by rw [HPL.out, HTT.out]; rfl, hbel⟩
set_option maxRecDepth 100000 in
set_option maxHeartbeats 16000000 in
theorem wd_place (B M : Nat) (F : List Nat) (m : WorldV) (s : ByteArray) (w : World) (hW : WAt w B M F m) (hri : RisesC m.boxes) (hn : m.boxes.length ≤ 100000) :
    Calls Try.prog 65 #[.pointer (some ⟨M, 0, none⟩), .string s] w fun e w' => e = .returned (.tuple #[.int .i64 (placeC m.boxes s), .bool (thereC m.boxes s)]) ∧ Below w.heap.size w w' := by
  obtain ⟨q, b, i, rfl, hC⟩ := hW
  obtain ⟨qa, qc, hq, hqr⟩ := hC.wait.row
  obtain ⟨ba, bc, hb, hbr⟩ := rowR_of_own hC.cont
  obtain ⟨ia, ic, hi, hir⟩ := rowR_of_own hC.imgs
  subst hq hb hi
  have m0 := keep (hC.blk.cell (j := 0) rfl)
  have m1 := keep (hC.blk.cell (j := 1) rfl)
  have m2 := keep (hC.blk.cell (j := 2) rfl)
  have m3 := keep (hC.blk.cell (j := 3) rfl)
  have HC := Lib.hid hC
  have hw : Below w.heap.size w w := Below.refl _ _
  have hbel := hw
  have CB := Lib.hid (fun u (hu : Below w.heap.size w u) => wd_bsearch ba m.boxes.length bc m.boxes s u rfl (hbr.later hu) hri hn)
  clear hC hqr hbr hir hri
  go_enter Try.func65, Try.ntmps65
  go_wp2_with (go_at_call 102; (with_reducible refine (CB.out _ hbel).mono ?_); rintro e w1 ⟨rfl, hb_⟩; replace hbel := belStep hbel hb_; clear hb_)
  go_ret2
  exact ⟨rfl, hbel⟩
end Go.Proofs.Ytcnjcldfbidkmaa
