
/- state's reader: number, flags: contracts. -/
import Derived.Test.YtpmkhimmlpnbpaaSt4
import Derived.Test.YtpmkhimmlpnbpaaPodInv
namespace Go.Proofs.Ytpmkhimmlpnbpaa
open Go.RowKit
set_option linter.unusedVariables false
set_option linter.unusedSimpArgs false
/-- What so many bytes make, what is left behind them, and whether there were too few. -/
def popN (l : List Int) (f : Bool) : Nat → Nat × List Int × Bool
  | 0 => (0, l, f)
  | k + 1 => ((popN l f k).1 * 256 + (oneV (popN l f k).2.1 (popN l f k).2.2).toNat, oneL (popN l f k).2.1 (popN l f k).2.2, oneF (popN l f k).2.1 (popN l f k).2.2)
theorem oneV_bd {l : List Int} (h : Bytes l) (f : Bool) : 0 ≤ oneV l f ∧ oneV l f ≤ 255 := by
  unfold oneV
  cases f with
  | true => simp
  | false =>
    cases l with
    | nil => simp
    | cons y t => have := h y List.mem_cons_self; simpa using this
theorem oneL_B {l : List Int} (h : Bytes l) (f : Bool) : Bytes (oneL l f) := by
  unfold oneL
  cases f with
  | true => simpa using h
  | false => exact fun c hc => h c (List.mem_of_mem_tail (by simpa using hc))
theorem popN_B {l : List Int} (h : Bytes l) (f : Bool) : ∀ k, Bytes (popN l f k).2.1 := by
  intro k
  induction k with
  | zero => exact h
  | succ k ih => exact oneL_B ih _
theorem popN_lt {l : List Int} (h : Bytes l) (f : Bool) : ∀ k, (popN l f k).1 < 256 ^ k := by
  intro k
  induction k with
  | zero => simp [popN]
  | succ k ih =>
    have := oneV_bd (popN_B h f k) (popN l f k).2.2
    show (popN l f k).1 * 256 + (oneV (popN l f k).2.1 (popN l f k).2.2).toNat < 256 ^ (k + 1)
    rw [Nat.pow_succ]
    omega
theorem popN_ok (l : List Int) : ∀ k, k ≤ l.length → popN l false k = (N8 (l.take k), l.drop k, false) := by
  intro k
  induction k with
  | zero => intro _; simp [popN, N8]
  | succ k ih =>
    intro hk
    have ih := ih (by omega)
    have hd : l.drop k = el l k :: l.drop (k + 1) := by
      rw [List.drop_eq_getElem_cons (by omega)]
      congr 1
      simp [el, List.getD, List.getElem?_eq_getElem (show k < l.length by omega)]
    show ((popN l false k).1 * 256 + (oneV (popN l false k).2.1 (popN l false k).2.2).toNat, oneL (popN l false k).2.1 (popN l false k).2.2, oneF (popN l false k).2.1 (popN l false k).2.2) = _
    rw [ih]
    simp only
    rw [hd, N8_snoc (by omega)]
    simp [oneV, oneL, oneF]
theorem popN_bad (l : List Int) (f : Bool) : ∀ k, (f = true ∨ l.length < k) → (popN l f k).2.2 = true := by
  intro k
  induction k with
  | zero => intro h; rcases h with h | h; exact h; omega
  | succ k ih =>
    intro h
    show oneF (popN l f k).2.1 (popN l f k).2.2 = true
    by_cases h2 : f = true ∨ l.length < k
    · rw [ih h2]; rfl
    · have hf : f = false := by cases f; rfl; exact absurd (.inl rfl) h2
      have hk : l.length = k := by rcases h with h | h; exact absurd (.inl h) h2; omega
      subst hf
      rw [popN_ok l k (by omega), ← hk, List.drop_length]
      rfl
set_option maxRecDepth 100000 in
set_option maxHeartbeats 4000000 in
theorem rd_number (RB : Nat) (X : List Nat) (l : List Int) (f : Bool) (w : World) (h : RdS w RB X l f) (hb : Bytes l) :
    Calls Try.prog 37 #[.pointer (some ⟨RB, 0, none⟩)] w fun e w' => e = .returned (.int .i64 (IntKind.i64.wrap ((popN l f 8).1 : Int))) ∧ RdS w' RB X (popN l f 8).2.1 (popN l f 8).2.2 ∧ FarB RB w w' := by
  have HH := Lib.hid h
  clear h
  go_enter Try.func37, Try.ntmps37
  go_wp2
  go_loopw [3, 4] (fun x i wr => ∃ k : Nat, k ≤ 8 ∧ i = .int .i64 k ∧ x = .int .i64 (IntKind.i64.wrap ((popN l f k).1 : Int)) ∧ RdS wr RB X (popN l f k).2.1 (popN l f k).2.2 ∧ FarB RB w wr) (fun _ i _ => 8 - (intOf i).toNat)
  case atStart => exact ⟨0, by omega, rfl, by simp [popN, IntKind.wrap_i64], HH.out, FarB.refl _ _⟩
  case round =>
    obtain ⟨k, hk, rfl, rfl, hR, hF⟩ := hrel
    by_cases hlt : k < 8
    · have hn := popN_lt hb f k
      have hp : 256 ^ k ≤ 256 ^ 7 := Nat.pow_le_pow_right (by omega) (by omega)
      have hc := oneV_bd (popN_B hb f k) (popN l f k).2.2
      have HN := Lib.hid (show popN l f (k + 1) = ((popN l f k).1 * 256 + (oneV (popN l f k).2.1 (popN l f k).2.2).toNat, oneL (popN l f k).2.1 (popN l f k).2.2, oneF (popN l f k).2.1 (popN l f k).2.2) from rfl)
      have C1 := Lib.hid (rd_one RB X (popN l f k).2.1 (popN l f k).2.2 wr hR)
      obtain ⟨n, en⟩ : ∃ n, (popN l f k).1 = n := ⟨_, rfl⟩
      obtain ⟨c, ec⟩ : ∃ c : Nat, oneV (popN l f k).2.1 (popN l f k).2.2 = c := ⟨(oneV (popN l f k).2.1 (popN l f k).2.2).toNat, by omega⟩
      rw [en, ec, Int.toNat_natCast] at HN
      rw [ec] at C1 hc
      rw [en] at hn ⊢
      have hwn : IntKind.i64.wrap (n : Int) = n := by rw [IntKind.wrap_i64]; omega
      rw [hwn]
      have hor := or_wrap n c (by omega) (by omega)
      have HO := Lib.hid hor
      have hd : decide ((k : Int) < 8) = true := decide_eq_true (by omega)
      have HF := Lib.hid hF
      clear hwn hor hn hp en ec hR hF
      go_wp2_with (go_at_call 39; (with_reducible refine (C1.out).mono ?_); rintro e w1 ⟨rfl, hR1, hF1⟩; have HR1 := Lib.hid hR1; have HF1 := Lib.hid hF1; clear hR1 hF1)
      go_roundw
      case rel => exact ⟨k + 1, by omega, by push_cast; rfl, by rw [HN.out, ← HO.out, w64], by rw [HN.out]; exact HR1.out, HF.out.trans HF1.out⟩
      case measure => simp [intOf] <;> omega
    · obtain rfl : k = 8 := by omega
      obtain ⟨z, hz⟩ : ∃ z, IntKind.i64.wrap ((popN l f 8).1 : Int) = z := ⟨_, rfl⟩
      have HZ := Lib.hid hz
      rw [hz]
      clear hz
      go_wp2
      go_ret
      exact ⟨by rw [HZ.out]; rfl, hR, hF⟩
theorem flags_val (v : Int) (h : 0 ≤ v ∧ v ≤ 7) : ∃ o : On, onI o = v ∧ bits .and .i64 v 1 = (if o.a then 1 else 0) ∧ bits .and .i64 v 2 = (if o.b then 2 else 0) ∧ bits .and .i64 v 4 = (if o.c then 4 else 0) := by
  have h8 : v = 0 ∨ v = 1 ∨ v = 2 ∨ v = 3 ∨ v = 4 ∨ v = 5 ∨ v = 6 ∨ v = 7 := by omega
  rcases h8 with rfl | rfl | rfl | rfl | rfl | rfl | rfl | rfl
  · exact ⟨⟨false, false, false⟩, by decide, by decide, by decide, by decide⟩
  · exact ⟨⟨true, false, false⟩, by decide, by decide, by decide, by decide⟩
  · exact ⟨⟨false, true, false⟩, by decide, by decide, by decide, by decide⟩
  · exact ⟨⟨true, true, false⟩, by decide, by decide, by decide, by decide⟩
  · exact ⟨⟨false, false, true⟩, by decide, by decide, by decide, by decide⟩
  · exact ⟨⟨true, false, true⟩, by decide, by decide, by decide, by decide⟩
  · exact ⟨⟨false, true, true⟩, by decide, by decide, by decide, by decide⟩
  · exact ⟨⟨true, true, true⟩, by decide, by decide, by decide, by decide⟩
/-- What flags answers. -/
def FlagP (RB : Nat) (X : List Nat) (l : List Int) (f : Bool) (w : World) (e : Ending) (w' : World) : Prop :=
  ∃ o : On, e = .returned (.agg #[.bool o.a, .bool o.b, .bool o.c]) ∧ (oneV l f ≤ 7 → onI o = oneV l f) ∧ RdS w' RB X (oneL l f) (oneF l f || decide (7 < oneV l f)) ∧ FarB RB w w'
theorem flag_ret (W : World) (R : Nat) (tm : Array Value) (x y z : Bool) (Q : Ending → World → Prop) (h2 : tm.getD 2 undef = .pointer (some ⟨R, 0, none⟩)) (hb : Blk W R [.bool x, .bool y, .bool z] 23) (hR : Q (.returned (.agg #[.bool x, .bool y, .bool z])) W) :
    bodyPost Try.prog Try.f38 Q Exit.ret { tmps := tm, defers := [] } W := by
  have c0 := hb.cell (j := 0) rfl
  have c1 := hb.cell (j := 1) rfl
  have c2 := hb.cell (j := 2) rfl
  refine bodyPost_ret (v := .agg #[.bool x, .bool y, .bool z]) ?_ rfl hR
  simp only [Array.getD_eq_getD_getElem?] at h2
  simp [results, Try.results38, go_sem, h2, c0, c1, c2]
set_option maxRecDepth 100000 in
set_option maxHeartbeats 4000000 in
theorem rd_flags (RB : Nat) (X : List Nat) (l : List Int) (f : Bool) (w : World) (h : RdS w RB X l f) (hb : Bytes l) (hRB : RB < w.heap.size) :
    Calls Try.prog 38 #[.pointer (some ⟨RB, 0, none⟩)] w fun e w' => FlagP RB X l f w e w' := by
  have hv := oneV_bd hb f
  have hz := Blk.new w [.bool false, .bool false, .bool false] 23
  have hbA : Below w.heap.size w (w.alloc (.cells #[.bool false, .bool false, .bool false] 23)) := belAlloc (Below.refl _ _) _
  have C1 := Lib.hid (rd_one RB (w.heap.size :: X) l f _ ((h.more (Nat.le_refl _)).later hbA))
  have HA := Lib.hid hbA
  have HZ := Lib.hid (show Blk (w.alloc (.cells #[.bool false, .bool false, .bool false] 23)) w.heap.size [.bool false, .bool false, .bool false] 23 from hz)
  clear h hz hbA
  unfold FlagP
  obtain ⟨v, ev⟩ : ∃ v, oneV l f = v := ⟨_, rfl⟩
  rw [ev] at C1 hv ⊢
  clear ev
  go_enter Try.func38, Try.ntmps38
  go_upto_region 2 with (go_at_call 39; (with_reducible refine (C1.out).mono ?_); rintro e w1 ⟨rfl, hR1, hF1⟩; have HR1 := Lib.hid hR1; have HF1 := Lib.hid hF1; clear hR1 hF1)
  have hne : w.heap.size ≠ RB := by omega
  have hin : w.heap.size ∈ w.heap.size :: X := List.mem_cons_self
  have HB1 := Lib.hid (HF1.out.blk HZ.out hne)
  have HFA := Lib.hid ((FarB.of_below (RB := RB) HA.out).trans HF1.out)
  have hu1 : 0 ≤ v := hv.1
  by_cases h7 : 7 < v
  · have hd : decide ((7 : Int) < v) = true := decide_eq_true h7
    obtain ⟨a1, n1, c1, hq1, _⟩ := HR1.out.ex
    have x1 := hq1.cell (j := 1) rfl
    have xf := hq1.frozen
    obtain ⟨y1, hy1⟩ : ∃ y, bits .and .i64 v 1 = y := ⟨_, rfl⟩
    obtain ⟨y2, hy2⟩ : ∃ y, bits .and .i64 v 2 = y := ⟨_, rfl⟩
    obtain ⟨y4, hy4⟩ : ∃ y, bits .and .i64 v 4 = y := ⟨_, rfl⟩
    have hB2 := HB1.out.far (a := ⟨RB, 1, none⟩) (show RB ≠ w.heap.size by omega) (.bool true)
    have z0 := hB2.cell (j := 0) rfl
    have z1 := hB2.cell (j := 1) rfl
    have z2 := hB2.cell (j := 2) rfl
    have zf := hB2.frozen
    have HB2 := Lib.hid hB2
    have HR2 := Lib.hid HR1.out.fail
    have HF2 := Lib.hid (HFA.out.set 1 (.bool true))
    clear hq1 hB2
    go_wp2
    refine flag_ret _ w.heap.size _ (y1 != 0) (y2 != 0) (y4 != 0) _ rfl (((HB2.out.set 0 _).set 1 _).set 2 _) ⟨⟨y1 != 0, y2 != 0, y4 != 0⟩, rfl, fun h => absurd h (by omega), ?_, ((HF2.out.setNew (Nat.le_refl _) 0 _).setNew (Nat.le_refl _) 1 _).setNew (Nat.le_refl _) 2 _⟩
    rw [hd, Bool.or_true]
    exact (((HR2.out.far hin hne 0 _).far hin hne 1 _).far hin hne 2 _).less
  · have hd : decide ((7 : Int) < v) = false := decide_eq_false h7
    obtain ⟨o, ho, hy1, hy2, hy4⟩ := flags_val v (by omega)
    have HON := Lib.hid ho
    obtain ⟨oa, hoa⟩ : ∃ b, o.a = b := ⟨_, rfl⟩
    obtain ⟨ob, hob⟩ : ∃ b, o.b = b := ⟨_, rfl⟩
    obtain ⟨oc, hoc⟩ : ∃ b, o.c = b := ⟨_, rfl⟩
    rw [hoa] at hy1
    rw [hob] at hy2
    rw [hoc] at hy4
    have HOA := Lib.hid (⟨hoa, hob, hoc⟩ : o.a = oa ∧ o.b = ob ∧ o.c = oc)
    have z0 := HB1.out.cell (j := 0) rfl
    have z1 := HB1.out.cell (j := 1) rfl
    have z2 := HB1.out.cell (j := 2) rfl
    have zf := HB1.out.frozen
    clear ho hoa hob hoc
    rcases oa with _ | _ <;> rcases ob with _ | _ <;> rcases oc with _ | _
    all_goals
      simp only [if_true, if_false, Bool.false_eq_true] at hy1 hy2 hy4
      go_wp2
      refine flag_ret _ w.heap.size _ _ _ _ _ rfl (((HB1.out.set 0 _).set 1 _).set 2 _) ⟨o, by rw [HOA.out.1, HOA.out.2.1, HOA.out.2.2], by first | exact HON.out | exact fun h => HON.out, ?_, ((HFA.out.setNew (Nat.le_refl _) 0 _).setNew (Nat.le_refl _) 1 _).setNew (Nat.le_refl _) 2 _⟩
      try rw [hd, Bool.or_false]
      exact (((HR1.out.far hin hne 0 _).far hin hne 1 _).far hin hne 2 _).less
end Go.Proofs.Ytpmkhimmlpnbpaa
