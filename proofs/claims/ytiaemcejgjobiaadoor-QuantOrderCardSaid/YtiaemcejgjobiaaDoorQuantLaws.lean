/- Quantities: what is read of digits with a unit, or with a byte that is none. -/
import Derived.Test.YtiaemcejgjobiaaDoorQuantCard
namespace Go.Proofs.YtiaemcejgjobiaaDoor
open Go.RowKit
set_option linter.unusedVariables false
set_option linter.unusedSimpArgs false

theorem app_list (a b : ByteArray) : (a ++ b).toList = a.toList ++ b.toList := by
  rw [sl, sl, sl, ByteArray.data_append]; simp
theorem app_size (a b : ByteArray) : (a ++ b).size = a.size + b.size := by
  rw [← sl_len, app_list, List.length_append, sl_len, sl_len]
/-- Digits with a unit behind them. -/
theorem read_dd (u : Nat) (h : u ≤ 9223372036854775807) (k : Nat) (hk : k < 8) (v : World) : Calls Tryd.prog 13 #[.string (ddB u ++ nmB k)] v fun e w' => e = .returned (.tuple #[.int .i64 (satMul u (unitP k)), .int .i64 0]) ∧ Below v.heap.size v w' := by
  have hb := unitP_bd k hk
  have h1 := ddB_size u h
  have h2 := nmB_size k
  have hr := quant_Read (ddB u ++ nmB k) v (by unfold maxLen; rw [app_size]; omega)
  obtain ⟨o1, o2⟩ := q_of (d := Lib.decDigits u) (r := nmL k) (dd_dg u) (dd_pos u) (by rw [unit_name hk]; omega)
  rw [dgn_dd u h, unit_name hk] at o2
  unfold qN qE at hr
  rw [app_list, ddB_list, nmB_list, o1, o2] at hr
  exact hr
theorem read_d (u : Nat) (h : u ≤ 9223372036854775807) (v : World) : Calls Tryd.prog 13 #[.string (ddB u)] v fun e w' => e = .returned (.tuple #[.int .i64 u, .int .i64 0]) ∧ Below v.heap.size v w' := by
  have h1 := ddB_size u h
  have hr := quant_Read (ddB u) v (by unfold maxLen; omega)
  obtain ⟨o1, o2⟩ := q_of (d := Lib.decDigits u) (r := []) (dd_dg u) (dd_pos u) (by decide)
  rw [dgn_dd u h] at o2
  have e : satMul (u : Int) (unitL []) = u := by
    show min (max (u : Int) 0 * max (1 : Int) 0) 9223372036854775807 = u
    rw [Int.max_eq_left (show (0 : Int) ≤ u by omega), show max (1 : Int) 0 = 1 from rfl, Int.mul_one]; omega
  rw [e] at o2
  unfold qN qE at hr
  rw [ddB_list, ← List.append_nil (Lib.decDigits u), o1, o2] at hr
  exact hr
theorem unitP_down {k : Nat} (h : k + 1 < 8) : unitP (k + 1) < unitP k := by
  rcases (show k = 0 ∨ k = 1 ∨ k = 2 ∨ k = 3 ∨ k = 4 ∨ k = 5 ∨ k = 6 by omega) with rfl | rfl | rfl | rfl | rfl | rfl | rfl <;> decide
theorem satMul_le (a b c : Int) (ha : 0 ≤ a) (hb : 0 ≤ b) (h : b ≤ c) : satMul a b ≤ satMul a c := by
  unfold satMul
  rw [Int.max_eq_left ha, Int.max_eq_left hb, Int.max_eq_left (show 0 ≤ c by omega)]
  have := Int.mul_le_mul_of_nonneg_left h ha
  omega
theorem unitP_top (k : Nat) (h : k < 8) : unitP k ≤ unitP 0 := by
  have := unitP_bd k h
  show unitP k ≤ 1099511627776
  omega

theorem satMul_le2 (a b c : Int) (ha : 0 ≤ a) (hb : 0 ≤ c) (h : a ≤ b) : satMul a c ≤ satMul b c := by
  unfold satMul
  rw [Int.max_eq_left ha, Int.max_eq_left hb, Int.max_eq_left (show 0 ≤ b by omega)]
  have := Int.mul_le_mul_of_nonneg_right h hb
  omega
theorem unitP_anti {i j : Nat} (h : i ≤ j) (hj : j < 8) : unitP j ≤ unitP i := by
  induction j with
  | zero => obtain rfl : i = 0 := by omega
            exact Int.le_refl _
  | succ j ih =>
    rcases Nat.eq_or_lt_of_le h with rfl | h2
    · exact Int.le_refl _
    · have h3 := ih (by omega) (by omega)
      have := unitP_down (k := j) hj
      omega
theorem read_ddd (u dn : Nat) (h : u ≤ 4294967295) (hd : dn < 10) (k : Nat) (hk : k < 8) (v : World) : Calls Tryd.prog 13 #[.string (ddB u ++ ddB dn ++ nmB k)] v fun e w' => e = .returned (.tuple #[.int .i64 (satMul ((10 * u + dn : Nat) : Int) (unitP k)), .int .i64 0]) ∧ Below v.heap.size v w' := by
  have hb := unitP_bd k hk
  have h1 := ddB_size u (by omega)
  have h1' := ddB_size dn (by omega)
  have h2 := nmB_size k
  have hr := quant_Read (ddB u ++ ddB dn ++ nmB k) v (by unfold maxLen; rw [app_size, app_size]; omega)
  have hall : ∀ c ∈ Lib.decDigits u ++ Lib.decDigits dn, isDg c = true := fun c hc => by
    rcases List.mem_append.1 hc with hc | hc
    · exact dd_dg u c hc
    · exact dd_dg dn c hc
  have hne : Lib.decDigits u ++ Lib.decDigits dn ≠ [] := fun e => dd_pos u (List.append_eq_nil_iff.1 e).1
  obtain ⟨o1, o2⟩ := q_of (d := Lib.decDigits u ++ Lib.decDigits dn) (r := nmL k) hall hne (by rw [unit_name hk]; omega)
  have e : dgn (Lib.decDigits u ++ Lib.decDigits dn) = ((10 * u + dn : Nat) : Int) := by
    rw [dd_small hd, dgn_snoc, dgn_dd u (by omega), dgStep_nat u dn hd (by omega)]
  rw [e, unit_name hk] at o2
  unfold qN qE at hr
  rw [app_list, app_list, ddB_list, ddB_list, nmB_list, o1, o2] at hr
  exact hr
/-- A byte that is neither digit nor letter. -/
def odd (c : Int) : Prop := 0 ≤ c ∧ c ≤ 255 ∧ (c < 48 ∨ 57 < c) ∧ (c < 65 ∨ 90 < c) ∧ (c < 97 ∨ 122 < c)
theorem read_odd (u : Nat) (h : u ≤ 4294967295) (c : Int) (hc : odd c) (k : Nat) (hk : k ≤ (ddB u).size) (v : World) : Calls Tryd.prog 13 #[.string ((ddB u).extract 0 k ++ strOfNums [c] ++ (ddB u).extract k (ddB u).size)] v fun e w' => e = .returned (.tuple #[.int .i64 0, .int .i64 2]) ∧ Below v.heap.size v w' := by
  obtain ⟨c1, c2, c3, c4, c5⟩ := hc
  have h1 := ddB_size u (by omega)
  have hs : ((ddB u).extract 0 k ++ strOfNums [c] ++ (ddB u).extract k (ddB u).size).toList = (Lib.decDigits u).take k ++ ([UInt8.ofNat c.toNat] ++ (Lib.decDigits u).drop k) := by
    rw [app_list, app_list, sl_take, sl_drop, ddB_list, Lib.strOfNums_toList]
    simp [Lib.bytesOf]
  have hl := congrArg List.length hs
  rw [sl_len] at hl
  have hlen : (Lib.decDigits u).length = (ddB u).size := by rw [← ddB_list, sl_len]
  simp only [List.length_append, List.length_take, List.length_drop, List.length_singleton] at hl
  have hr := quant_Read ((ddB u).extract 0 k ++ strOfNums [c] ++ (ddB u).extract k (ddB u).size) v (by unfold maxLen; omega)
  have hb : (UInt8.ofNat c.toNat).toNat = c.toNat := by simp; omega
  have hnd : ∀ c' q, ([UInt8.ofNat c.toNat] ++ (Lib.decDigits u).drop k) = c' :: q → isDg c' = false := by
    intro c' q e
    simp only [List.cons_append, List.nil_append, List.cons.injEq] at e
    rw [← e.1]
    unfold isDg; rw [hb]
    rcases c3 with c3 | c3 <;> simp <;> omega
  obtain ⟨e1, e2, e3⟩ := dgs_app (d := (Lib.decDigits u).take k) (r := [UInt8.ofNat c.toNat] ++ (Lib.decDigits u).drop k) (fun x hx => dd_dg u x (List.mem_of_mem_take hx)) hnd
  have hu : unitL ([UInt8.ofNat c.toNat] ++ (Lib.decDigits u).drop k) = 0 := by
    rcases Int.decEq (unitL ([UInt8.ofNat c.toNat] ++ (Lib.decDigits u).drop k)) 0 with q | q
    · exfalso
      rcases unit_some q with e | ⟨j, hj, e⟩
      · simp at e
      · have e0 : (nmL j).head? = some (UInt8.ofNat c.toNat) := by rw [← e]; rfl
        have hx : ∀ x : UInt8, (nmL j).head? = some x → x.toNat = 84 ∨ x.toNat = 71 ∨ x.toNat = 77 ∨ x.toNat = 75 ∨ x.toNat = 107 := fun x hx => by
          rcases (show j = 0 ∨ j = 1 ∨ j = 2 ∨ j = 3 ∨ j = 4 ∨ j = 5 ∨ j = 6 ∨ j = 7 by omega) with rfl | rfl | rfl | rfl | rfl | rfl | rfl | rfl <;> (simp only [nmL, List.head?_cons, Option.some.injEq] at hx; subst hx; decide)
        have := hx _ e0
        rw [hb] at this
        omega
    · exact q
  have ho : qOk ((Lib.decDigits u).take k ++ ([UInt8.ofNat c.toNat] ++ (Lib.decDigits u).drop k)) = false := by
    unfold qOk; rw [e3, hu]; simp
  unfold qN qE at hr
  rw [hs, ho] at hr
  exact hr
end Go.Proofs.YtiaemcejgjobiaaDoor
