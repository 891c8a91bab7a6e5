
/- A right threshold that is printed is read as it was; thresh.Right, thresh.Print and the reference's Print: contracts. -/
import Derived.Test.YtcaenbobfneejaaGreatDoorThrR
import Derived.Test.YtcaenbobfneejaaGreatDoorThr5
namespace Go.Proofs.YtcaenbobfneejaaGreatDoor
open Go.RowKit
set_option linter.unusedVariables false
set_option linter.unusedSimpArgs false
open Go.Lib (decDigits)
/-- An amount's text. -/
theorem pr_parts6 (n : Int) (h : n ≤ 9223372036854775807) (h1 : 1 ≤ n) : ∃ (u : Nat) (r : List UInt8), (prAll n).toList = decDigits u ++ r ∧ (r = [] ∨ ∃ k, k < 8 ∧ r = nmL k) ∧ unitL r ≠ 0 ∧ satMul (u : Int) (unitL r) = n ∧ u ≤ 9223372036854775807 := by
  have h0 : ¬ n ≤ 0 := by omega
  obtain ⟨q1, q2, q3, q4⟩ := nmO_unit n 8 (by omega)
  have hq : 0 ≤ n / uO (bf n 8) := Int.ediv_nonneg (by omega) (by omega)
  have hle := Int.ediv_le_self (uO (bf n 8)) (show 0 ≤ n by omega)
  have hmul : n / uO (bf n 8) * uO (bf n 8) = n := Int.ediv_mul_cancel (Int.dvd_of_emod_eq_zero q4)
  have hne : unitL (nmO (bf n 8)).toList ≠ 0 := by rw [q1]; omega
  refine ⟨(n / uO (bf n 8)).toNat, (nmO (bf n 8)).toList, ?_, unit_some hne, hne, ?_, by omega⟩
  · unfold prAll prB; rw [if_neg h0, app_l, ddB_list]
  · rw [q1, Int.toNat_of_nonneg hq]
    unfold satMul
    rw [Int.max_eq_left hq, Int.max_eq_left (show (0 : Int) ≤ uO (bf n 8) by omega), hmul]; omega
theorem pr_read (n : Int) (h : n ≤ 9223372036854775807) (h1 : 1 ≤ n) : qOk (prAll n).toList = true ∧ qNum (prAll n).toList = n := by
  obtain ⟨u, r, e1, e2, e3, e4, e5⟩ := pr_parts6 n h h1
  rw [e1]
  obtain ⟨o1, o2⟩ := q_of (dd_dg u) (dd_pos u) e3
  exact ⟨o1, by rw [o2, dgn_dd u e5, e4]⟩
theorem pr_no (n : Int) (h : n ≤ 9223372036854775807) (h1 : 1 ≤ n) (c : UInt8) (hc : isDg c = false) (hn : ∀ k, k < 8 → c ∉ nmL k) : c ∉ (prAll n).toList := by
  obtain ⟨u, r, e1, e2, _⟩ := pr_parts6 n h h1
  rw [e1]
  intro q
  rcases List.mem_append.1 q with q | q
  · exact dd_no u c hc q
  · rcases e2 with rfl | ⟨k, hk, rfl⟩
    · cases q
    · exact hn k hk q
theorem pr_size6 (n : Int) (h : n ≤ 9223372036854775807) (h1 : 1 ≤ n) : (prAll n).size ≤ 23 := by
  unfold prAll
  rw [if_neg (by omega)]
  unfold prB
  rw [← sl_len, app_l, List.length_append, sl_len, sl_len]
  have h1 := nmO_size (bf n 8)
  obtain ⟨q1, q2, q3, q4⟩ := nmO_unit n 8 (by omega)
  have hle := Int.ediv_le_self (uO (bf n 8)) (show 0 ≤ n by omega)
  have h2 := ddB_size (n / uO (bf n 8)).toNat (by omega)
  omega
theorem nm_no (c : UInt8) (h : c = 58 ∨ c = 37) : ∀ k, k < 8 → c ∉ nmL k := by
  have h8 : ∀ c ∈ ([58, 37] : List UInt8), ∀ k ∈ List.range 8, c ∉ nmL k := by decide
  intro k hk
  exact h8 c (by rcases h with rfl | rfl <;> simp) k (List.mem_range.2 hk)
/-- The middle of a threshold's text, and its end. -/
def midL (t : ThrV) : List UInt8 := if 0 < t.pct then decDigits t.pct.toNat ++ [37] else (prAll t.amt).toList
def endL (t : ThrV) : List UInt8 := if t.soft then 58 :: decDigits t.grace.toNat else []
theorem prThr_list (t : ThrV) : (prThr t).toList = (wB t.sig).toList ++ 60 :: (midL t ++ endL t) := by
  unfold prThr midL endL
  rw [app_l, app_l, app_l]
  have e1 : (if 0 < t.pct then ddB t.pct.toNat ++ (⟨#[37]⟩ : ByteArray) else prAll t.amt).toList = if 0 < t.pct then decDigits t.pct.toNat ++ [37] else (prAll t.amt).toList := by
    split
    · rw [app_l, ddB_list, sl]
    · rfl
  have e2 : (if t.soft then (⟨#[58]⟩ : ByteArray) ++ ddB t.grace.toNat else ⟨#[]⟩).toList = if t.soft then 58 :: decDigits t.grace.toNat else [] := by
    split
    · rw [app_l, ddB_list, sl]; rfl
    · rw [sl]
  rw [e1, e2, show (⟨#[60]⟩ : ByteArray).toList = [60] by rw [sl], List.append_assoc, List.append_assoc]; rfl
theorem right_parts {t : ThrV} (h : t.right = true) : (0 ≤ t.sig ∧ t.sig ≤ 2) ∧ ((1 ≤ t.pct ∧ t.pct ≤ 100 ∧ t.amt = 0) ∨ (t.pct = 0 ∧ 0 < t.amt)) ∧ ((t.soft = true ∧ 1 ≤ t.grace ∧ t.grace ≤ 1000) ∨ (t.soft = false ∧ t.grace = 0)) := by
  unfold ThrV.right at h
  simp only [Bool.and_eq_true, Bool.or_eq_true, decide_eq_true_eq, beq_iff_eq] at h
  obtain ⟨⟨⟨h1, h2⟩, h3⟩, h4⟩ := h
  refine ⟨⟨h1, h2⟩, by omega, ?_⟩
  cases hs : t.soft with
  | true => rw [hs] at h4; simp at h4; exact .inl ⟨rfl, h4⟩
  | false => rw [hs] at h4; simp at h4; exact .inr ⟨rfl, h4⟩
theorem mid_lim {t : ThrV} (h : t.right = true) (ha : t.amt ≤ 9223372036854775807) : limF (midL t) = some (t.pct, t.amt) ∧ 58 ∉ midL t := by
  obtain ⟨_, h2, _⟩ := right_parts h
  unfold midL
  rcases h2 with ⟨p1, p2, p3⟩ | ⟨p1, p2⟩
  · rw [if_pos (by omega)]
    have hu : (t.pct.toNat : Int) = t.pct := Int.toNat_of_nonneg (by omega)
    refine ⟨?_, no58 _⟩
    rw [limF_pct _ (dd_no _ 37 (by decide)), dgv_dd t.pct.toNat 100 (by omega) (by omega), hu, if_pos ⟨p1, p2⟩, p3]; rfl
  · rw [if_neg (by omega)]
    refine ⟨?_, pr_no t.amt ha (by omega) 58 (by decide) (nm_no 58 (.inl rfl))⟩
    obtain ⟨o1, o2⟩ := pr_read t.amt ha (by omega)
    unfold limF
    rw [cutC_no 37 _ (pr_no t.amt ha (by omega) 37 (by decide) (nm_no 37 (.inr rfl)))]
    simp only [Bool.false_eq_true, if_false]
    rw [o1, o2, if_pos ⟨rfl, p2⟩, p1]
theorem read_right {t : ThrV} (h : t.right = true) (ha : t.amt ≤ 9223372036854775807) : thF (prThr t).toList = some t := by
  obtain ⟨h1, _, h3⟩ := right_parts h
  obtain ⟨m1, m2⟩ := mid_lim h ha
  obtain ⟨k, hk, hk3⟩ : ∃ k : Nat, t.sig = (k : Int) ∧ k < 3 := ⟨t.sig.toNat, by omega, by omega⟩
  obtain ⟨w1, w2, _⟩ := word_facts k hk3
  rw [prThr_list, hk, thF_of _ _ k w1 w2]
  unfold endL
  rcases h3 with ⟨s1, s2, s3⟩ | ⟨s1, s2⟩
  · rw [s1]
    simp only [if_true]
    rw [cutC_app 58 _ _ m2]
    simp only
    unfold grF
    rw [m1, if_pos rfl, dgv_dd t.grace.toNat 1000 (by omega) (by omega), Int.toNat_of_nonneg (by omega), if_pos ⟨s2, s3⟩]
    cases t; simp only at *; subst hk; subst s1; rfl
  · rw [s1]
    simp only [Bool.false_eq_true, if_false, List.append_nil]
    rw [cutC_no 58 _ m2]
    simp only
    unfold grF
    rw [m1, if_neg (by simp)]
    cases t; simp only at *; subst hk; subst s1; subst s2; rfl
theorem read_is_right {l : List UInt8} {t : ThrV} (h : thF l = some t) : t.right = true := by
  rw [← th_eq] at h
  unfold thR at h
  cases hc : (cutC 60 l).2.2 with
  | false => rw [hc] at h; simp at h
  | true =>
    rw [hc, if_pos rfl] at h
    cases hl : limR (cutC 58 (cutC 60 l).2.1).1 with
    | none => rw [hl] at h; cases h
    | some pa =>
      obtain ⟨p, a⟩ := pa
      rw [hl] at h
      simp only at h
      generalize hu : (⟨(sigF (cutC 60 l).1).getD (-1), p, a, (cutC 58 (cutC 60 l).2.1).2.2, if (cutC 58 (cutC 60 l).2.1).2.2 then numR (cutC 58 (cutC 60 l).2.1).2.1 else 0⟩ : ThrV) = u at h
      by_cases hr : u.right = true
      · rw [if_pos hr] at h
        simp only [Option.some.injEq] at h
        rw [← h]; exact hr
      · rw [if_neg hr] at h; cases h
theorem prThr_size {t : ThrV} (h : t.right = true) (ha : t.amt ≤ 9223372036854775807) : (prThr t).size ≤ 1000 := by
  obtain ⟨h1, h2, h3⟩ := right_parts h
  obtain ⟨k, hk, hk3⟩ : ∃ k : Nat, t.sig = (k : Int) ∧ k < 3 := ⟨t.sig.toNat, by omega, by omega⟩
  obtain ⟨_, _, w3⟩ := word_facts k hk3
  have hm : (midL t).length ≤ 30 := by
    unfold midL
    rcases h2 with ⟨p1, p2, p3⟩ | ⟨p1, p2⟩
    · rw [if_pos (by omega), List.length_append]
      have := ddB_size t.pct.toNat (by omega)
      rw [← sl_len, ddB_list] at this
      simp only [List.length_cons, List.length_nil]; omega
    · rw [if_neg (by omega), sl_len]
      have := pr_size6 t.amt ha (by omega)
      omega
  have he : (endL t).length ≤ 30 := by
    unfold endL
    split
    · rw [List.length_cons]
      have := ddB_size t.grace.toNat (by omega)
      rw [← sl_len, ddB_list] at this
      omega
    · simp
  rw [← sl_len, prThr_list, List.length_append, List.length_cons, List.length_append, sl_len, hk]
  omega
end Go.Proofs.YtcaenbobfneejaaGreatDoor
