
/- Contracts of package wide and of its reference, each by one plain function. -/
import Derived.Test.YtdmnogljdkncpaaDoorBase
namespace Go.Proofs.YtdmnogljdkncpaaDoor
open Go.RowKit
set_option linter.unusedVariables false

def cmpI (x y : Int) : Int := if x < y then -1 else if y < x then 1 else 0
theorem cmpI_bd (x y : Int) : -1 ≤ cmpI x y ∧ cmpI x y ≤ 1 := by unfold cmpI; split <;> (try split) <;> omega

set_option maxHeartbeats 400000 in
theorem wide_number (a : Int) (w : World) (h : InI a) :
    Calls Tryd.prog 35 #[.int .i64 a] w fun e w' => e = .returned (.int .u64 (satNum a)) ∧ w = w' := by
  obtain ⟨h0, h1⟩ := h
  go_enter Tryd.func35, Tryd.ntmps35
  go_wp2
  all_goals (go_ret; exact ⟨ret_u64 (by unfold satNum; omega), rfl⟩)


set_option maxHeartbeats 400000 in
theorem isNaN_u64 (a : Int) (w : World) :
    Calls Tryd.prog 61 #[.int .u64 a] w fun e w' => e = .returned (.bool false) ∧ w = w' := by
  go_enter Tryd.func61, Tryd.ntmps61
  go_wp2
  go_ret
  exact ⟨rfl, rfl⟩

set_option maxHeartbeats 400000 in
theorem compare_u64 (a b : Int) (w : World) :
    Calls Tryd.prog 45 #[.int .u64 a, .int .u64 b] w fun e w' => e = .returned (.int .i64 (cmpI a b)) ∧ w = w' := by
  go_enter Tryd.func45, Tryd.ntmps45
  go_wp2_with (go_at_call 61; refine (isNaN_u64 _ _).mono ?_; rintro e w' ⟨rfl, rfl⟩)
  all_goals (go_ret; exact ⟨ret_i64 (by unfold cmpI; split <;> (try split) <;> omega), rfl⟩)

theorem and32 (a : Int) (h0 : 0 ≤ a) (h1 : a ≤ 18446744073709551615) : bits .and .u64 a 4294967295 = a % 4294967296 :=
  bits_mask .u64 64 (Nat.le_refl _) (fun n h0 h1 => IntWalk.u64_in n ⟨h0, by omega⟩) 32 (by omega) a h0 (by omega)

theorem ret_2u64 {a b c d : Int} (h : a = c) (h' : b = d) : Ending.returned (.tuple #[.int .u64 a, .int .u64 b]) = .returned (.tuple #[.int .u64 c, .int .u64 d]) := by rw [h, h']

theorem mul_split (a b : Int) (h0 : 0 ≤ a) (h1 : a ≤ 18446744073709551615) (k0 : 0 ≤ b) (k1 : b ≤ 18446744073709551615) :
    ∃ p q r s : Int, a / 4294967296 * (b / 4294967296) = p ∧ a / 4294967296 * (b % 4294967296) = q ∧ a % 4294967296 * (b / 4294967296) = r ∧ a % 4294967296 * (b % 4294967296) = s ∧
      0 ≤ p ∧ p ≤ 18446744065119617025 ∧ 0 ≤ q ∧ q ≤ 18446744065119617025 ∧ 0 ≤ r ∧ r ≤ 18446744065119617025 ∧ 0 ≤ s ∧ s ≤ 18446744065119617025 ∧
      a * b = p * 18446744073709551616 + (q + r) * 4294967296 + s := by
  have bd : ∀ x y : Int, 0 ≤ x → x ≤ 4294967295 → 0 ≤ y → y ≤ 4294967295 → 0 ≤ x * y ∧ x * y ≤ 18446744065119617025 := fun x y hx hx' hy hy' =>
    ⟨Int.mul_nonneg hx hy, by have := Int.mul_le_mul hx' hy' hy (by omega); omega⟩
  have a1 := bd (a / 4294967296) (b / 4294967296) (by omega) (by omega) (by omega) (by omega)
  have a2 := bd (a / 4294967296) (b % 4294967296) (by omega) (by omega) (by omega) (by omega)
  have a3 := bd (a % 4294967296) (b / 4294967296) (by omega) (by omega) (by omega) (by omega)
  have a4 := bd (a % 4294967296) (b % 4294967296) (by omega) (by omega) (by omega) (by omega)
  refine ⟨_, _, _, _, rfl, rfl, rfl, rfl, a1.1, a1.2, a2.1, a2.2, a3.1, a3.2, a4.1, a4.2, ?_⟩
  have ea : a = a / 4294967296 * 4294967296 + a % 4294967296 := by omega
  have eb : b = b / 4294967296 * 4294967296 + b % 4294967296 := by omega
  generalize a / 4294967296 = x at *
  generalize a % 4294967296 = y at *
  generalize b / 4294967296 = u at *
  generalize b % 4294967296 = v at *
  subst ea eb
  rw [Int.add_mul, Int.mul_add, Int.mul_add]
  rw [show x * 4294967296 * (u * 4294967296) = x * u * 18446744073709551616 by rw [Int.mul_assoc, Int.mul_left_comm 4294967296 u, ← Int.mul_assoc]; rfl]
  rw [show x * 4294967296 * v = x * v * 4294967296 by rw [Int.mul_assoc, Int.mul_comm 4294967296 v, ← Int.mul_assoc]]
  rw [show y * (u * 4294967296) = y * u * 4294967296 by rw [← Int.mul_assoc]]
  omega

set_option maxHeartbeats 400000 in
theorem mul64 (a b : Int) (w : World) (ha : 0 ≤ a ∧ a ≤ 18446744073709551615) (hb : 0 ≤ b ∧ b ≤ 18446744073709551615) :
    Calls Tryd.prog 34 #[.int .u64 a, .int .u64 b] w fun e w' => e = .returned (.tuple #[.int .u64 (a * b / 18446744073709551616), .int .u64 (a * b % 18446744073709551616)]) ∧ w = w' := by
  obtain ⟨a0, a1⟩ := ha
  obtain ⟨b0, b1⟩ := hb
  go_enter Tryd.func34, Tryd.ntmps34
  go_wp2
  go_ret2
  obtain ⟨p, q, r, s, e1, e2, e3, e4, p0, p1, q0, q1, r0, r1, s0, s1, e⟩ := mul_split a b a0 a1 b0 b1
  refine ⟨ret_2u64 ?_ ?_, rfl⟩
  · simp only [and32 a a0 a1, and32 b b0 b1, e1, e2, e3, e4]
    rw [and32 _ (by simp only [IntKind.wrap_u64]; omega) (by simp only [IntKind.wrap_u64]; omega), e]
    simp only [IntKind.wrap_u64]
    omega
  · simp only [IntKind.wrap_u64]

theorem lex_cmp (x y M : Int) (hM : 0 < M) : cmpI (x / M) (y / M) ≠ 0 → cmpI x y = cmpI (x / M) (y / M) := by
  intro h
  unfold cmpI at *
  have h1 : x / M < y / M → x < y := fun q => by
    have := Int.lt_of_lt_of_le q (Int.le_refl _)
    rcases Int.lt_or_le x y with r | r
    · exact r
    · have := Int.ediv_le_ediv hM r; omega
  have h2 : y / M < x / M → y < x := fun q => by
    rcases Int.lt_or_le y x with r | r
    · exact r
    · have := Int.ediv_le_ediv hM r; omega
  by_cases a : x / M < y / M
  · have := h1 a; simp [a, this]
  · by_cases b : y / M < x / M
    · have c := h2 b
      have : ¬ x < y := by omega
      simp [a, b, c, this]
    · simp [a, b] at h
theorem lex_cmp0 (x y M : Int) (hM : 0 < M) : cmpI (x / M) (y / M) = 0 → cmpI (x % M) (y % M) = cmpI x y := by
  intro h
  have e : x / M = y / M := by
    unfold cmpI at h
    split at h
    · omega
    · split at h <;> omega
  have ex := Int.mul_ediv_add_emod x M
  have ey := Int.mul_ediv_add_emod y M
  rw [e] at ex
  generalize M * (y / M) = z at *
  unfold cmpI
  have : (x % M < y % M) = (x < y) := by rw [eq_iff_iff]; omega
  have h2 : (y % M < x % M) = (y < x) := by rw [eq_iff_iff]; omega
  simp only [this, h2]

/-- A product of two numbers, in two words. -/
theorem prod_bd (a b : Int) (ha : 0 ≤ a ∧ a ≤ 9223372036854775807) (hb : 0 ≤ b ∧ b ≤ 9223372036854775807) :
    0 ≤ a * b / 18446744073709551616 ∧ a * b / 18446744073709551616 ≤ 18446744073709551615 ∧ 0 ≤ a * b % 18446744073709551616 ∧ a * b % 18446744073709551616 ≤ 18446744073709551615 := by
  have h0 := Int.mul_nonneg ha.1 hb.1
  have h1 := Int.mul_le_mul ha.2 hb.2 hb.1 (by omega)
  omega

def orL : List Int → Int
  | [] => 0
  | x :: r => if x = 0 then orL r else x
theorem orL_drop {l : List Int} {k : Nat} (h : k < l.length) : orL (l.drop k) = if el l k = 0 then orL (l.drop (k + 1)) else el l k := by
  rw [List.drop_eq_getElem_cons h]
  simp [orL, el, h]

set_option maxHeartbeats 400000 in
theorem or_int (a : Option Addr) (len cap : Nat) (l : List Int) (w : World) (hr : Ints .i64 w a len cap l) :
    Calls Tryd.prog 44 #[.slice a len cap] w fun e w' => e = .returned (.int .i64 (orL l)) ∧ w = w' := by
  obtain ⟨rfl, hl, hm⟩ := hr.bounds
  go_enter Tryd.func44, Tryd.ntmps44
  go_wp2
  go_loop [8] (fun i => ∃ k : Nat, k ≤ l.length ∧ i = .int .i64 k ∧ orL (l.drop k) = orL l) (fun i => l.length - (intOf i).toNat)
  case atStart => exact ⟨0, Nat.zero_le _, rfl, by rw [List.drop_zero]⟩
  case round =>
    obtain ⟨k, hk, rfl, ho⟩ := hrel
    have HO := Lib.hid ho
    clear ho
    by_cases hlt : k < l.length
    · obtain ⟨b, off, rfl, _, hc⟩ := hr.opened (by omega)
      have hc := hc k hlt
      have HD := Lib.hid (orL_drop hlt)
      clear hr
      cases h0 : (el l k != 0)
      · go_wp2
        go_round
        case rel => exact ⟨k + 1, by omega, by go_num, by rw [← HO.out, HD.out, if_pos (by simpa using h0)]⟩
        case measure => simp [intOf]; omega
      · go_wp2
        go_ret
        exact ⟨ret_i64 (by rw [← HO.out, HD.out, if_neg (by simpa using h0)]), rfl⟩
    · have : k = l.length := by omega
      subst this
      go_wp2
      go_ret
      exact ⟨ret_i64 (by rw [← HO.out, List.drop_length]; rfl), rfl⟩

theorem or_lex (x y : Int) : orL [cmpI (x / 18446744073709551616) (y / 18446744073709551616), cmpI (x % 18446744073709551616) (y % 18446744073709551616)] = cmpI x y := by
  unfold orL
  split
  · rename_i h
    have := lex_cmp0 x y 18446744073709551616 (by omega) h
    rw [← this]
    unfold orL orL
    split
    · rename_i h2; exact h2.symm
    · rfl
  · rename_i h
    exact (lex_cmp x y 18446744073709551616 (by omega) h).symm

set_option maxHeartbeats 1000000 in
theorem wide_Compare (a b c d : Int) (w : World) (ha : InI a) (hb : InI b) (hc : InI c) (hd : InI d) :
    Calls Tryd.prog 33 #[.int .i64 a, .int .i64 b, .int .i64 c, .int .i64 d] w fun e w' => e = .returned (.int .i64 (cmpI (satNum a * satNum b) (satNum c * satNum d))) ∧ Below w.heap.size w w' := by
  have a1 := satNum_bd a ha
  have b1 := satNum_bd b hb
  have c1 := satNum_bd c hc
  have d1 := satNum_bd d hd
  have bd1 := cmpI_bd (satNum a * satNum b / 18446744073709551616) (satNum c * satNum d / 18446744073709551616)
  have bd2 := cmpI_bd (satNum a * satNum b % 18446744073709551616) (satNum c * satNum d % 18446744073709551616)
  have hr := ints_new (k := .i64) w [cmpI (satNum a * satNum b / 18446744073709551616) (satNum c * satNum d / 18446744073709551616), cmpI (satNum a * satNum b % 18446744073709551616) (satNum c * satNum d % 18446744073709551616)] 3 (0, 0) (by simp [maxLen])
    (by intro n hn; simp at hn; rcases hn with rfl | rfl <;> exact wfI64 (by omega) (by omega))
  simp only [List.map_cons, List.map_nil, List.length_cons, List.length_nil, Nat.reduceAdd, Nat.zero_add] at hr
  have HL := Lib.hid (or_lex (satNum a * satNum b) (satNum c * satNum d))
  have HR := Lib.hid hr
  clear hr bd1 bd2
  go_enter Tryd.func33, Tryd.ntmps33
  go_wp2_with (first
    | (go_at_call 35; refine (wide_number _ _ (by assumption)).mono ?_; rintro e w' ⟨rfl, rfl⟩)
    | (go_at_call 34; refine (mul64 _ _ _ (by omega) (by omega)).mono ?_; rintro e w' ⟨rfl, rfl⟩)
    | (go_at_call 45; refine (compare_u64 _ _ _).mono ?_; rintro e w' ⟨rfl, rfl⟩)
    | (go_at_call 44; (with_reducible refine (or_int _ _ _ _ _ HR.out).mono ?_); rintro e w' ⟨rfl, rfl⟩; rw [HL.out]))
  go_ret
  exact ⟨rfl, (Below.refl _ _).alloc (Nat.le_refl _) _⟩

set_option maxHeartbeats 400000 in
theorem wide_Below (a b c : Int) (w : World) (ha : InI a) (hb : InI b) (hc : InI c) :
    Calls Tryd.prog 23 #[.int .i64 a, .int .i64 b, .int .i64 c] w fun e w' => e = .returned (.bool (decide (satNum a * 100 < satNum b * satNum c))) ∧ Below w.heap.size w w' := by
  have h100 : InI 100 := by unfold InI; omega
  go_enter Tryd.func23, Tryd.ntmps23
  go_wp2_with (go_at_call 33; refine (wide_Compare _ _ _ _ _ ha h100 hb hc).mono ?_; rintro e w1 ⟨rfl, hb1⟩)
  go_ret
  refine ⟨ret_bool ?_, by assumption⟩
  rw [show satNum 100 = 100 from rfl]
  unfold cmpI
  rw [decide_eq_decide]
  constructor
  · intro h; split at h <;> omega
  · intro h; rw [if_pos h]; omega

def ratI (a b c d : Int) : Int := if b ≤ 0 then (if d ≤ 0 then 0 else 1) else if d ≤ 0 then -1 else cmpI (satNum a * satNum d) (satNum c * satNum b)


theorem mul_split63 (a b : Int) (h0 : 0 ≤ a) (h1 : a ≤ 9223372036854775807) (k0 : 0 ≤ b) (k1 : b ≤ 9223372036854775807) :
    ∃ p q r s : Int, a / 4294967296 * (b / 4294967296) = p ∧ a / 4294967296 * (b % 4294967296) = q ∧ a % 4294967296 * (b / 4294967296) = r ∧ a % 4294967296 * (b % 4294967296) = s ∧
      0 ≤ p ∧ p ≤ 4611686014132420609 ∧ 0 ≤ q ∧ q ≤ 9223372030412324865 ∧ 0 ≤ r ∧ r ≤ 9223372030412324865 ∧ 0 ≤ s ∧ s ≤ 18446744065119617025 ∧
      a * b = p * 18446744073709551616 + (q + r) * 4294967296 + s := by
  obtain ⟨p, q, r, s, e1, e2, e3, e4, p0, p1, q0, q1, r0, r1, s0, s1, e⟩ := mul_split a b h0 (by omega) k0 (by omega)
  refine ⟨p, q, r, s, e1, e2, e3, e4, p0, ?_, q0, ?_, r0, ?_, s0, s1, e⟩
  · rw [← e1]; have := Int.mul_le_mul (show a / 4294967296 ≤ 2147483647 by omega) (show b / 4294967296 ≤ 2147483647 by omega) (by omega) (by omega); omega
  · rw [← e2]; have := Int.mul_le_mul (show a / 4294967296 ≤ 2147483647 by omega) (show b % 4294967296 ≤ 4294967295 by omega) (by omega) (by omega); omega
  · rw [← e3]; have := Int.mul_le_mul (show a % 4294967296 ≤ 4294967295 by omega) (show b / 4294967296 ≤ 2147483647 by omega) (by omega) (by omega); omega



theorem add64 (x y : Int) (hx : 0 ≤ x) (hy : 0 ≤ y) (w : World) : (callFunc 36 #[.int .u64 x, .int .u64 y, .int .u64 0]).run Tryd.prog w =
    .ok (.value (.tuple #[.int .u64 ((x + y) % 18446744073709551616), .int .u64 ((x + y) / 18446744073709551616)])) w := by
  rw [run_callFunc_extern Tryd.func36 (by kernel_rfl) (by kernel_rfl) (by kernel_rfl) (e := add64Entry) (by kernel_rfl), run_add64 x y 0 hx hy (by omega) (by omega)]
  rw [Int.add_zero]
  rfl

set_option maxRecDepth 100000 in
set_option maxHeartbeats 400000 in
theorem lz100 (w : World) : Calls Tryd.prog 46 #[.int .u64 100] w fun e w' => e = .returned (.int .i64 57) ∧ w = w' := by
  go_enter Tryd.func46, Tryd.ntmps46
  go_wp2
  go_ret
  exact ⟨ret_i64 (by decide +kernel), rfl⟩

theorem ret_u64' {a b : Int} (h : a = b) : Ending.returned (.tuple #[.int .u64 a, .int .u64 0]) = .returned (.tuple #[.int .u64 b, .int .u64 0]) := by rw [h]

set_option maxHeartbeats 1000000 in
theorem div100 (h l : Int) (w : World) (h0 : 0 ≤ h) (h1 : h < 100) (l0 : 0 ≤ l) (l1 : l ≤ 18446744073709551615) :
    Calls Tryd.prog 37 #[.int .u64 h, .int .u64 l, .int .u64 100] w fun e w' => (∃ r, e = .returned (.tuple #[.int .u64 ((h * 18446744073709551616 + l) / 100), .int .u64 r])) ∧ Below w.heap.size w w' := by
  go_enter Tryd.func37, Tryd.ntmps37
  by_cases hz : h = 0
  · subst hz
    go_wp2_with (go_at_call 46; refine (lz100 _).mono ?_; rintro e w' ⟨rfl, rfl⟩)
    go_quiet (fail)
    go_wp2
    go_ret2
    exact ⟨⟨_, ret_2u64 (by omega) rfl⟩, belDrewN (Below.refl _ _) _⟩
  · have hz' : (h == 0) = false := by simpa using hz
    obtain ⟨U, eU, hU⟩ : ∃ U, bits .or .u64 (h * 144115188075855872) (l / 128) = U ∧ U = h * 144115188075855872 + l / 128 :=
      ⟨_, rfl, bits_join .u64 64 (Nat.le_refl _) (fun n h0 h1 => IntWalk.u64_in n ⟨h0, by omega⟩) 57 _ _ (by omega) (by omega) (by omega) (by omega) (by omega) (by omega)⟩
    obtain ⟨V, eV, hV⟩ : ∃ V, IntKind.u64.wrap (l * 144115188075855872) = V ∧ V = l % 128 * 144115188075855872 := ⟨_, rfl, by simp only [IntKind.wrap_u64]; omega⟩
    obtain ⟨V1, eV1, hV1⟩ : ∃ V1, V / 4294967296 = V1 ∧ V1 = l % 128 * 33554432 := ⟨_, rfl, by omega⟩
    have eV0 : bits .and .u64 V 4294967295 = 0 := by rw [and32 V (by omega) (by omega)]; omega
    have eY : bits .and .u64 14411518807585587200 4294967295 = 0 := by rw [and32 _ (by omega) (by omega)]; rfl
    obtain ⟨Q, eQ, hQ⟩ : ∃ Q, U / 3355443200 = Q ∧ Q = U / 3355443200 := ⟨_, rfl, rfl⟩
    obtain ⟨R, eR, hR⟩ : ∃ R, U - Q * 3355443200 = R ∧ R = U % 3355443200 := ⟨_, rfl, by omega⟩
    have u0 : 0 ≤ U := by omega
    have u1 : U ≤ 18446744073709551615 := by omega
    have v0 : 0 ≤ V1 := by omega
    have v1 : V1 ≤ 4294967295 := by omega
    have q0 : 0 ≤ Q := by omega
    have q1 : Q ≤ 4294967295 := by omega
    have r0 : 0 ≤ R := by omega
    have r1 : R ≤ 3355443199 := by omega
    obtain ⟨N, eN, hN⟩ : ∃ N, IntKind.u64.wrap (IntKind.u64.wrap (IntKind.u64.wrap (U * 4294967296) + V1) - IntKind.u64.wrap (Q * 14411518807585587200)) = N ∧ N = R * 4294967296 + V1 :=
      ⟨_, rfl, by simp only [IntKind.wrap_u64]; omega⟩
    obtain ⟨M, eM, hM⟩ : ∃ M, N / 3355443200 = M ∧ M = N / 3355443200 := ⟨_, rfl, rfl⟩
    obtain ⟨S, eS, hS⟩ : ∃ S, N - M * 3355443200 = S ∧ S = N % 3355443200 := ⟨_, rfl, by omega⟩
    have n0 : 0 ≤ N := by omega
    have n1 : N ≤ 18446744073709551615 := by omega
    have m0 : 0 ≤ M := by omega
    have m1 : M ≤ 4294967295 := by omega
    have s0 : 0 ≤ S := by omega
    have s1 : S ≤ 3355443199 := by omega
    have hfin : Q * 4294967296 + M = (h * 18446744073709551616 + l) / 100 := by omega
    have HF := Lib.hid hfin
    have HN := Lib.hid hN
    have HM := Lib.hid hM
    have HS := Lib.hid hS
    clear hN hM hS hfin
    have HU := Lib.hid hU
    have HV := Lib.hid hV
    have HV1 := Lib.hid hV1
    have HQ := Lib.hid hQ
    have HR := Lib.hid hR
    clear hU hV hV1 hQ hR
    go_wp2_with (go_at_call 46; refine (lz100 _).mono ?_; rintro e w' ⟨rfl, rfl⟩)
    refine wp_loop_once ?_
    go_wp2
    refine wp_loop_once ?_
    go_wp2
    go_ret2
    refine ⟨⟨_, ret_2u64 HF.out rfl⟩, Below.refl _ _⟩

def shareI (whole percent : Int) : Int := (satNum whole * satNum (min percent 100) + 99) / 100

theorem share_bd (a p : Int) (ha : InI a) : 0 ≤ satNum a * satNum (min p 100) ∧ satNum a * satNum (min p 100) ≤ 922337203685477580700 := by
  have h := satNum_bd a ha
  have h2 : 0 ≤ satNum (min p 100) ∧ satNum (min p 100) ≤ 100 := by unfold satNum; omega
  exact ⟨Int.mul_nonneg h.1 h2.1, by have := Int.mul_le_mul h.2 h2.2 h2.1 (by omega); omega⟩

set_option maxHeartbeats 1000000 in
theorem wide_Share (a p : Int) (w : World) (ha : InI a) (hp : InI p) :
    Calls Tryd.prog 24 #[.int .i64 a, .int .i64 p] w fun e w' => e = .returned (.int .i64 (shareI a p)) ∧ Below w.heap.size w w' := by
  obtain ⟨s0, s1⟩ := share_bd a p ha
  have hm : InI (min p 100) := by unfold InI at *; omega
  have key : (p ≤ 100 ∧ min p 100 = p) ∨ (100 < p ∧ min p 100 = 100) := by omega
  have a1 := satNum_bd a ha
  have p1 := satNum_bd _ hm
  obtain ⟨P, eP⟩ : ∃ P, satNum a * satNum (min p 100) = P := ⟨_, rfl⟩
  rw [eP] at s0 s1
  obtain ⟨H, eH, hH⟩ : ∃ H, P / 18446744073709551616 = H ∧ H = P / 18446744073709551616 := ⟨_, rfl, rfl⟩
  obtain ⟨L, eL, hL⟩ : ∃ L, P % 18446744073709551616 = L ∧ L = P % 18446744073709551616 := ⟨_, rfl, rfl⟩
  obtain ⟨L2, eL2, hL2⟩ : ∃ L2, (L + 99) % 18446744073709551616 = L2 ∧ L2 = (L + 99) % 18446744073709551616 := ⟨_, rfl, rfl⟩
  obtain ⟨C, eC, hC⟩ : ∃ C, (L + 99) / 18446744073709551616 = C ∧ C = (L + 99) / 18446744073709551616 := ⟨_, rfl, rfl⟩
  have h0 : 0 ≤ H := by omega
  have h1 : H + C ≤ 99 := by omega
  have c0 : 0 ≤ C := by omega
  have l0 : 0 ≤ L := by omega
  have l20 : 0 ≤ L2 := by omega
  have l21 : L2 ≤ 18446744073709551615 := by omega
  obtain ⟨S, eS, hS⟩ : ∃ S, ((H + C) * 18446744073709551616 + L2) / 100 = S ∧ S = (P + 99) / 100 := ⟨_, rfl, by omega⟩
  have t0 : 0 ≤ S := by omega
  have t1 : S ≤ 9223372036854775807 := by omega
  have HS := Lib.hid hS
  have HP := Lib.hid eP
  have q1 := add64 L 99 l0 (by omega)
  clear hH hL hL2 hC hS
  have EP := Lib.hid eP
  have EH := Lib.hid eH
  have EL := Lib.hid eL
  have EL2 := Lib.hid eL2
  have EC := Lib.hid eC
  have ES := Lib.hid eS
  rw [eL2, eC] at q1
  clear eP eH eL eL2 eC eS
  have i100 : InI 100 := by unfold InI; omega
  have HR : Hid (S = shareI a p) := by unfold shareI; rw [EP.out]; exact HS.out
  clear HS HP
  rcases key with ⟨hc, he⟩ | ⟨hc, he⟩
  all_goals
    rw [he] at EP hm p1
    clear he
    go_enter Tryd.func24, Tryd.ntmps24
    go_wp2_with (first
      | (go_at_call 35; refine (wide_number _ _ (by assumption)).mono ?_; rintro e w' ⟨rfl, rfl⟩)
      | (go_at_call 34; refine (mul64 _ _ _ (by omega) (by omega)).mono ?_; rintro e w' ⟨rfl, rfl⟩; rw [EP.out, EH.out, EL.out])
      | (go_at_call 37; refine (div100 _ _ _ (by omega) (by omega) (by omega) (by omega)).mono ?_; rintro e w1 ⟨⟨r, rfl⟩, hb1⟩; rw [ES.out]))
    go_ret
    exact ⟨ret_i64 HR.out, by assumption⟩
end Go.Proofs.YtdmnogljdkncpaaDoor
