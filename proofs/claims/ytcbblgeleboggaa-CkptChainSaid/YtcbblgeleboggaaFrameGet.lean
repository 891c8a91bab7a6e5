
/- frame.Get. -/
import Derived.Test.YtcbblgeleboggaaFrame
namespace Go.Proofs.Ytcbblgeleboggaa
open Go.RowKit
set_option linter.unusedVariables false
set_option linter.unusedSimpArgs false

/-- sum.Cut, where there is a sum. -/
theorem cut_yes (a : Option Addr) (n cap : Nat) (h : List Int) (w : World) (hl : Ints .u8 w a n cap (withSum h)) (hlen : n ≤ 1000000) :
    Calls Try.prog 39 #[.slice a n cap] w fun e w' => ∃ v, e = .returned (.tuple #[v, .bool true]) ∧ OwnI w' w.heap.size 5 .u8 v h ∧ Below w.heap.size w w' := cut_put h a n cap w hl hlen
theorem cut_none (a : Option Addr) (n cap : Nat) (l : List Int) (w : World) (hl : Ints .u8 w a n cap l) (hlen : n ≤ 1000000) (hn : cutOk l = false) :
    Calls Try.prog 39 #[.slice a n cap] w fun e w' => ∃ a2 c2, e = .returned (.tuple #[.slice a2 0 c2, .bool false]) ∧ Below w.heap.size w w' := by
  refine (sum_Cut a n cap l w hl hlen).mono ?_
  rintro e w1 ⟨v, rfl, hown, hb1⟩
  have e2 : cutBody l = [] := by unfold cutBody; rw [hn]; rfl
  rw [e2] at hown
  obtain ⟨a2, c2, rfl, _⟩ := ints_of_own hown (fun m hm => by cases hm)
  exact ⟨a2, c2, by rw [hn]; rfl, hb1⟩

theorem Ints.sub {k : IntKind} {w : World} {b len cap : Nat} {l : List Int} (h : Ints k w (some ⟨b, 0, none⟩) len cap l) {n m : Nat} (hn : n + m ≤ len) (h0 : n < len) : Ints k w (some ⟨b, n, none⟩) m (cap - n) ((l.drop n).take m) := by
  have h1 := (h.drop (n := n) h0).take (n := m) (by omega) (by simp)
  rw [Nat.zero_add] at h1
  exact h1
theorem mark_toList : (strOfNums mark4).toList = [66, 76, 71, 49] := by decide +kernel
theorem mark_str {l : List Int} (h : Bytes l) : ((strOfNums l).toList == [66, 76, 71, 49]) = (l == mark4) := by
  rw [← mark_toList]; exact str_inj h mark4_B
theorem bytes_take4 {l : List Int} (h : Bytes l) : Bytes (l.take 4) := h.take 4

set_option maxRecDepth 100000 in
set_option maxHeartbeats 2000000 in
theorem frame_Get_no (a : Option Addr) (len cap : Nat) (l : List Int) (w : World) (hl : Ints .u8 w a len cap l) (hlen : len ≤ 1000000) (hn : NoFrame l) :
    Calls Try.prog 26 #[.slice a len cap] w fun e w' => e = .returned (.tuple #[.int .i64 0, .slice none 0 0, .int .i64 3]) ∧ Below w.heap.size w w' := by
  have hby := bytes_of hl
  have hiff := isFrame_iff hby
  cases hc : cutOk l with
  | false =>
    have CN := Lib.hid (cut_none a len cap l w hl hlen hc)
    clear hl hiff hn hc hby
    go_enter Try.func26, Try.ntmps26
    go_wp2_with (go_at_call 39; (with_reducible refine CN.out.mono ?_); rintro e w1 ⟨a2, c2, rfl, hb1⟩)
    go_ret3
    exact ⟨rfl, hb1⟩
  | true =>
    have hb0 : bodyOk (cutBody l) = false := by
      cases hq : bodyOk (cutBody l) with
      | false => rfl
      | true => obtain ⟨v, x, h⟩ := hiff.1 ⟨hc, hq⟩; exact absurd h (hn v x)
    obtain ⟨h, rfl⟩ := cutOk_iff.1 hc
    have e : cutBody (withSum h) = h := put_body h
    rw [e] at hb0
    have hh : Bytes h := fun c hc => hby c (by unfold withSum; simp [hc])
    have CY := Lib.hid (cut_yes a len cap h w hl hlen)
    have hw8 := Lib.hid (fun m hm => wf8 m (hh m hm))
    have hlh : h.length ≤ 1000000 := by have := hl.bounds; unfold withSum at this; simp at this; omega
    clear hl hiff hn hc hby e
    obtain ⟨n, en⟩ : ∃ n, h.length = n := ⟨_, rfl⟩
    rw [en] at hlh
    have EN := Lib.hid en
    by_cases h12 : n < 12
    · clear hb0 en
      go_enter Try.func26, Try.ntmps26
      go_wp2_with (go_at_call 39; (with_reducible refine CY.out.mono ?_); rintro e w1 ⟨v, rfl, hown, hb1⟩; obtain ⟨a2, c2, rfl, hi2⟩ := ints_of_own hown hw8.out; rw [EN.out] at hi2 ⊢; clear hown hi2)
      go_ret3
      exact ⟨rfl, hb1⟩
    · obtain ⟨k, rfl⟩ : ∃ k, n = k + 12 := ⟨n - 12, by omega⟩
      have hst := mark_str (bytes_take4 hh)
      have hw : Below w.heap.size w w := Below.refl _ _
      by_cases hmk : (h.take 4 == mark4) = true
      · rw [hmk] at hst
        have hnum : numW ((h.drop 8).take 4) ≠ k := fun q => by
          unfold bodyOk at hb0
          rw [en, hmk, List.length_drop, en, q] at hb0
          simp at hb0
          omega
        obtain ⟨m, em⟩ : ∃ m, numW ((h.drop 8).take 4) = m := ⟨_, rfl⟩
        rw [em] at hnum
        have EM := Lib.hid em
        have hn1 : ((m : Int) == (k : Int)) = false := by simp; omega
        have hn2 : ((m : Int) != (k : Int)) = true := by simp; omega
        clear en hb0 hmk em
        go_enter Try.func26, Try.ntmps26
        go_wp2_with (go_at_call 39; (with_reducible refine CY.out.mono ?_); rintro e w1 ⟨v, rfl, hown, hb1⟩; obtain ⟨a2, c2, rfl, hi2⟩ := ints_of_own hown hw8.out; rw [EN.out] at hi2 hown ⊢; obtain ⟨g, rfl, hg1, hg2, hg3, hg4⟩ := hown.open EN.out (by omega); have ct := conv_str (hi2.take (n := 4) (by omega) (by simp)); have HI := Lib.hid hi2; clear hown hi2)
        have s4 := HI.out.sub (n := 4) (m := 4) (by omega) (by omega)
        have s8 := HI.out.sub (n := 8) (m := 4) (by omega) (by omega)
        have CN4 := Lib.hid (fun v (hv : Below w1.heap.size w1 v) => frame_number g 4 (c2 - 4) _ v (s4.later hv))
        have CN8 := Lib.hid (fun v (hv : Below w1.heap.size w1 v) => frame_number g 8 (c2 - 8) _ v (s8.later hv))
        rw [EM.out] at CN8
        have hbel : Below w1.heap.size w1 w1 := Below.refl _ _
        clear s4 s8 ct
        have hw := hb1
        have hc8 : (8 : Int) ≤ (c2 : Int) := by omega
        have hc12 : (12 : Int) ≤ (c2 : Int) := by omega
        have hk12 : (12 : Int) ≤ (k : Int) + 12 := by omega
        rcases (show c2 = 12 ∨ (¬ c2 = 12 ∧ ¬ (c2 : Int) = 12 ∧ ¬ c2 = 4 ∧ ¬ (c2 : Int) = 4 ∧ ¬ c2 = 8 ∧ ¬ (c2 : Int) = 8) by omega) with hcp | ⟨hcp, hcp2, hcp3, hcp4, hcp5, hcp6⟩
        · subst hcp
          obtain rfl : k = 0 := by omega
          have kk := fun d os => belStep hbel (below_regrown _ d os)
          refine wp_region_quiet_below (by kernel_rfl) (by kernel_rfl) ?_
          repeat ((with_reducible refine wpQuiet_step (fun K hK => ?_)); go_simp; (try (rw [if_neg]; rotate_left; · decide)); first | ((with_reducible refine hK _ ?_); clear hK K) | (apply Exists.intro; refine ⟨fun _ => ?_, hK _ ?_⟩; (first | (go_at_call 40; with_reducible exact Calls.regrown_of (CN4.out _ (kk _ _))) | (go_at_call 40; with_reducible exact Calls.regrown_of (CN8.out _ (kk _ _)))); clear hK K))
          refine wpQuiet_nil (fun w1 hw1 => ?_)
          replace hbel := belStep hbel (bel_of_class hw1)
          clear hw1 kk
          go_wp2
          go_ret3
          exact ⟨rfl, belStep hb1 hbel⟩
        · skip
          have kk := fun d os => belStep hbel (below_regrown _ d os)
          refine wp_region_quiet_below (by kernel_rfl) (by kernel_rfl) ?_
          repeat ((with_reducible refine wpQuiet_step (fun K hK => ?_)); go_simp; (try (rw [if_neg]; rotate_left; · decide)); first | ((with_reducible refine hK _ ?_); clear hK K) | (apply Exists.intro; refine ⟨fun _ => ?_, hK _ ?_⟩; (first | (go_at_call 40; with_reducible exact Calls.regrown_of (CN4.out _ (kk _ _))) | (go_at_call 40; with_reducible exact Calls.regrown_of (CN8.out _ (kk _ _)))); clear hK K))
          refine wpQuiet_nil (fun w1 hw1 => ?_)
          replace hbel := belStep hbel (bel_of_class hw1)
          clear hw1 kk
          go_wp2
          go_ret3
          exact ⟨rfl, belStep hb1 hbel⟩
      · have hmk2 : (h.take 4 == mark4) = false := by cases q : (h.take 4 == mark4) <;> simp_all
        rw [hmk2] at hst
        clear en hb0 hmk hmk2
        go_enter Try.func26, Try.ntmps26
        go_wp2_with (go_at_call 39; (with_reducible refine CY.out.mono ?_); rintro e w1 ⟨v, rfl, hown, hb1⟩; obtain ⟨a2, c2, rfl, hi2⟩ := ints_of_own hown hw8.out; rw [EN.out] at hi2 hown ⊢; obtain ⟨g, rfl, hg1, hg2, hg3, hg4⟩ := hown.open EN.out (by omega); have ct := conv_str (hi2.take (n := 4) (by omega) (by simp)); clear hown hi2)
        go_ret3
        exact ⟨rfl, hb1⟩

set_option maxRecDepth 100000 in
set_option maxHeartbeats 2000000 in
theorem frame_Get_ok (a : Option Addr) (len cap : Nat) (l : List Int) (w : World) (hl : Ints .u8 w a len cap l) (hlen : len ≤ 1000000) (v : Nat) (x : List Int) (k : Nat) (hf : IsFrame l v x) (hk : x.length = k) :
    Calls Try.prog 26 #[.slice a len cap] w fun e w' => ∃ g c2 ax cx, e = .returned (.tuple #[.int .i64 v, .slice ax k cx, .int .i64 0]) ∧ (0 < k → ax = some ⟨g, 12, none⟩) ∧ (w.heap.size ≤ g ∧ k ≤ cx ∧ cx ≤ 9223372036854775807) ∧ OwnI w' w.heap.size 5 .u8 (.slice (some ⟨g, 0, none⟩) (k + 12) c2) (headL v x) ∧ Ints .u8 w' ax k cx x ∧ Below w.heap.size w w' := by
  have hby := bytes_of hl
  have hlen2 := hf.len
  have hbd := hl.bounds
  obtain ⟨e0, hv, hx⟩ := hf
  subst e0
  have hh : Bytes (headL v x) := fun c hc => hby c (by unfold frameL withSum; simp [hc])
  have hw8 := Lib.hid (fun m hm => wf8 m (hh m hm))
  have CY := Lib.hid (cut_yes a len cap (headL v x) w hl hlen)
  have hk1 : k ≤ 1000000 := by omega
  have EN := Lib.hid (show (headL v x).length = k + 12 by rw [headL_len, hk])
  obtain ⟨_, f1, f2, f3⟩ := frame_body hv hx
  have hst : ((strOfNums ((headL v x).take 4)).toList == [66, 76, 71, 49]) = true := by
    rw [mark_str (hh.take 4)]; rfl
  have hw : Below w.heap.size w w := Below.refl _ _
  rw [hk] at f3
  have F1 := Lib.hid f1
  have F2 := Lib.hid f2
  have F3 := Lib.hid f3
  have HK := Lib.hid hk
  clear f1 f2 f3 hl hby hh hx hlen2 hbd hk
  obtain ⟨h, eh⟩ : ∃ h, headL v x = h := ⟨_, rfl⟩
  rw [eh] at CY hw8 EN hst F1 F2 F3 ⊢
  clear eh
  have hn1 : ((k : Int) == (k : Int)) = true := by simp
  go_enter Try.func26, Try.ntmps26
  go_wp2_with (go_at_call 39; (with_reducible refine CY.out.mono ?_); rintro e w1 ⟨v0, rfl, hown, hb1⟩; obtain ⟨a2, c2, rfl, hi2⟩ := ints_of_own hown hw8.out; rw [EN.out] at hi2 hown ⊢; obtain ⟨g, rfl, hg1, hg2, hg3, hg4⟩ := hown.open EN.out (by omega); have ct := conv_str (hi2.take (n := 4) (by omega) (by simp)); have HI := Lib.hid hi2; have HO := Lib.hid hown; clear hown hi2)
  have s4 := HI.out.sub (n := 4) (m := 4) (by omega) (by omega)
  have s8 := HI.out.sub (n := 8) (m := 4) (by omega) (by omega)
  have CN4 := Lib.hid (fun v (hv : Below w1.heap.size w1 v) => frame_number g 4 (c2 - 4) _ v (s4.later hv))
  have CN8 := Lib.hid (fun v (hv : Below w1.heap.size w1 v) => frame_number g 8 (c2 - 8) _ v (s8.later hv))
  rw [F1.out] at CN4
  rw [F3.out] at CN8
  have hbel : Below w1.heap.size w1 w1 := Below.refl _ _
  clear s4 s8 ct
  have hw := hb1
  have hc8 : (8 : Int) ≤ (c2 : Int) := by omega
  have hc12 : (12 : Int) ≤ (c2 : Int) := by omega
  have hk12 : (12 : Int) ≤ (k : Int) + 12 := by omega
  rcases (show c2 = 12 ∨ (¬ c2 = 12 ∧ ¬ (c2 : Int) = 12 ∧ ¬ c2 = 4 ∧ ¬ (c2 : Int) = 4 ∧ ¬ c2 = 8 ∧ ¬ (c2 : Int) = 8) by omega) with hcp | ⟨hcp, hcp2, hcp3, hcp4, hcp5, hcp6⟩
  · subst hcp
    obtain rfl : k = 0 := by omega
    obtain rfl : x = [] := List.eq_nil_of_length_eq_zero HK.out
    have kk := fun d os => belStep hbel (below_regrown _ d os)
    refine wp_region_quiet_below (by kernel_rfl) (by kernel_rfl) ?_
    repeat ((with_reducible refine wpQuiet_step (fun K hK => ?_)); go_simp; (try (rw [if_neg]; rotate_left; · decide)); first | ((with_reducible refine hK _ ?_); clear hK K) | (apply Exists.intro; refine ⟨fun _ => ?_, hK _ ?_⟩; (first | (go_at_call 40; with_reducible exact Calls.regrown_of (CN4.out _ (kk _ _))) | (go_at_call 40; with_reducible exact Calls.regrown_of (CN8.out _ (kk _ _)))); clear hK K))
    refine wpQuiet_nil (fun w1 hw1 => ?_)
    replace hbel := belStep hbel (bel_of_class hw1)
    clear hw1 kk
    go_wp2
    go_ret3
    exact ⟨g, 12, _, _, rfl, fun q => absurd q (by omega), ⟨hg1, by omega, by omega⟩, HO.out.later hbel, ⟨⟨rfl, by omega, by unfold maxLen; omega, fun q => (by cases q), .inl rfl⟩, fun m hm => by cases hm⟩, belStep hb1 hbel⟩
  · have hbody : Ints .u8 w1 (some ⟨g, 12, none⟩) k (c2 - 12) x := by
      by_cases h0 : k = 0
      · subst h0
        obtain rfl : x = [] := List.eq_nil_of_length_eq_zero HK.out
        exact ⟨⟨rfl, by omega, by unfold maxLen; omega, fun q => (by cases q), .inl rfl⟩, fun m hm => by cases hm⟩
      · have := HI.out.sub (n := 12) (m := k) (by omega) (by omega)
        rw [F2.out, List.take_of_length_le (by rw [HK.out]; exact Nat.le_refl _)] at this
        exact this
    have HB := Lib.hid hbody
    clear hbody
    have kk := fun d os => belStep hbel (below_regrown _ d os)
    refine wp_region_quiet_below (by kernel_rfl) (by kernel_rfl) ?_
    repeat ((with_reducible refine wpQuiet_step (fun K hK => ?_)); go_simp; (try (rw [if_neg]; rotate_left; · decide)); first | ((with_reducible refine hK _ ?_); clear hK K) | (apply Exists.intro; refine ⟨fun _ => ?_, hK _ ?_⟩; (first | (go_at_call 40; with_reducible exact Calls.regrown_of (CN4.out _ (kk _ _))) | (go_at_call 40; with_reducible exact Calls.regrown_of (CN8.out _ (kk _ _)))); clear hK K))
    refine wpQuiet_nil (fun w1 hw1 => ?_)
    replace hbel := belStep hbel (bel_of_class hw1)
    clear hw1 kk
    go_wp2
    go_ret3
    exact ⟨g, c2, _, _, rfl, fun _ => rfl, ⟨hg1, by omega, by omega⟩, HO.out.later hbel, HB.out.later hbel, belStep hb1 hbel⟩
end Go.Proofs.Ytcbblgeleboggaa
