
/- Stage 27: the reference: number, signal, split: contracts. -/
import Derived.Test.YtekakalhknjdaaaDoorLgD
import Derived.Test.YtekakalhknjdaaaDoorLgA
namespace Go.Proofs.YtekakalhknjdaaaDoor
open Go.RowKit
set_option linter.unusedVariables false
set_option linter.unusedSimpArgs false
theorem at_listE (s : ByteArray) {k : Nat} (h : k < s.size) : s[k] ∈ s.toList ∧ s.toList[k]? = some s[k] := by
  have e : s.data.toList[k]'(by simpa using h) = s[k] := by simp; rfl
  rw [sl]
  exact ⟨by rw [← e]; exact List.getElem_mem _, by rw [List.getElem?_eq_getElem (by simpa using h), e]⟩
theorem numQ_bad (l : List UInt8) (h : l.length = 0 ∨ 19 < l.length ∨ (l.head? = some 48 ∧ 1 < l.length)) : numQ l = -1 := by
  unfold numQ
  rw [if_pos]
  rcases h with h | h | h
  · exact .inl (List.length_eq_zero_iff.1 h)
  · exact .inr (.inl h)
  · exact .inr (.inr h)
theorem numQ_no {l : List UInt8} {c : UInt8} (hm : c ∈ l) (h : isDg c = false) : numQ l = -1 := by
  unfold numQ
  split
  · rfl
  · rw [if_neg]
    intro q
    rw [List.all_eq_true.1 q c hm] at h
    cases h
theorem numQ_end (l : List UInt8) (h1 : l.length ≠ 0) (h2 : l.length ≤ 19) (h3 : ¬ (l.head? = some 48 ∧ 1 < l.length)) (h4 : ∀ c ∈ l, isDg c = true) : numQ l = if valN 0 l ≤ 9223372036854775807 then (valN 0 l : Int) else -1 := by
  unfold numQ
  rw [if_neg, if_pos (List.all_eq_true.2 h4)]
  rintro (q | q | q)
  · exact h1 (by rw [q]; rfl)
  · omega
  · exact h3 q
theorem val_bdQ (l : List UInt8) (h : ∀ c ∈ l, isDg c = true) (h4 : l.length ≤ 18) : valN 0 l ≤ 999999999999999999 := by
  have := valN_bd l h
  have h2 : 10 ^ l.length ≤ 10 ^ 18 := Nat.pow_le_pow_right (by omega) h4
  omega
theorem val_bdQ9 (l : List UInt8) (h : ∀ c ∈ l, isDg c = true) (h4 : l.length ≤ 19) : valN 0 l ≤ 9999999999999999999 := by
  have := valN_bd l h
  have h2 : 10 ^ l.length ≤ 10 ^ 19 := Nat.pow_le_pow_right (by omega) h4
  omega
set_option maxRecDepth 100000 in
set_option maxHeartbeats 16000000 in
theorem rf_number27 (s : ByteArray) (w : World) (hs : s.size ≤ maxLen) :
    Calls Tryd.prog 32 #[.string s] w fun e w' => e = .returned (.int .i64 (numQ s.toList)) ∧ w = w' := by
  have hs' : (s.size : Int) ≤ 9223372036854775807 := by unfold maxLen at hs; omega
  have hl := sl_len s
  rcases Nat.eq_zero_or_pos s.size with h0 | h0
  · have HF := Lib.hid (numQ_bad s.toList (.inl (by rw [hl]; exact h0)))
    clear hl
    have t0 : ((s.size : Int) == 0) = true := by simp [h0]
    have HZ := Lib.hid h0
    clear h0
    go_enter Tryd.func32, Tryd.ntmps32
    go_wp2
    go_ret
    exact ⟨by rw [HF.out] <;> rfl, rfl⟩
  · have t0 : ((s.size : Int) == 0) = false := by rw [beq_eq_false_iff_ne]; omega
    rcases Nat.lt_or_ge 19 s.size with h4 | h4
    · have HF := Lib.hid (numQ_bad s.toList (.inr (.inl (by rw [hl]; exact h4))))
      have t4 : decide ((19 : Int) < (s.size : Int)) = true := decide_eq_true (by omega)
      clear hl
      go_enter Tryd.func32, Tryd.ntmps32
      go_wp2
      go_ret
      exact ⟨by rw [HF.out] <;> rfl, rfl⟩
    · have t4 : decide ((19 : Int) < (s.size : Int)) = false := decide_eq_false (by omega)
      have hh : s.toList.head? = some s[0] := by
        have := (at_listE s h0).2
        rw [List.head?_eq_getElem?, this]
      by_cases hz : s[0] = 48 ∧ 1 < s.size
      · have HF := Lib.hid (numQ_bad s.toList (.inr (.inr ⟨by rw [hh, hz.1], by rw [hl]; exact hz.2⟩)))
        have t1 : ((s[0].toNat : Int) == 48) = true := by rw [hz.1]; rfl
        have t2 : 1 < s.size := hz.2
        clear hl hh hz
        go_enter Tryd.func32, Tryd.ntmps32
        go_wp2
        go_ret
        exact ⟨by rw [HF.out] <;> rfl, rfl⟩
      · have hcase : ((s[0].toNat : Int) == 48) = false ∨ (((s[0].toNat : Int) == 48) = true ∧ ¬ 1 < s.size) := by
          rcases Classical.em (s[0] = 48) with q | q
          · exact .inr ⟨by rw [q]; rfl, fun h => hz ⟨q, h⟩⟩
          · exact .inl (by rw [beq_eq_false_iff_ne]; exact u8_neL (c := 48) q)
        have HE := Lib.hid (fun h => numQ_end s.toList (by rw [hl]; omega) (by rw [hl]; exact h4) (by rw [hh, hl]; rintro ⟨q1, q2⟩; exact hz ⟨by simpa using q1, q2⟩) h)
        have HL := Lib.hid hl
        clear hl hh hz
        rcases hcase with t1 | ⟨t1, t2⟩
        all_goals
          go_enter Tryd.func32, Tryd.ntmps32
          go_wp2
          go_loop [3, 4] (fun n i => ∃ k : Nat, k ≤ s.size ∧ i = .int .i64 k ∧ (∃ v : Int, n = .int .u64 v ∧ v = (valN 0 (s.toList.take k) : Int)) ∧ ∀ j (hj : j < s.size), j < k → isDg s[j] = true) (fun _ i => s.size - (intOf i).toNat)
          case atStart => exact ⟨0, Nat.zero_le _, rfl, ⟨_, rfl, rfl⟩, fun j hj h => absurd h (by omega)⟩
          case round =>
            obtain ⟨k, hk, rfl, ⟨v, rfl, hv⟩, hall⟩ := hrel
            have hdig : ∀ c ∈ s.toList.take k, isDg c = true := fun c hc => by
              obtain ⟨j, hj, e⟩ := List.mem_take_iff_getElem.1 hc
              rw [HL.out] at hj
              have e2 : s.toList[j]'(by rw [HL.out]; omega) = s[j]'(by omega) := by simp only [sl]; rfl
              rw [← e, e2]; exact hall j (by omega) (by omega)
            have hv0 : 0 ≤ v := by rw [hv]; exact Int.natCast_nonneg _
            have hvb9 := val_bdQ9 _ hdig (by rw [List.length_take, HL.out]; omega)
            have hv9 : v ≤ 9999999999999999999 := by rw [hv]; omega
            by_cases hlt : k < s.size
            · have hvb := val_bdQ _ hdig (by rw [List.length_take, HL.out]; omega)
              have hv1 : v ≤ 999999999999999999 := by rw [hv]; omega
              cases hd : isDg s[k] with
              | true =>
                have hb := dg_bd hd
                have HN := Lib.hid (show 10 * v + (s[k].toNat : Int) - 48 = (valN 0 (s.toList.take (k + 1)) : Int) by rw [sl_snoc s hlt, valN_snoc, hv]; push_cast; omega)
                have HA := Lib.hid (show ∀ j (hj : j < s.size), j < k + 1 → isDg s[j] = true from fun j hj h => (Nat.lt_or_ge j k).elim (hall j hj) (fun q => by obtain rfl : j = k := (by omega); exact hd))
                have d1 : ¬ (s[k].toNat : Int) < 48 := by omega
                have d2 : ¬ 57 < (s[k].toNat : Int) := by omega
                have d3 : (s[k].toNat : Int) ≤ 57 := by omega
                have d4 : 48 ≤ (s[k].toNat : Int) := by omega
                clear hv hall hdig hvb hvb9 hv9 hd hb
                go_wp2
                go_round
                case rel => exact ⟨k + 1, by omega, by go_num, ⟨_, rfl, HN.out⟩, HA.out⟩
                case measure => simp [intOf]; omega
              | false =>
                have HF := Lib.hid (numQ_no (l := s.toList) (c := s[k]) ((at_listE s hlt).1) hd)
                have hx : (s[k].toNat : Int) < 48 ∨ (¬ (s[k].toNat : Int) < 48 ∧ 57 < (s[k].toNat : Int)) := by
                  unfold isDg at hd
                  simp at hd
                  omega
                clear hv hall hdig hvb hvb9 hd
                rcases hx with d1 | ⟨d1, d2⟩
                all_goals
                  go_wp2
                  go_ret
                  exact ⟨by rw [HF.out] <;> rfl, rfl⟩
            · obtain rfl : k = s.size := by omega
              rw [List.take_of_length_le (by rw [HL.out]; omega)] at hv hdig
              have HF := Lib.hid (HE.out hdig)
              by_cases hbg : valN 0 s.toList ≤ 9223372036854775807
              · rw [if_pos hbg, ← hv] at HF
                have hvm : v ≤ 9223372036854775807 := by omega
                have t9 : decide ((9223372036854775807 : Int) < v) = false := decide_eq_false (by omega)
                clear hv hall hdig hvb9 hv9 hbg
                go_wp2
                go_ret
                exact ⟨by rw [HF.out] <;> rfl, rfl⟩
              · rw [if_neg hbg] at HF
                have hvm : ¬ v ≤ 9223372036854775807 := by omega
                have t9 : decide ((9223372036854775807 : Int) < v) = true := decide_eq_true (by omega)
                clear hv hall hdig hvb9 hbg
                go_wp2
                go_ret
                exact ⟨by rw [HF.out] <;> rfl, rfl⟩
theorem sg_miss {s : ByteArray} {k : Nat} (hk : k < 3) (h : ¬ (wB k).toList = s.toList) : ¬ sgE k = s.toList := by
  rw [wB_sg (by omega), bA_toL] at h
  exact h
theorem sg_hit {s : ByteArray} {k : Nat} (hk : k < 3) (h : (wB k).toList = s.toList) (hm : ∀ j, j < k → ¬ sgE j = s.toList) : idxE sgE s.toList 3 = k := by
  rw [wB_sg (by omega), bA_toL, show ((k : Nat) : Int).toNat = k from rfl] at h
  rw [← h]
  exact idx_sgE k hk
theorem sg_none {s : ByteArray} (hm : ∀ j, j < 3 → ¬ sgE j = s.toList) : idxE sgE s.toList 3 = -1 := by
  simp [idxE, hm 0 (by omega), hm 1 (by omega), hm 2 (by omega)]
set_option maxRecDepth 100000 in
set_option maxHeartbeats 16000000 in
theorem rf_signal27 (s : ByteArray) (w : World) :
    Calls Tryd.prog 33 #[.string s] w fun e w' => e = .returned (.int .i64 (idxE sgE s.toList 3)) ∧ w = w' := by
  go_enter Tryd.func33, Tryd.ntmps33
  go_wp2
  go_loopw [3] (fun i wr => ∃ k : Nat, k ≤ 3 ∧ i = .int .i64 k ∧ Hid (∀ j, j < k → ¬ sgE j = s.toList) ∧ wr = w) (fun i _ => 3 - (intOf i).toNat)
  case atStart => exact ⟨0, Nat.zero_le _, rfl, Lib.hid (fun j hj => absurd hj (by omega)), rfl⟩
  case round =>
    obtain ⟨k, hk, rfl, HM, rfl⟩ := hrel
    by_cases hlt : k < 3
    · have hd : decide ((k : Int) < 3) = true := decide_eq_true (by omega)
      have CS := Lib.hid (fun u => ref_Word (k : Int) u (by omega))
      obtain ⟨t, ht⟩ : ∃ t, wB (k : Int) = t := ⟨_, rfl⟩
      cases hq : ((wB (k : Int)).toList == s.toList) with
      | true =>
        have HF := Lib.hid (sg_hit hlt (by simpa using hq) HM.out)
        rw [ht] at hq CS
        clear ht
        go_wp2_with (go_at_call 27; (with_reducible refine (CS.out _).mono ?_); rintro e9 w9 ⟨rfl, rfl⟩)
        go_ret
        exact ⟨by rw [HF.out] <;> rfl, rfl⟩
      | false =>
        have HN := Lib.hid (show ∀ j, j < k + 1 → ¬ sgE j = s.toList from fun j hj => (Nat.lt_or_ge j k).elim (HM.out j) (fun q => by obtain rfl : j = k := (by omega); exact sg_miss hlt (by simpa using hq)))
        rw [ht] at hq CS
        clear ht
        go_wp2_with (go_at_call 27; (with_reducible refine (CS.out _).mono ?_); rintro e9 w9 ⟨rfl, rfl⟩)
        go_roundw
        case rel => exact ⟨k + 1, by omega, by push_cast; rfl, HN, by first | rfl | trivial⟩
        case measure => simp [intOf] <;> omega
    · obtain rfl : k = 3 := by omega
      have HF := Lib.hid (sg_none HM.out)
      have hd : decide (((3 : Nat) : Int) < 3) = false := rfl
      go_wp2
      go_ret
      exact ⟨by rw [HF.out] <;> rfl, rfl⟩
theorem cut_hit {s : ByteArray} {fr k : Nat} (h1 : fr ≤ k) (hk : k < s.size) (hc : s[k] = 32) (hn : ∀ j (hj : j < s.size), fr ≤ j → j < k → s[j] ≠ 32) : cutsL 32 (s.data.toList.drop fr) = (s.extract fr k).data.toList :: cutsL 32 (s.data.toList.drop (k + 1)) := by
  have hl : s.data.toList.length = s.size := rfl
  have h2 : (s.data.toList.drop fr)[k - fr]? = some 32 := by
    rw [List.getElem?_drop, show fr + (k - fr) = k by omega, List.getElem?_eq_getElem (by rw [hl]; exact hk)]
    have e : s[k] = s.data.toList[k]'(by simpa using hk) := by simp; rfl
    rw [← e, hc]
  rw [cuts_at 32 h2 (fun j hj => ?_)]
  · rw [Go.Lib.extract_data, List.drop_drop, show fr + (k - fr + 1) = k + 1 by omega]
  · rw [List.getElem?_drop, List.getElem?_eq_getElem (by rw [hl]; omega)]
    have e : s[fr + j]'(by omega) = s.data.toList[fr + j]'(by rw [hl]; omega) := by simp; rfl
    rw [← e]
    intro q
    exact hn (fr + j) (by omega) (by omega) (by omega) (Option.some.inj q)
theorem cut_end {s : ByteArray} {fr : Nat} (hn : ∀ j (hj : j < s.size), fr ≤ j → s[j] ≠ 32) : cutsL 32 (s.data.toList.drop fr) = [(s.extract fr s.size).data.toList] := by
  have hl : s.data.toList.length = s.size := rfl
  rw [cuts_one 32 (a := s.data.toList.drop fr) (fun x hx => ?_)]
  · rw [Go.Lib.extract_data, List.take_of_length_le (by rw [List.length_drop, hl]; exact Nat.le_refl _)]
  · obtain ⟨j, hj⟩ := List.getElem?_of_mem hx
    rw [List.getElem?_drop] at hj
    have hlt : fr + j < s.size := by have := (List.getElem?_eq_some_iff.1 hj).1; rw [hl] at this; exact this
    rw [List.getElem?_eq_getElem (by rw [hl]; exact hlt)] at hj
    have e : s[fr + j]'hlt = s.data.toList[fr + j]'(by rw [hl]; exact hlt) := by simp; rfl
    rw [← Option.some.inj hj, ← e]
    exact hn _ hlt (by omega)
set_option maxRecDepth 100000 in
set_option maxHeartbeats 64000000 in
theorem rf_split27 (s : ByteArray) (w : World) (hs : s.size ≤ 1000000) :
    Calls Tryd.prog 31 #[.string s] w fun e w' => (∃ (a : Option Addr) (c : Nat), e = .returned (.slice a (cutsL 32 s.data.toList).length c) ∧ OwnR w' w.heap.size 9 1 (.slice a (cutsL 32 s.data.toList).length c) (cutsL 32 s.data.toList).length ((cutsL 32 s.data.toList).map strB)) ∧ Below w.heap.size w w' := by
  have HS := Lib.hid hs
  have hs2 : (s.size : Int) ≤ 1000000 := by omega
  clear hs
  have HB0 := Lib.hid (Below.refl w.heap.size w)
  go_enter Tryd.func31, Tryd.ntmps31
  go_wp2
  go_loopw [3, 4, 5] (fun v fv iv wr => ∃ (k fr : Nat) (D : List (List UInt8)), k ≤ s.size ∧ fr ≤ k ∧ D.length ≤ k ∧ iv = .int .i64 k ∧ fv = .int .i64 fr ∧ OwnR wr w.heap.size 9 1 v D.length (D.map strB) ∧ Hid (cutsL 32 s.data.toList = D ++ cutsL 32 (s.data.toList.drop fr)) ∧ Hid (∀ j (hj : j < s.size), fr ≤ j → j < k → s[j] ≠ 32) ∧ Hid (Below w.heap.size w wr)) (fun _ _ iv _ => s.size - (intOf iv).toNat)
  case atStart => exact ⟨0, 0, [], Nat.zero_le _, Nat.zero_le _, Nat.zero_le _, rfl, rfl, OwnR.nil _ _ _ _, Lib.hid rfl, Lib.hid (fun j _ _ h => absurd h (by omega)), HB0⟩
  case round =>
    clear HB0
    obtain ⟨k, fr, D, hk, hfr, hDk, rfl, rfl, hO, HQ, HN, HB⟩ := hrel
    by_cases hlt : k < s.size
    · have hd : decide ((k : Int) < (s.size : Int)) = true := decide_eq_true (by omega)
      have hki : (k : Int) < (s.size : Int) := by omega
      have hk0 : (0 : Int) ≤ (k : Int) := by omega
      have hc8 := s[k].toNat_lt
      by_cases hc : s[k] = 32
      · have t1 : ((s[k].toNat : Int) == 32) = true := by rw [hc]; rfl
        have HC := Lib.hid (cut_hit hfr hlt hc HN.out)
        have HO := Lib.hid hO
        clear hO hc
        have i1 : (fr : Int) ≤ (k : Int) := by omega
        have i2 : (0 : Int) ≤ (fr : Int) := by omega
        have HOc := Lib.hid (OwnR.alloc HO.out (.cells #[.string (s.extract fr k)] 9))
        have HRX := Lib.hid (row_new wr [.string (s.extract fr k)] 9 1 1 rfl (by unfold maxLen; omega))
        have hs9 := HS.out
        go_wp2_with (at_builtin; (refine wpList_app_row rfl _ _ 41 rfl w.heap.size 9 _ 1 16 Tryd.underlying41 info_strL rfl (by decide) _ _ _ rfl HOc.out _ 1 1 [.string (s.extract fr k)] rfl HRX.out (str_oneW (s.extract fr k)) ?c1 ?c2 ?c3 ?_))
        case c1 => simp only [maxLen]; omega
        case c2 => omega
        case c3 => have := HB.out.size; simp; omega
        intro v' w7 ho' hb' hg'
        have HB7 := Lib.hid ((belAlloc HB.out (.cells #[.string (s.extract fr k)] 9)).trans hb')
        have HO7 := Lib.hid (own_snocM (enc := strB) (x := (s.extract fr k).data.toList) (by rw [show strB (s.extract fr k).data.toList = .string (s.extract fr k) from by unfold strB; rw [bA_self]]; exact ho'))
        clear ho' hb' hg'
        go_wp2
        go_roundw
        case rel => exact ⟨k + 1, k + 1, D ++ [(s.extract fr k).data.toList], by omega, by omega, by rw [List.length_append]; simp; omega, by push_cast; rfl, by push_cast; rfl, HO7.out, Lib.hid (by rw [HQ.out, HC.out]; simp), Lib.hid (fun j _ h1 h2 => absurd h2 (by omega)), HB7⟩
        case measure => simp [intOf] <;> omega
      · have t1 : ((s[k].toNat : Int) == 32) = false := by rw [beq_eq_false_iff_ne]; exact u8_neL (c := 32) hc
        have HN2 := Lib.hid (show ∀ j (hj : j < s.size), fr ≤ j → j < k + 1 → s[j] ≠ 32 from fun j hj h1 h2 => (Nat.lt_or_ge j k).elim (HN.out j hj h1) (fun q => by obtain rfl : j = k := (by omega); exact hc))
        clear hc
        go_wp2
        go_roundw
        case rel => exact ⟨k + 1, fr, D, by omega, by omega, by omega, by push_cast; rfl, rfl, hO, HQ, HN2, HB⟩
        case measure => simp [intOf] <;> omega
    · obtain rfl : k = s.size := by omega
      have hd : decide ((s.size : Int) < (s.size : Int)) = false := decide_eq_false (by omega)
      have HC := Lib.hid (cut_end (fun j hj h => HN.out j hj h hj))
      have HO := Lib.hid hO
      clear hO
      have i1 : (fr : Int) ≤ (s.size : Int) := by omega
      have i2 : (0 : Int) ≤ (fr : Int) := by omega
      have HOc := Lib.hid (OwnR.alloc HO.out (.cells #[.string (s.extract fr s.size)] 9))
      have HRX := Lib.hid (row_new wr [.string (s.extract fr s.size)] 9 1 1 rfl (by unfold maxLen; omega))
      have hs9 := HS.out
      go_wp2_with (at_builtin; (refine wpList_app_row rfl _ _ 41 rfl w.heap.size 9 _ 1 16 Tryd.underlying41 info_strL rfl (by decide) _ _ _ rfl HOc.out _ 1 1 [.string (s.extract fr s.size)] rfl HRX.out (str_oneW (s.extract fr s.size)) ?c1 ?c2 ?c3 ?_))
      case c1 => simp only [maxLen]; omega
      case c2 => omega
      case c3 => have := HB.out.size; simp; omega
      intro v' w7 ho' hb' hg'
      have HB7 := Lib.hid ((belAlloc HB.out (.cells #[.string (s.extract fr s.size)] 9)).trans hb')
      have HO7 := Lib.hid (own_snocM (enc := strB) (x := (s.extract fr s.size).data.toList) (by rw [show strB (s.extract fr s.size).data.toList = .string (s.extract fr s.size) from by unfold strB; rw [bA_self]]; exact ho'))
      clear ho' hb' hg'
      have HQ2 := Lib.hid (show cutsL 32 s.data.toList = D ++ [(s.extract fr s.size).data.toList] from by rw [HQ.out, HC.out])
      have hl9 : (D ++ [(s.extract fr s.size).data.toList]).length = D.length + 1 := by simp
      obtain ⟨va, vc, rfl, _⟩ := rowR_of_own HO7.out
      go_wp2
      go_ret
      rw [HQ2.out]
      exact ⟨⟨va, vc, rfl, HO7.out⟩, HB7.out⟩
end Go.Proofs.YtekakalhknjdaaaDoor
