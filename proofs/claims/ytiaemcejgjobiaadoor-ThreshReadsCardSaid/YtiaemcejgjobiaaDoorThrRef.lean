/- bilgeref06.find, number: contracts. -/
import Derived.Test.YtiaemcejgjobiaaDoorThrTextMath
namespace Go.Proofs.YtiaemcejgjobiaaDoor
open Go.RowKit
set_option linter.unusedVariables false
set_option linter.unusedSimpArgs false

/-- The first place of a byte. -/
def fiI (c : UInt8) (l : List UInt8) : Int := if (cutC c l).2.2 then ((cutC c l).1.length : Int) else -1
theorem at_list (s : ByteArray) {k : Nat} (h : k < s.size) : s.toList = s.toList.take k ++ s[k] :: s.toList.drop (k + 1) := by
  have h2 : k < s.toList.length := by rw [sl_len]; exact h
  have e : s.toList[k] = s[k] := by simp only [sl]; rfl
  rw [← e, ← List.drop_eq_getElem_cons h2, List.take_append_drop]
theorem take_not (s : ByteArray) {k : Nat} (c : UInt8) (hk : k ≤ s.size) (h : ∀ j (hj : j < s.size), j < k → s[j] ≠ c) : c ∉ s.toList.take k := by
  intro hm
  obtain ⟨j, hj, e⟩ := List.mem_take_iff_getElem.1 hm
  rw [sl_len] at hj
  have e2 : s.toList[j]'(by rw [sl_len]; omega) = s[j]'(by omega) := by simp only [sl]; rfl
  exact h j (by omega) (by omega) (e2 ▸ e)
theorem fi_hit (s : ByteArray) {k : Nat} (c : UInt8) (h : k < s.size) (hc : s[k] = c) (hn : ∀ j (hj : j < s.size), j < k → s[j] ≠ c) : fiI c s.toList = k := by
  have e := at_list s h
  rw [hc] at e
  have e2 := cutC_app c (s.toList.drop (k + 1)) (s.toList.take k) (take_not s c (by omega) hn)
  rw [← e] at e2
  unfold fiI
  rw [e2]
  simp only [if_true, List.length_take, sl_len]
  omega
theorem fi_miss (s : ByteArray) (c : UInt8) (hn : ∀ j (hj : j < s.size), j < s.size → s[j] ≠ c) : fiI c s.toList = -1 := by
  have h := take_not s c (Nat.le_refl _) hn
  rw [List.take_of_length_le (by rw [sl_len]; omega)] at h
  unfold fiI
  rw [cutC_no c _ h]; rfl
theorem u8_ne {a c : UInt8} (h : a ≠ c) : (a.toNat : Int) ≠ (c.toNat : Int) := fun e => h (UInt8.toNat_inj.1 (by omega))
set_option maxHeartbeats 1000000 in
theorem ref_find (s : ByteArray) (c : UInt8) (w : World) (hs : s.size ≤ maxLen) : Calls Tryd.prog 41 #[.string s, .int .u8 c.toNat] w fun e w' => e = .returned (.int .i64 (fiI c s.toList)) ∧ w = w' := by
  have hs' : (s.size : Int) ≤ 9223372036854775807 := by unfold maxLen at hs; omega
  go_enter Tryd.func41, Tryd.ntmps41
  go_wp2
  go_loop [5] (fun i => ∃ k : Nat, k ≤ s.size ∧ i = .int .i64 k ∧ ∀ j (hj : j < s.size), j < k → s[j] ≠ c) (fun i => s.size - (intOf i).toNat)
  case atStart => exact ⟨0, Nat.zero_le _, rfl, fun j hj h => absurd h (by omega)⟩
  case round =>
    obtain ⟨k, hk, rfl, hall⟩ := hrel
    by_cases hlt : k < s.size
    · rcases Classical.em (s[k] = c) with hc | hc
      · have HF := Lib.hid (fi_hit s c hlt hc hall)
        have t1 : ((s[k].toNat : Int) == (c.toNat : Int)) = true := by rw [hc]; simp
        clear hall hc
        go_wp2
        go_ret
        exact ⟨by rw [HF.out]; rfl, rfl⟩
      · have HN := Lib.hid (show ∀ j (hj : j < s.size), j < k + 1 → s[j] ≠ c from fun j hj h => by
          rcases Nat.lt_or_ge j k with q | q
          · exact hall j hj q
          · obtain rfl : j = k := by omega
            exact hc)
        have t1 : ((s[k].toNat : Int) == (c.toNat : Int)) = false := by rw [beq_eq_false_iff_ne]; exact u8_ne hc
        clear hall hc
        go_wp2
        go_round
        case rel => exact ⟨k + 1, by omega, by go_num, HN.out⟩
        case measure => simp [intOf]; omega
    · obtain rfl : k = s.size := by omega
      have HF := Lib.hid (fi_miss s c hall)
      clear hall
      go_wp2
      go_ret
      exact ⟨by rw [HF.out]; rfl, rfl⟩

/-- The reference's number, by its loop. -/
theorem numR_end (l : List UInt8) (h1 : l.length ≠ 0) (h2 : l.length ≤ 4) (h3 : ¬ (l.head? = some 48 ∧ 1 < l.length)) (h4 : ∀ c ∈ l, isDg c = true) : numR l = (valN 0 l : Int) := by
  unfold numR
  rw [if_neg]
  rintro (q | q | q | q)
  · exact h1 q
  · omega
  · exact h3 q
  · rw [List.all_eq_true.2 h4] at q; cases q
theorem numR_bad (l : List UInt8) (h : l.length = 0 ∨ 4 < l.length ∨ (l.head? = some 48 ∧ 1 < l.length)) : numR l = -1 := by
  unfold numR
  rw [if_pos]
  rcases h with h | h | h
  · exact .inl h
  · exact .inr (.inl h)
  · exact .inr (.inr (.inl h))
theorem val_bd4 (l : List UInt8) (h : ∀ c ∈ l, isDg c = true) (h4 : l.length ≤ 4) : valN 0 l ≤ 9999 := by
  have := valN_bd l h
  have h2 : 10 ^ l.length ≤ 10 ^ 4 := Nat.pow_le_pow_right (by omega) h4
  omega
set_option maxHeartbeats 2000000 in
theorem rf_number (s : ByteArray) (w : World) (hs : s.size ≤ maxLen) : Calls Tryd.prog 42 #[.string s] w fun e w' => e = .returned (.int .i64 (numR s.toList)) ∧ w = w' := by
  have hs' : (s.size : Int) ≤ 9223372036854775807 := by unfold maxLen at hs; omega
  have hl := sl_len s
  rcases Nat.eq_zero_or_pos s.size with h0 | h0
  · have HF := Lib.hid (numR_bad s.toList (.inl (by rw [hl]; exact h0)))
    clear hl
    have t0 : ((s.size : Int) == 0) = true := by simp [h0]
    have HZ := Lib.hid h0
    clear h0
    go_enter Tryd.func42, Tryd.ntmps42
    go_wp2
    go_ret
    exact ⟨by rw [HF.out]; rfl, rfl⟩
  · have t0 : ((s.size : Int) == 0) = false := by rw [beq_eq_false_iff_ne]; omega
    rcases Nat.lt_or_ge 4 s.size with h4 | h4
    · have HF := Lib.hid (numR_bad s.toList (.inr (.inl (by rw [hl]; exact h4))))
      clear hl
      go_enter Tryd.func42, Tryd.ntmps42
      go_wp2
      go_ret
      exact ⟨by rw [HF.out]; rfl, rfl⟩
    · have hh : s.toList.head? = some s[0] := by
        have := at_list s h0
        rw [this]; simp
      by_cases hz : s[0] = 48 ∧ 1 < s.size
      · have HF := Lib.hid (numR_bad s.toList (.inr (.inr ⟨by rw [hh, hz.1], by rw [hl]; exact hz.2⟩)))
        have t1 : ((s[0].toNat : Int) == 48) = true := by rw [hz.1]; rfl
        have t2 : 1 < s.size := hz.2
        clear hl hh hz
        go_enter Tryd.func42, Tryd.ntmps42
        go_wp2
        go_ret
        exact ⟨by rw [HF.out]; rfl, rfl⟩
      · have hcase : ((s[0].toNat : Int) == 48) = false ∨ (((s[0].toNat : Int) == 48) = true ∧ ¬ 1 < s.size) := by
          rcases Classical.em (s[0] = 48) with q | q
          · exact .inr ⟨by rw [q]; rfl, fun h => hz ⟨q, h⟩⟩
          · exact .inl (by rw [beq_eq_false_iff_ne]; exact u8_ne (c := 48) q)
        have HE := Lib.hid (fun h => numR_end s.toList (by rw [hl]; omega) (by rw [hl]; exact h4) (by rw [hh, hl]; rintro ⟨q1, q2⟩; exact hz ⟨by simpa using q1, q2⟩) h)
        have HL := Lib.hid hl
        clear hl hh hz
        rcases hcase with t1 | ⟨t1, t2⟩
        all_goals
          go_enter Tryd.func42, Tryd.ntmps42
          go_wp2
          go_loop [3, 4] (fun n i => ∃ k : Nat, k ≤ s.size ∧ i = .int .i64 k ∧ (∃ v : Int, n = .int .i64 v ∧ v = (valN 0 (s.toList.take k) : Int)) ∧ ∀ j (hj : j < s.size), j < k → isDg s[j] = true) (fun _ i => s.size - (intOf i).toNat)
          case atStart => exact ⟨0, Nat.zero_le _, rfl, ⟨_, rfl, rfl⟩, fun j hj h => absurd h (by omega)⟩
          case round =>
            obtain ⟨k, hk, rfl, ⟨v, rfl, hv⟩, hall⟩ := hrel
            have hdig : ∀ c ∈ s.toList.take k, isDg c = true := fun c hc => by
              obtain ⟨j, hj, e⟩ := List.mem_take_iff_getElem.1 hc
              rw [HL.out] at hj
              have e2 : s.toList[j]'(by rw [HL.out]; omega) = s[j]'(by omega) := by simp only [sl]; rfl
              rw [← e, e2]; exact hall j (by omega) (by omega)
            have hvb := val_bd4 _ hdig (by rw [List.length_take, HL.out]; omega)
            have hv0 : 0 ≤ v := by rw [hv]; exact Int.natCast_nonneg _
            have hv1 : v ≤ 9999 := by rw [hv]; omega
            by_cases hlt : k < s.size
            · cases hd : isDg s[k] with
              | true =>
                have hb := dg_bd hd
                have HN := Lib.hid (show 10 * v + (s[k].toNat : Int) - 48 = (valN 0 (s.toList.take (k + 1)) : Int) by rw [sl_snoc s hlt, valN_snoc, hv]; push_cast; omega)
                have HA := Lib.hid (show ∀ j (hj : j < s.size), j < k + 1 → isDg s[j] = true from fun j hj h => by
                  rcases Nat.lt_or_ge j k with q | q
                  · exact hall j hj q
                  · obtain rfl : j = k := by omega
                    exact hd)
                have d1 : ¬ (s[k].toNat : Int) < 48 := by omega
                have d2 : ¬ 57 < (s[k].toNat : Int) := by omega
                have d3 : (s[k].toNat : Int) ≤ 57 := by omega
                have d4 : 48 ≤ (s[k].toNat : Int) := by omega
                clear hv hall hdig hvb hd hb
                go_wp2
                go_round
                case rel => exact ⟨k + 1, by omega, by go_num, ⟨_, rfl, HN.out⟩, HA.out⟩
                case measure => simp [intOf]; omega
              | false =>
                have HF := Lib.hid (numR_no (l := s.toList) (c := s[k]) (by rw [at_list s hlt]; simp) hd)
                have hx : (s[k].toNat : Int) < 48 ∨ (¬ (s[k].toNat : Int) < 48 ∧ 57 < (s[k].toNat : Int)) := by
                  unfold isDg at hd
                  simp at hd
                  omega
                clear hv hall hdig hvb hd
                rcases hx with d1 | ⟨d1, d2⟩
                all_goals
                  go_wp2
                  go_ret
                  exact ⟨by rw [HF.out]; rfl, rfl⟩
            · obtain rfl : k = s.size := by omega
              rw [List.take_of_length_le (by rw [HL.out]; omega)] at hv hdig
              have HF := Lib.hid ((HE.out hdig).trans hv.symm)
              clear hv hall hdig hvb
              go_wp2
              go_ret
              exact ⟨by rw [HF.out]; rfl, rfl⟩
end Go.Proofs.YtiaemcejgjobiaaDoor
