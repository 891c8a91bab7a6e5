
/- bilgeref06.find, number: contracts. bilgeref06.Right: contract; the reference's reading as a function, equal to the program's. bilgeref06.Right: contract. -/
import Derived.Test.YtcaenbobfneejaaGreatDoorThrTextMath
namespace Go.Proofs.YtcaenbobfneejaaGreatDoor
open Go.RowKit
set_option linter.unusedVariables false
set_option linter.unusedSimpArgs false

/-- The first place of a byte. -/
def fiI (c : UInt8) (l : List UInt8) : Int := if (cutC c l).2.2 then ((cutC c l).1.length : Int) else -1
theorem at_listT (s : ByteArray) {k : Nat} (h : k < s.size) : s.toList = s.toList.take k ++ s[k] :: s.toList.drop (k + 1) := by
  have h2 : k < s.toList.length := by rw [sl_len]; exact h
  have e : s.toList[k] = s[k] := by simp only [sl]; rfl
  rw [← e, ← List.drop_eq_getElem_cons h2, List.take_append_drop]
theorem take_not (s : ByteArray) {k : Nat} (c : UInt8) (hk : k ≤ s.size) (h : ∀ j (hj : j < s.size), j < k → s[j] ≠ c) : c ∉ s.toList.take k := by
  intro hm
  obtain ⟨j, hj, e⟩ := List.mem_take_iff_getElem.1 hm
  rw [sl_len] at hj
  have e2 : s.toList[j]'(by rw [sl_len]; omega) = s[j]'(by omega) := by simp only [sl]; rfl
  exact h j (by omega) (by omega) (e2 ▸ e)
theorem fi_hit (s : ByteArray) {k : Nat} (c : UInt8) (h : k < s.size) (hc : s[k] = c) (hn : ∀ j (hj : j < s.size), j < k → s[j] ≠ c) : fiI c s.toList = k := by
  have e := at_listT s h
  rw [hc] at e
  have e2 := cutC_app c (s.toList.drop (k + 1)) (s.toList.take k) (take_not s c (by omega) hn)
  rw [← e] at e2
  unfold fiI
  rw [e2]
  simp only [if_true, List.length_take, sl_len]
  omega
theorem fi_miss (s : ByteArray) (c : UInt8) (hn : ∀ j (hj : j < s.size), j < s.size → s[j] ≠ c) : fiI c s.toList = -1 := by
  have h := take_not s c (Nat.le_refl _) hn
  rw [List.take_of_length_le (by rw [sl_len]; omega)] at h
  unfold fiI
  rw [cutC_no c _ h]; rfl
theorem u8_ne {a c : UInt8} (h : a ≠ c) : (a.toNat : Int) ≠ (c.toNat : Int) := fun e => h (UInt8.toNat_inj.1 (by omega))
set_option maxHeartbeats 1000000 in
theorem ref_find (s : ByteArray) (c : UInt8) (w : World) (hs : s.size ≤ maxLen) : Calls Tryz.prog 36 #[.string s, .int .u8 c.toNat] w fun e w' => e = .returned (.int .i64 (fiI c s.toList)) ∧ w = w' := by
  have hs' : (s.size : Int) ≤ 9223372036854775807 := by unfold maxLen at hs; omega
  go_enter Tryz.func36, Tryz.ntmps36
  go_wp2
  go_loop [5] (fun i => ∃ k : Nat, k ≤ s.size ∧ i = .int .i64 k ∧ ∀ j (hj : j < s.size), j < k → s[j] ≠ c) (fun i => s.size - (intOf i).toNat)
  case atStart => exact ⟨0, Nat.zero_le _, rfl, fun j hj h => absurd h (by omega)⟩
  case round =>
    obtain ⟨k, hk, rfl, hall⟩ := hrel
    by_cases hlt : k < s.size
    · rcases Classical.em (s[k] = c) with hc | hc
      · have HF := Lib.hid (fi_hit s c hlt hc hall)
        have t1 : ((s[k].toNat : Int) == (c.toNat : Int)) = true := by rw [hc]; simp
        clear hall hc
        go_wp2
        go_ret
        exact ⟨by rw [HF.out]; rfl, rfl⟩
      · have HN := Lib.hid (show ∀ j (hj : j < s.size), j < k + 1 → s[j] ≠ c from fun j hj h => by
          rcases Nat.lt_or_ge j k with q | q
          · exact hall j hj q
          · obtain rfl : j = k := by omega
            exact hc)
        have t1 : ((s[k].toNat : Int) == (c.toNat : Int)) = false := by rw [beq_eq_false_iff_ne]; exact u8_ne hc
        clear hall hc
        go_wp2
        go_round
        case rel => exact ⟨k + 1, by omega, by go_num, HN.out⟩
        case measure => simp [intOf]; omega
    · obtain rfl : k = s.size := by omega
      have HF := Lib.hid (fi_miss s c hall)
      clear hall
      go_wp2
      go_ret
      exact ⟨by rw [HF.out]; rfl, rfl⟩

/-- The reference's number, by its loop. -/
theorem numR_end (l : List UInt8) (h1 : l.length ≠ 0) (h2 : l.length ≤ 4) (h3 : ¬ (l.head? = some 48 ∧ 1 < l.length)) (h4 : ∀ c ∈ l, isDg c = true) : numR l = (valN 0 l : Int) := by
  unfold numR
  rw [if_neg]
  rintro (q | q | q | q)
  · exact h1 q
  · omega
  · exact h3 q
  · rw [List.all_eq_true.2 h4] at q; cases q
theorem numR_bad (l : List UInt8) (h : l.length = 0 ∨ 4 < l.length ∨ (l.head? = some 48 ∧ 1 < l.length)) : numR l = -1 := by
  unfold numR
  rw [if_pos]
  rcases h with h | h | h
  · exact .inl h
  · exact .inr (.inl h)
  · exact .inr (.inr (.inl h))
theorem val_bd4 (l : List UInt8) (h : ∀ c ∈ l, isDg c = true) (h4 : l.length ≤ 4) : valN 0 l ≤ 9999 := by
  have := valN_bd l h
  have h2 : 10 ^ l.length ≤ 10 ^ 4 := Nat.pow_le_pow_right (by omega) h4
  omega
set_option maxHeartbeats 2000000 in
theorem rf_number (s : ByteArray) (w : World) (hs : s.size ≤ maxLen) : Calls Tryz.prog 38 #[.string s] w fun e w' => e = .returned (.int .i64 (numR s.toList)) ∧ w = w' := by
  have hs' : (s.size : Int) ≤ 9223372036854775807 := by unfold maxLen at hs; omega
  have hl := sl_len s
  rcases Nat.eq_zero_or_pos s.size with h0 | h0
  · have HF := Lib.hid (numR_bad s.toList (.inl (by rw [hl]; exact h0)))
    clear hl
    have t0 : ((s.size : Int) == 0) = true := by simp [h0]
    have HZ := Lib.hid h0
    clear h0
    go_enter Tryz.func38, Tryz.ntmps38
    go_wp2
    go_ret
    exact ⟨by rw [HF.out]; rfl, rfl⟩
  · have t0 : ((s.size : Int) == 0) = false := by rw [beq_eq_false_iff_ne]; omega
    rcases Nat.lt_or_ge 4 s.size with h4 | h4
    · have HF := Lib.hid (numR_bad s.toList (.inr (.inl (by rw [hl]; exact h4))))
      clear hl
      go_enter Tryz.func38, Tryz.ntmps38
      go_wp2
      go_ret
      exact ⟨by rw [HF.out]; rfl, rfl⟩
    · have hh : s.toList.head? = some s[0] := by
        have := at_listT s h0
        rw [this]; simp
      by_cases hz : s[0] = 48 ∧ 1 < s.size
      · have HF := Lib.hid (numR_bad s.toList (.inr (.inr ⟨by rw [hh, hz.1], by rw [hl]; exact hz.2⟩)))
        have t1 : ((s[0].toNat : Int) == 48) = true := by rw [hz.1]; rfl
        have t2 : 1 < s.size := hz.2
        clear hl hh hz
        go_enter Tryz.func38, Tryz.ntmps38
        go_wp2
        go_ret
        exact ⟨by rw [HF.out]; rfl, rfl⟩
      · have hcase : ((s[0].toNat : Int) == 48) = false ∨ (((s[0].toNat : Int) == 48) = true ∧ ¬ 1 < s.size) := by
          rcases Classical.em (s[0] = 48) with q | q
          · exact .inr ⟨by rw [q]; rfl, fun h => hz ⟨q, h⟩⟩
          · exact .inl (by rw [beq_eq_false_iff_ne]; exact u8_ne (c := 48) q)
        have HE := Lib.hid (fun h => numR_end s.toList (by rw [hl]; omega) (by rw [hl]; exact h4) (by rw [hh, hl]; rintro ⟨q1, q2⟩; exact hz ⟨by simpa using q1, q2⟩) h)
        have HL := Lib.hid hl
        clear hl hh hz
        rcases hcase with t1 | ⟨t1, t2⟩
        all_goals
          go_enter Tryz.func38, Tryz.ntmps38
          go_wp2
          go_loop [3, 4] (fun n i => ∃ k : Nat, k ≤ s.size ∧ i = .int .i64 k ∧ (∃ v : Int, n = .int .i64 v ∧ v = (valN 0 (s.toList.take k) : Int)) ∧ ∀ j (hj : j < s.size), j < k → isDg s[j] = true) (fun _ i => s.size - (intOf i).toNat)
          case atStart => exact ⟨0, Nat.zero_le _, rfl, ⟨_, rfl, rfl⟩, fun j hj h => absurd h (by omega)⟩
          case round =>
            obtain ⟨k, hk, rfl, ⟨v, rfl, hv⟩, hall⟩ := hrel
            have hdig : ∀ c ∈ s.toList.take k, isDg c = true := fun c hc => by
              obtain ⟨j, hj, e⟩ := List.mem_take_iff_getElem.1 hc
              rw [HL.out] at hj
              have e2 : s.toList[j]'(by rw [HL.out]; omega) = s[j]'(by omega) := by simp only [sl]; rfl
              rw [← e, e2]; exact hall j (by omega) (by omega)
            have hvb := val_bd4 _ hdig (by rw [List.length_take, HL.out]; omega)
            have hv0 : 0 ≤ v := by rw [hv]; exact Int.natCast_nonneg _
            have hv1 : v ≤ 9999 := by rw [hv]; omega
            by_cases hlt : k < s.size
            · cases hd : isDg s[k] with
              | true =>
                have hb := dg_bd hd
                have HN := Lib.hid (show 10 * v + (s[k].toNat : Int) - 48 = (valN 0 (s.toList.take (k + 1)) : Int) by rw [sl_snoc s hlt, valN_snoc, hv]; push_cast; omega)
                have HA := Lib.hid (show ∀ j (hj : j < s.size), j < k + 1 → isDg s[j] = true from fun j hj h => by
                  rcases Nat.lt_or_ge j k with q | q
                  · exact hall j hj q
                  · obtain rfl : j = k := by omega
                    exact hd)
                have d1 : ¬ (s[k].toNat : Int) < 48 := by omega
                have d2 : ¬ 57 < (s[k].toNat : Int) := by omega
                have d3 : (s[k].toNat : Int) ≤ 57 := by omega
                have d4 : 48 ≤ (s[k].toNat : Int) := by omega
                clear hv hall hdig hvb hd hb
                go_wp2
                go_round
                case rel => exact ⟨k + 1, by omega, by go_num, ⟨_, rfl, HN.out⟩, HA.out⟩
                case measure => simp [intOf]; omega
              | false =>
                have HF := Lib.hid (numR_no (l := s.toList) (c := s[k]) (by rw [at_listT s hlt]; simp) hd)
                have hx : (s[k].toNat : Int) < 48 ∨ (¬ (s[k].toNat : Int) < 48 ∧ 57 < (s[k].toNat : Int)) := by
                  unfold isDg at hd
                  simp at hd
                  omega
                clear hv hall hdig hvb hd
                rcases hx with d1 | ⟨d1, d2⟩
                all_goals
                  go_wp2
                  go_ret
                  exact ⟨by rw [HF.out]; rfl, rfl⟩
            · obtain rfl : k = s.size := by omega
              rw [List.take_of_length_le (by rw [HL.out]; omega)] at hv hdig
              have HF := Lib.hid ((HE.out hdig).trans hv.symm)
              clear hv hall hdig hvb
              go_wp2
              go_ret
              exact ⟨by rw [HF.out]; rfl, rfl⟩
end Go.Proofs.YtcaenbobfneejaaGreatDoor
namespace Go.Proofs.YtcaenbobfneejaaGreatDoor
open Go.RowKit
set_option linter.unusedVariables false
set_option linter.unusedSimpArgs false

/-- What the reference reads behind and before the first of each mark. -/
def thR (l : List UInt8) : Option ThrV :=
  if (cutC 60 l).2.2 then
    match limR (cutC 58 (cutC 60 l).2.1).1 with
    | none => none
    | some (p, a) =>
      if (⟨(sigF (cutC 60 l).1).getD (-1), p, a, (cutC 58 (cutC 60 l).2.1).2.2, if (cutC 58 (cutC 60 l).2.1).2.2 then numR (cutC 58 (cutC 60 l).2.1).2.1 else 0⟩ : ThrV).right then
        some ⟨(sigF (cutC 60 l).1).getD (-1), p, a, (cutC 58 (cutC 60 l).2.1).2.2, if (cutC 58 (cutC 60 l).2.1).2.2 then numR (cutC 58 (cutC 60 l).2.1).2.1 else 0⟩
      else none
  else none
theorem sigF_bd {l : List UInt8} {k : Int} (h : sigF l = some k) : 0 ≤ k ∧ k ≤ 2 := by
  unfold sigF at h
  split at h
  · simp only [Option.some.injEq] at h; omega
  · split at h
    · simp only [Option.some.injEq] at h; omega
    · split at h
      · simp only [Option.some.injEq] at h; omega
      · cases h
theorem rt_false {sg pc am gr : Int} {so : Bool} (h : sg < 0 ∨ 2 < sg ∨ pc < 0 ∨ 100 < pc ∨ am < 0 ∨ (pc = 0 ∧ am = 0) ∨ (pc ≠ 0 ∧ am ≠ 0)) : (⟨sg, pc, am, so, gr⟩ : ThrV).right = false := by
  rw [Bool.eq_false_iff]
  intro q
  unfold ThrV.right at q
  simp only [Bool.and_eq_true, Bool.or_eq_true, decide_eq_true_eq, beq_iff_eq] at q
  obtain ⟨⟨⟨q1, q2⟩, q3⟩, q4⟩ := q
  omega
theorem rt_so {sg pc am gr : Int} (h1 : 0 ≤ sg ∧ sg ≤ 2) (h2 : 0 ≤ pc ∧ pc ≤ 100) (h3 : 0 ≤ am) (h4 : (pc = 0 ∧ am ≠ 0) ∨ (pc ≠ 0 ∧ am = 0)) : (⟨sg, pc, am, true, gr⟩ : ThrV).right = (decide (1 ≤ gr) && decide (gr ≤ 1000)) ∧ (⟨sg, pc, am, false, gr⟩ : ThrV).right = (gr == 0) := by
  unfold ThrV.right
  have e : (decide (0 ≤ sg) && decide (sg ≤ 2) && ((decide (1 ≤ pc) && decide (pc ≤ 100) && am == 0) || (pc == 0 && decide (0 < am)))) = true := by
    simp only [Bool.and_eq_true, Bool.or_eq_true, decide_eq_true_eq, beq_iff_eq]
    omega
  simp only
  rw [e]
  simp only [Bool.true_and, if_true, Bool.false_eq_true, if_false, and_self]
theorem th_eq (l : List UInt8) : thR l = thF l := by
  unfold thR thF
  split
  · generalize (cutC 60 l).1 = a1
    generalize (cutC 60 l).2.1 = v0
    rw [lim_eq]
    generalize (cutC 58 v0).1 = b1
    generalize (cutC 58 v0).2.1 = b2
    generalize (cutC 58 v0).2.2 = so
    cases limR b1 with
    | none =>
      cases sigF a1 <;> rfl
    | some pa =>
      obtain ⟨p, a⟩ := pa
      simp only
      cases hs : sigF a1 with
      | none =>
        rw [if_neg]
        intro q
        unfold ThrV.right at q
        simp at q
      | some k =>
        have hk := sigF_bd hs
        simp only [Option.getD_some]
        unfold grF
        by_cases hp : (1 ≤ p ∧ p ≤ 100 ∧ a = 0) ∨ (p = 0 ∧ 0 < a)
        · rw [if_pos hp]
          cases so with
          | false =>
            simp only [Bool.false_eq_true, if_false]
            rw [if_pos (by rw [(rt_so (gr := 0) hk (by omega) (by omega) (show (p = 0 ∧ a ≠ 0) ∨ (p ≠ 0 ∧ a = 0) by omega)).2]; rfl)]
          | true =>
            simp only [if_true]
            rw [numR_dgv _ _ (by omega)]
            by_cases hg : 1 ≤ numR b2 ∧ numR b2 ≤ 1000
            · rw [if_pos hg, if_pos (by rw [(rt_so hk (by omega) (by omega) (show (p = 0 ∧ a ≠ 0) ∨ (p ≠ 0 ∧ a = 0) by omega)).1, decide_eq_true hg.1, decide_eq_true hg.2]; rfl)]
            · rw [if_neg hg, if_neg]
              intro q
              unfold ThrV.right at q
              simp only [Bool.and_eq_true, Bool.or_eq_true, decide_eq_true_eq, beq_iff_eq, if_true] at q
              exact hg q.2
        · rw [if_neg hp, if_neg]
          intro q
          unfold ThrV.right at q
          simp only [Bool.and_eq_true, Bool.or_eq_true, decide_eq_true_eq, beq_iff_eq] at q
          obtain ⟨⟨⟨q1, q2⟩, q3⟩, q4⟩ := q
          omega
  · rfl
end Go.Proofs.YtcaenbobfneejaaGreatDoor
namespace Go.Proofs.YtcaenbobfneejaaGreatDoor
open Go.RowKit
set_option linter.unusedVariables false
set_option linter.unusedSimpArgs false

set_option maxRecDepth 100000 in
set_option maxHeartbeats 8000000 in
theorem ref_Right (sg pc am gr : Int) (so : Bool) (w : World) : Calls Tryz.prog 22 #[.agg #[.int .i64 sg, .int .i64 pc, .int .i64 am, .bool so, .int .i64 gr]] w fun e w' => e = .returned (.bool (⟨sg, pc, am, so, gr⟩ : ThrV).right) ∧ Below w.heap.size w w' := by
  have hw : Below w.heap.size w w := Below.refl _ _
  have hbel := hw
  rcases Int.lt_or_le sg 0 with h1 | h1
  · have HR := Lib.hid (rt_false (so := so) (gr := gr) (show sg < 0 ∨ 2 < sg ∨ pc < 0 ∨ 100 < pc ∨ am < 0 ∨ (pc = 0 ∧ am = 0) ∨ (pc ≠ 0 ∧ am ≠ 0) by omega))
    go_enter Tryz.func22, Tryz.ntmps22
    go_upto_region 1 with fail
    have tt0 : (w.alloc (.cells #[.int .i64 sg, .int .i64 pc, .int .i64 am, .bool so, .int .i64 gr] 54)).cell? ⟨w.heap.size, 0, none⟩ = some (.int .i64 sg) := by first | (simp; done) | (rw [World.cell?_alloc_at _ _ _ _ (by simp)]; rfl) | (rw [World.cell?_alloc_past _ _ _ (by simp <;> omega), World.cell?_alloc_at _ _ _ _ (by simp)]; rfl) | (rw [World.cell?_alloc_past _ _ _ (by simp <;> omega), World.cell?_alloc_past _ _ _ (by simp <;> omega), World.cell?_alloc_at _ _ _ _ (by simp)]; rfl)
    have tt1 : (w.alloc (.cells #[.int .i64 sg, .int .i64 pc, .int .i64 am, .bool so, .int .i64 gr] 54)).cell? ⟨w.heap.size, 1, none⟩ = some (.int .i64 pc) := by first | (simp; done) | (rw [World.cell?_alloc_at _ _ _ _ (by simp)]; rfl) | (rw [World.cell?_alloc_past _ _ _ (by simp <;> omega), World.cell?_alloc_at _ _ _ _ (by simp)]; rfl) | (rw [World.cell?_alloc_past _ _ _ (by simp <;> omega), World.cell?_alloc_past _ _ _ (by simp <;> omega), World.cell?_alloc_at _ _ _ _ (by simp)]; rfl)
    have tt2 : (w.alloc (.cells #[.int .i64 sg, .int .i64 pc, .int .i64 am, .bool so, .int .i64 gr] 54)).cell? ⟨w.heap.size, 2, none⟩ = some (.int .i64 am) := by first | (simp; done) | (rw [World.cell?_alloc_at _ _ _ _ (by simp)]; rfl) | (rw [World.cell?_alloc_past _ _ _ (by simp <;> omega), World.cell?_alloc_at _ _ _ _ (by simp)]; rfl) | (rw [World.cell?_alloc_past _ _ _ (by simp <;> omega), World.cell?_alloc_past _ _ _ (by simp <;> omega), World.cell?_alloc_at _ _ _ _ (by simp)]; rfl)
    have tt3 : (w.alloc (.cells #[.int .i64 sg, .int .i64 pc, .int .i64 am, .bool so, .int .i64 gr] 54)).cell? ⟨w.heap.size, 3, none⟩ = some (.bool so) := by first | (simp; done) | (rw [World.cell?_alloc_at _ _ _ _ (by simp)]; rfl) | (rw [World.cell?_alloc_past _ _ _ (by simp <;> omega), World.cell?_alloc_at _ _ _ _ (by simp)]; rfl) | (rw [World.cell?_alloc_past _ _ _ (by simp <;> omega), World.cell?_alloc_past _ _ _ (by simp <;> omega), World.cell?_alloc_at _ _ _ _ (by simp)]; rfl)
    have tt4 : (w.alloc (.cells #[.int .i64 sg, .int .i64 pc, .int .i64 am, .bool so, .int .i64 gr] 54)).cell? ⟨w.heap.size, 4, none⟩ = some (.int .i64 gr) := by first | (simp; done) | (rw [World.cell?_alloc_at _ _ _ _ (by simp)]; rfl) | (rw [World.cell?_alloc_past _ _ _ (by simp <;> omega), World.cell?_alloc_at _ _ _ _ (by simp)]; rfl) | (rw [World.cell?_alloc_past _ _ _ (by simp <;> omega), World.cell?_alloc_past _ _ _ (by simp <;> omega), World.cell?_alloc_at _ _ _ _ (by simp)]; rfl)
    have hb2 := (by repeat (first | exact hbel | refine belAlloc ?_ _ | refine belDrew ?_ | refine belSet ?_ _ _ (by simp)) : Below w.heap.size w (w.alloc (.cells #[.int .i64 sg, .int .i64 pc, .int .i64 am, .bool so, .int .i64 gr] 54)))
    replace hw := belStep hw hb2
    clear hb2 hbel
    generalize w.alloc (.cells #[.int .i64 sg, .int .i64 pc, .int .i64 am, .bool so, .int .i64 gr] 54) = W1 at *
    replace tt0 := keep tt0
    replace tt1 := keep tt1
    replace tt2 := keep tt2
    replace tt3 := keep tt3
    replace tt4 := keep tt4
    have hbel : Below W1.heap.size W1 W1 := Below.refl _ _
    skip
    go_wp2
    go_ret
    exact ⟨by rw [HR.out]; rfl, belStep hw hbel⟩
  rcases Int.lt_or_le 2 sg with h2 | h2
  · have HR := Lib.hid (rt_false (so := so) (gr := gr) (show sg < 0 ∨ 2 < sg ∨ pc < 0 ∨ 100 < pc ∨ am < 0 ∨ (pc = 0 ∧ am = 0) ∨ (pc ≠ 0 ∧ am ≠ 0) by omega))
    go_enter Tryz.func22, Tryz.ntmps22
    go_upto_region 1 with fail
    have tt0 : (w.alloc (.cells #[.int .i64 sg, .int .i64 pc, .int .i64 am, .bool so, .int .i64 gr] 54)).cell? ⟨w.heap.size, 0, none⟩ = some (.int .i64 sg) := by first | (simp; done) | (rw [World.cell?_alloc_at _ _ _ _ (by simp)]; rfl) | (rw [World.cell?_alloc_past _ _ _ (by simp <;> omega), World.cell?_alloc_at _ _ _ _ (by simp)]; rfl) | (rw [World.cell?_alloc_past _ _ _ (by simp <;> omega), World.cell?_alloc_past _ _ _ (by simp <;> omega), World.cell?_alloc_at _ _ _ _ (by simp)]; rfl)
    have tt1 : (w.alloc (.cells #[.int .i64 sg, .int .i64 pc, .int .i64 am, .bool so, .int .i64 gr] 54)).cell? ⟨w.heap.size, 1, none⟩ = some (.int .i64 pc) := by first | (simp; done) | (rw [World.cell?_alloc_at _ _ _ _ (by simp)]; rfl) | (rw [World.cell?_alloc_past _ _ _ (by simp <;> omega), World.cell?_alloc_at _ _ _ _ (by simp)]; rfl) | (rw [World.cell?_alloc_past _ _ _ (by simp <;> omega), World.cell?_alloc_past _ _ _ (by simp <;> omega), World.cell?_alloc_at _ _ _ _ (by simp)]; rfl)
    have tt2 : (w.alloc (.cells #[.int .i64 sg, .int .i64 pc, .int .i64 am, .bool so, .int .i64 gr] 54)).cell? ⟨w.heap.size, 2, none⟩ = some (.int .i64 am) := by first | (simp; done) | (rw [World.cell?_alloc_at _ _ _ _ (by simp)]; rfl) | (rw [World.cell?_alloc_past _ _ _ (by simp <;> omega), World.cell?_alloc_at _ _ _ _ (by simp)]; rfl) | (rw [World.cell?_alloc_past _ _ _ (by simp <;> omega), World.cell?_alloc_past _ _ _ (by simp <;> omega), World.cell?_alloc_at _ _ _ _ (by simp)]; rfl)
    have tt3 : (w.alloc (.cells #[.int .i64 sg, .int .i64 pc, .int .i64 am, .bool so, .int .i64 gr] 54)).cell? ⟨w.heap.size, 3, none⟩ = some (.bool so) := by first | (simp; done) | (rw [World.cell?_alloc_at _ _ _ _ (by simp)]; rfl) | (rw [World.cell?_alloc_past _ _ _ (by simp <;> omega), World.cell?_alloc_at _ _ _ _ (by simp)]; rfl) | (rw [World.cell?_alloc_past _ _ _ (by simp <;> omega), World.cell?_alloc_past _ _ _ (by simp <;> omega), World.cell?_alloc_at _ _ _ _ (by simp)]; rfl)
    have tt4 : (w.alloc (.cells #[.int .i64 sg, .int .i64 pc, .int .i64 am, .bool so, .int .i64 gr] 54)).cell? ⟨w.heap.size, 4, none⟩ = some (.int .i64 gr) := by first | (simp; done) | (rw [World.cell?_alloc_at _ _ _ _ (by simp)]; rfl) | (rw [World.cell?_alloc_past _ _ _ (by simp <;> omega), World.cell?_alloc_at _ _ _ _ (by simp)]; rfl) | (rw [World.cell?_alloc_past _ _ _ (by simp <;> omega), World.cell?_alloc_past _ _ _ (by simp <;> omega), World.cell?_alloc_at _ _ _ _ (by simp)]; rfl)
    have hb2 := (by repeat (first | exact hbel | refine belAlloc ?_ _ | refine belDrew ?_ | refine belSet ?_ _ _ (by simp)) : Below w.heap.size w (w.alloc (.cells #[.int .i64 sg, .int .i64 pc, .int .i64 am, .bool so, .int .i64 gr] 54)))
    replace hw := belStep hw hb2
    clear hb2 hbel
    generalize w.alloc (.cells #[.int .i64 sg, .int .i64 pc, .int .i64 am, .bool so, .int .i64 gr] 54) = W1 at *
    replace tt0 := keep tt0
    replace tt1 := keep tt1
    replace tt2 := keep tt2
    replace tt3 := keep tt3
    replace tt4 := keep tt4
    have hbel : Below W1.heap.size W1 W1 := Below.refl _ _
    skip
    go_wp2
    go_ret
    exact ⟨by rw [HR.out]; rfl, belStep hw hbel⟩
  rcases Int.lt_or_le pc 0 with h3 | h3
  · have HR := Lib.hid (rt_false (so := so) (gr := gr) (show sg < 0 ∨ 2 < sg ∨ pc < 0 ∨ 100 < pc ∨ am < 0 ∨ (pc = 0 ∧ am = 0) ∨ (pc ≠ 0 ∧ am ≠ 0) by omega))
    go_enter Tryz.func22, Tryz.ntmps22
    go_upto_region 1 with fail
    have tt0 : (w.alloc (.cells #[.int .i64 sg, .int .i64 pc, .int .i64 am, .bool so, .int .i64 gr] 54)).cell? ⟨w.heap.size, 0, none⟩ = some (.int .i64 sg) := by first | (simp; done) | (rw [World.cell?_alloc_at _ _ _ _ (by simp)]; rfl) | (rw [World.cell?_alloc_past _ _ _ (by simp <;> omega), World.cell?_alloc_at _ _ _ _ (by simp)]; rfl) | (rw [World.cell?_alloc_past _ _ _ (by simp <;> omega), World.cell?_alloc_past _ _ _ (by simp <;> omega), World.cell?_alloc_at _ _ _ _ (by simp)]; rfl)
    have tt1 : (w.alloc (.cells #[.int .i64 sg, .int .i64 pc, .int .i64 am, .bool so, .int .i64 gr] 54)).cell? ⟨w.heap.size, 1, none⟩ = some (.int .i64 pc) := by first | (simp; done) | (rw [World.cell?_alloc_at _ _ _ _ (by simp)]; rfl) | (rw [World.cell?_alloc_past _ _ _ (by simp <;> omega), World.cell?_alloc_at _ _ _ _ (by simp)]; rfl) | (rw [World.cell?_alloc_past _ _ _ (by simp <;> omega), World.cell?_alloc_past _ _ _ (by simp <;> omega), World.cell?_alloc_at _ _ _ _ (by simp)]; rfl)
    have tt2 : (w.alloc (.cells #[.int .i64 sg, .int .i64 pc, .int .i64 am, .bool so, .int .i64 gr] 54)).cell? ⟨w.heap.size, 2, none⟩ = some (.int .i64 am) := by first | (simp; done) | (rw [World.cell?_alloc_at _ _ _ _ (by simp)]; rfl) | (rw [World.cell?_alloc_past _ _ _ (by simp <;> omega), World.cell?_alloc_at _ _ _ _ (by simp)]; rfl) | (rw [World.cell?_alloc_past _ _ _ (by simp <;> omega), World.cell?_alloc_past _ _ _ (by simp <;> omega), World.cell?_alloc_at _ _ _ _ (by simp)]; rfl)
    have tt3 : (w.alloc (.cells #[.int .i64 sg, .int .i64 pc, .int .i64 am, .bool so, .int .i64 gr] 54)).cell? ⟨w.heap.size, 3, none⟩ = some (.bool so) := by first | (simp; done) | (rw [World.cell?_alloc_at _ _ _ _ (by simp)]; rfl) | (rw [World.cell?_alloc_past _ _ _ (by simp <;> omega), World.cell?_alloc_at _ _ _ _ (by simp)]; rfl) | (rw [World.cell?_alloc_past _ _ _ (by simp <;> omega), World.cell?_alloc_past _ _ _ (by simp <;> omega), World.cell?_alloc_at _ _ _ _ (by simp)]; rfl)
    have tt4 : (w.alloc (.cells #[.int .i64 sg, .int .i64 pc, .int .i64 am, .bool so, .int .i64 gr] 54)).cell? ⟨w.heap.size, 4, none⟩ = some (.int .i64 gr) := by first | (simp; done) | (rw [World.cell?_alloc_at _ _ _ _ (by simp)]; rfl) | (rw [World.cell?_alloc_past _ _ _ (by simp <;> omega), World.cell?_alloc_at _ _ _ _ (by simp)]; rfl) | (rw [World.cell?_alloc_past _ _ _ (by simp <;> omega), World.cell?_alloc_past _ _ _ (by simp <;> omega), World.cell?_alloc_at _ _ _ _ (by simp)]; rfl)
    have hb2 := (by repeat (first | exact hbel | refine belAlloc ?_ _ | refine belDrew ?_ | refine belSet ?_ _ _ (by simp)) : Below w.heap.size w (w.alloc (.cells #[.int .i64 sg, .int .i64 pc, .int .i64 am, .bool so, .int .i64 gr] 54)))
    replace hw := belStep hw hb2
    clear hb2 hbel
    generalize w.alloc (.cells #[.int .i64 sg, .int .i64 pc, .int .i64 am, .bool so, .int .i64 gr] 54) = W1 at *
    replace tt0 := keep tt0
    replace tt1 := keep tt1
    replace tt2 := keep tt2
    replace tt3 := keep tt3
    replace tt4 := keep tt4
    have hbel : Below W1.heap.size W1 W1 := Below.refl _ _
    skip
    go_wp2
    go_ret
    exact ⟨by rw [HR.out]; rfl, belStep hw hbel⟩
  rcases Int.lt_or_le 100 pc with h4 | h4
  · have HR := Lib.hid (rt_false (so := so) (gr := gr) (show sg < 0 ∨ 2 < sg ∨ pc < 0 ∨ 100 < pc ∨ am < 0 ∨ (pc = 0 ∧ am = 0) ∨ (pc ≠ 0 ∧ am ≠ 0) by omega))
    go_enter Tryz.func22, Tryz.ntmps22
    go_upto_region 1 with fail
    have tt0 : (w.alloc (.cells #[.int .i64 sg, .int .i64 pc, .int .i64 am, .bool so, .int .i64 gr] 54)).cell? ⟨w.heap.size, 0, none⟩ = some (.int .i64 sg) := by first | (simp; done) | (rw [World.cell?_alloc_at _ _ _ _ (by simp)]; rfl) | (rw [World.cell?_alloc_past _ _ _ (by simp <;> omega), World.cell?_alloc_at _ _ _ _ (by simp)]; rfl) | (rw [World.cell?_alloc_past _ _ _ (by simp <;> omega), World.cell?_alloc_past _ _ _ (by simp <;> omega), World.cell?_alloc_at _ _ _ _ (by simp)]; rfl)
    have tt1 : (w.alloc (.cells #[.int .i64 sg, .int .i64 pc, .int .i64 am, .bool so, .int .i64 gr] 54)).cell? ⟨w.heap.size, 1, none⟩ = some (.int .i64 pc) := by first | (simp; done) | (rw [World.cell?_alloc_at _ _ _ _ (by simp)]; rfl) | (rw [World.cell?_alloc_past _ _ _ (by simp <;> omega), World.cell?_alloc_at _ _ _ _ (by simp)]; rfl) | (rw [World.cell?_alloc_past _ _ _ (by simp <;> omega), World.cell?_alloc_past _ _ _ (by simp <;> omega), World.cell?_alloc_at _ _ _ _ (by simp)]; rfl)
    have tt2 : (w.alloc (.cells #[.int .i64 sg, .int .i64 pc, .int .i64 am, .bool so, .int .i64 gr] 54)).cell? ⟨w.heap.size, 2, none⟩ = some (.int .i64 am) := by first | (simp; done) | (rw [World.cell?_alloc_at _ _ _ _ (by simp)]; rfl) | (rw [World.cell?_alloc_past _ _ _ (by simp <;> omega), World.cell?_alloc_at _ _ _ _ (by simp)]; rfl) | (rw [World.cell?_alloc_past _ _ _ (by simp <;> omega), World.cell?_alloc_past _ _ _ (by simp <;> omega), World.cell?_alloc_at _ _ _ _ (by simp)]; rfl)
    have tt3 : (w.alloc (.cells #[.int .i64 sg, .int .i64 pc, .int .i64 am, .bool so, .int .i64 gr] 54)).cell? ⟨w.heap.size, 3, none⟩ = some (.bool so) := by first | (simp; done) | (rw [World.cell?_alloc_at _ _ _ _ (by simp)]; rfl) | (rw [World.cell?_alloc_past _ _ _ (by simp <;> omega), World.cell?_alloc_at _ _ _ _ (by simp)]; rfl) | (rw [World.cell?_alloc_past _ _ _ (by simp <;> omega), World.cell?_alloc_past _ _ _ (by simp <;> omega), World.cell?_alloc_at _ _ _ _ (by simp)]; rfl)
    have tt4 : (w.alloc (.cells #[.int .i64 sg, .int .i64 pc, .int .i64 am, .bool so, .int .i64 gr] 54)).cell? ⟨w.heap.size, 4, none⟩ = some (.int .i64 gr) := by first | (simp; done) | (rw [World.cell?_alloc_at _ _ _ _ (by simp)]; rfl) | (rw [World.cell?_alloc_past _ _ _ (by simp <;> omega), World.cell?_alloc_at _ _ _ _ (by simp)]; rfl) | (rw [World.cell?_alloc_past _ _ _ (by simp <;> omega), World.cell?_alloc_past _ _ _ (by simp <;> omega), World.cell?_alloc_at _ _ _ _ (by simp)]; rfl)
    have hb2 := (by repeat (first | exact hbel | refine belAlloc ?_ _ | refine belDrew ?_ | refine belSet ?_ _ _ (by simp)) : Below w.heap.size w (w.alloc (.cells #[.int .i64 sg, .int .i64 pc, .int .i64 am, .bool so, .int .i64 gr] 54)))
    replace hw := belStep hw hb2
    clear hb2 hbel
    generalize w.alloc (.cells #[.int .i64 sg, .int .i64 pc, .int .i64 am, .bool so, .int .i64 gr] 54) = W1 at *
    replace tt0 := keep tt0
    replace tt1 := keep tt1
    replace tt2 := keep tt2
    replace tt3 := keep tt3
    replace tt4 := keep tt4
    have hbel : Below W1.heap.size W1 W1 := Below.refl _ _
    skip
    go_wp2
    go_ret
    exact ⟨by rw [HR.out]; rfl, belStep hw hbel⟩
  rcases Int.lt_or_le am 0 with h5 | h5
  · have HR := Lib.hid (rt_false (so := so) (gr := gr) (show sg < 0 ∨ 2 < sg ∨ pc < 0 ∨ 100 < pc ∨ am < 0 ∨ (pc = 0 ∧ am = 0) ∨ (pc ≠ 0 ∧ am ≠ 0) by omega))
    go_enter Tryz.func22, Tryz.ntmps22
    go_upto_region 1 with fail
    have tt0 : (w.alloc (.cells #[.int .i64 sg, .int .i64 pc, .int .i64 am, .bool so, .int .i64 gr] 54)).cell? ⟨w.heap.size, 0, none⟩ = some (.int .i64 sg) := by first | (simp; done) | (rw [World.cell?_alloc_at _ _ _ _ (by simp)]; rfl) | (rw [World.cell?_alloc_past _ _ _ (by simp <;> omega), World.cell?_alloc_at _ _ _ _ (by simp)]; rfl) | (rw [World.cell?_alloc_past _ _ _ (by simp <;> omega), World.cell?_alloc_past _ _ _ (by simp <;> omega), World.cell?_alloc_at _ _ _ _ (by simp)]; rfl)
    have tt1 : (w.alloc (.cells #[.int .i64 sg, .int .i64 pc, .int .i64 am, .bool so, .int .i64 gr] 54)).cell? ⟨w.heap.size, 1, none⟩ = some (.int .i64 pc) := by first | (simp; done) | (rw [World.cell?_alloc_at _ _ _ _ (by simp)]; rfl) | (rw [World.cell?_alloc_past _ _ _ (by simp <;> omega), World.cell?_alloc_at _ _ _ _ (by simp)]; rfl) | (rw [World.cell?_alloc_past _ _ _ (by simp <;> omega), World.cell?_alloc_past _ _ _ (by simp <;> omega), World.cell?_alloc_at _ _ _ _ (by simp)]; rfl)
    have tt2 : (w.alloc (.cells #[.int .i64 sg, .int .i64 pc, .int .i64 am, .bool so, .int .i64 gr] 54)).cell? ⟨w.heap.size, 2, none⟩ = some (.int .i64 am) := by first | (simp; done) | (rw [World.cell?_alloc_at _ _ _ _ (by simp)]; rfl) | (rw [World.cell?_alloc_past _ _ _ (by simp <;> omega), World.cell?_alloc_at _ _ _ _ (by simp)]; rfl) | (rw [World.cell?_alloc_past _ _ _ (by simp <;> omega), World.cell?_alloc_past _ _ _ (by simp <;> omega), World.cell?_alloc_at _ _ _ _ (by simp)]; rfl)
    have tt3 : (w.alloc (.cells #[.int .i64 sg, .int .i64 pc, .int .i64 am, .bool so, .int .i64 gr] 54)).cell? ⟨w.heap.size, 3, none⟩ = some (.bool so) := by first | (simp; done) | (rw [World.cell?_alloc_at _ _ _ _ (by simp)]; rfl) | (rw [World.cell?_alloc_past _ _ _ (by simp <;> omega), World.cell?_alloc_at _ _ _ _ (by simp)]; rfl) | (rw [World.cell?_alloc_past _ _ _ (by simp <;> omega), World.cell?_alloc_past _ _ _ (by simp <;> omega), World.cell?_alloc_at _ _ _ _ (by simp)]; rfl)
    have tt4 : (w.alloc (.cells #[.int .i64 sg, .int .i64 pc, .int .i64 am, .bool so, .int .i64 gr] 54)).cell? ⟨w.heap.size, 4, none⟩ = some (.int .i64 gr) := by first | (simp; done) | (rw [World.cell?_alloc_at _ _ _ _ (by simp)]; rfl) | (rw [World.cell?_alloc_past _ _ _ (by simp <;> omega), World.cell?_alloc_at _ _ _ _ (by simp)]; rfl) | (rw [World.cell?_alloc_past _ _ _ (by simp <;> omega), World.cell?_alloc_past _ _ _ (by simp <;> omega), World.cell?_alloc_at _ _ _ _ (by simp)]; rfl)
    have hb2 := (by repeat (first | exact hbel | refine belAlloc ?_ _ | refine belDrew ?_ | refine belSet ?_ _ _ (by simp)) : Below w.heap.size w (w.alloc (.cells #[.int .i64 sg, .int .i64 pc, .int .i64 am, .bool so, .int .i64 gr] 54)))
    replace hw := belStep hw hb2
    clear hb2 hbel
    generalize w.alloc (.cells #[.int .i64 sg, .int .i64 pc, .int .i64 am, .bool so, .int .i64 gr] 54) = W1 at *
    replace tt0 := keep tt0
    replace tt1 := keep tt1
    replace tt2 := keep tt2
    replace tt3 := keep tt3
    replace tt4 := keep tt4
    have hbel : Below W1.heap.size W1 W1 := Below.refl _ _
    skip
    go_wp2
    go_ret
    exact ⟨by rw [HR.out]; rfl, belStep hw hbel⟩
  have key : ((pc == 0) = true ∧ (am == 0) = true ∧ pc = 0 ∧ am = 0) ∨ ((pc == 0) = false ∧ (am == 0) = false ∧ pc ≠ 0 ∧ am ≠ 0) ∨ ((pc == 0) = true ∧ (am == 0) = false ∧ pc = 0 ∧ am ≠ 0) ∨ ((pc == 0) = false ∧ (am == 0) = true ∧ pc ≠ 0 ∧ am = 0) := by
    rcases Int.decEq pc 0 with a | a <;> rcases Int.decEq am 0 with b | b <;> simp [a, b]
  rcases key with ⟨t1, t2, k1, k2⟩ | ⟨t1, t2, k1, k2⟩ | ⟨t1, t2, k1, k2⟩ | ⟨t1, t2, k1, k2⟩
  · have HR := Lib.hid (rt_false (sg := sg) (so := so) (gr := gr) (show sg < 0 ∨ 2 < sg ∨ pc < 0 ∨ 100 < pc ∨ am < 0 ∨ (pc = 0 ∧ am = 0) ∨ (pc ≠ 0 ∧ am ≠ 0) by omega))
    clear k1 k2
    go_enter Tryz.func22, Tryz.ntmps22
    go_upto_region 1 with fail
    have tt0 : (w.alloc (.cells #[.int .i64 sg, .int .i64 pc, .int .i64 am, .bool so, .int .i64 gr] 54)).cell? ⟨w.heap.size, 0, none⟩ = some (.int .i64 sg) := by first | (simp; done) | (rw [World.cell?_alloc_at _ _ _ _ (by simp)]; rfl) | (rw [World.cell?_alloc_past _ _ _ (by simp <;> omega), World.cell?_alloc_at _ _ _ _ (by simp)]; rfl) | (rw [World.cell?_alloc_past _ _ _ (by simp <;> omega), World.cell?_alloc_past _ _ _ (by simp <;> omega), World.cell?_alloc_at _ _ _ _ (by simp)]; rfl)
    have tt1 : (w.alloc (.cells #[.int .i64 sg, .int .i64 pc, .int .i64 am, .bool so, .int .i64 gr] 54)).cell? ⟨w.heap.size, 1, none⟩ = some (.int .i64 pc) := by first | (simp; done) | (rw [World.cell?_alloc_at _ _ _ _ (by simp)]; rfl) | (rw [World.cell?_alloc_past _ _ _ (by simp <;> omega), World.cell?_alloc_at _ _ _ _ (by simp)]; rfl) | (rw [World.cell?_alloc_past _ _ _ (by simp <;> omega), World.cell?_alloc_past _ _ _ (by simp <;> omega), World.cell?_alloc_at _ _ _ _ (by simp)]; rfl)
    have tt2 : (w.alloc (.cells #[.int .i64 sg, .int .i64 pc, .int .i64 am, .bool so, .int .i64 gr] 54)).cell? ⟨w.heap.size, 2, none⟩ = some (.int .i64 am) := by first | (simp; done) | (rw [World.cell?_alloc_at _ _ _ _ (by simp)]; rfl) | (rw [World.cell?_alloc_past _ _ _ (by simp <;> omega), World.cell?_alloc_at _ _ _ _ (by simp)]; rfl) | (rw [World.cell?_alloc_past _ _ _ (by simp <;> omega), World.cell?_alloc_past _ _ _ (by simp <;> omega), World.cell?_alloc_at _ _ _ _ (by simp)]; rfl)
    have tt3 : (w.alloc (.cells #[.int .i64 sg, .int .i64 pc, .int .i64 am, .bool so, .int .i64 gr] 54)).cell? ⟨w.heap.size, 3, none⟩ = some (.bool so) := by first | (simp; done) | (rw [World.cell?_alloc_at _ _ _ _ (by simp)]; rfl) | (rw [World.cell?_alloc_past _ _ _ (by simp <;> omega), World.cell?_alloc_at _ _ _ _ (by simp)]; rfl) | (rw [World.cell?_alloc_past _ _ _ (by simp <;> omega), World.cell?_alloc_past _ _ _ (by simp <;> omega), World.cell?_alloc_at _ _ _ _ (by simp)]; rfl)
    have tt4 : (w.alloc (.cells #[.int .i64 sg, .int .i64 pc, .int .i64 am, .bool so, .int .i64 gr] 54)).cell? ⟨w.heap.size, 4, none⟩ = some (.int .i64 gr) := by first | (simp; done) | (rw [World.cell?_alloc_at _ _ _ _ (by simp)]; rfl) | (rw [World.cell?_alloc_past _ _ _ (by simp <;> omega), World.cell?_alloc_at _ _ _ _ (by simp)]; rfl) | (rw [World.cell?_alloc_past _ _ _ (by simp <;> omega), World.cell?_alloc_past _ _ _ (by simp <;> omega), World.cell?_alloc_at _ _ _ _ (by simp)]; rfl)
    have hb2 := (by repeat (first | exact hbel | refine belAlloc ?_ _ | refine belDrew ?_ | refine belSet ?_ _ _ (by simp)) : Below w.heap.size w (w.alloc (.cells #[.int .i64 sg, .int .i64 pc, .int .i64 am, .bool so, .int .i64 gr] 54)))
    replace hw := belStep hw hb2
    clear hb2 hbel
    generalize w.alloc (.cells #[.int .i64 sg, .int .i64 pc, .int .i64 am, .bool so, .int .i64 gr] 54) = W1 at *
    replace tt0 := keep tt0
    replace tt1 := keep tt1
    replace tt2 := keep tt2
    replace tt3 := keep tt3
    replace tt4 := keep tt4
    have hbel : Below W1.heap.size W1 W1 := Below.refl _ _
    skip
    go_wp2
    go_ret
    exact ⟨by rw [HR.out]; rfl, belStep hw hbel⟩
  · have HR := Lib.hid (rt_false (sg := sg) (so := so) (gr := gr) (show sg < 0 ∨ 2 < sg ∨ pc < 0 ∨ 100 < pc ∨ am < 0 ∨ (pc = 0 ∧ am = 0) ∨ (pc ≠ 0 ∧ am ≠ 0) by omega))
    clear k1 k2
    go_enter Tryz.func22, Tryz.ntmps22
    go_upto_region 1 with fail
    have tt0 : (w.alloc (.cells #[.int .i64 sg, .int .i64 pc, .int .i64 am, .bool so, .int .i64 gr] 54)).cell? ⟨w.heap.size, 0, none⟩ = some (.int .i64 sg) := by first | (simp; done) | (rw [World.cell?_alloc_at _ _ _ _ (by simp)]; rfl) | (rw [World.cell?_alloc_past _ _ _ (by simp <;> omega), World.cell?_alloc_at _ _ _ _ (by simp)]; rfl) | (rw [World.cell?_alloc_past _ _ _ (by simp <;> omega), World.cell?_alloc_past _ _ _ (by simp <;> omega), World.cell?_alloc_at _ _ _ _ (by simp)]; rfl)
    have tt1 : (w.alloc (.cells #[.int .i64 sg, .int .i64 pc, .int .i64 am, .bool so, .int .i64 gr] 54)).cell? ⟨w.heap.size, 1, none⟩ = some (.int .i64 pc) := by first | (simp; done) | (rw [World.cell?_alloc_at _ _ _ _ (by simp)]; rfl) | (rw [World.cell?_alloc_past _ _ _ (by simp <;> omega), World.cell?_alloc_at _ _ _ _ (by simp)]; rfl) | (rw [World.cell?_alloc_past _ _ _ (by simp <;> omega), World.cell?_alloc_past _ _ _ (by simp <;> omega), World.cell?_alloc_at _ _ _ _ (by simp)]; rfl)
    have tt2 : (w.alloc (.cells #[.int .i64 sg, .int .i64 pc, .int .i64 am, .bool so, .int .i64 gr] 54)).cell? ⟨w.heap.size, 2, none⟩ = some (.int .i64 am) := by first | (simp; done) | (rw [World.cell?_alloc_at _ _ _ _ (by simp)]; rfl) | (rw [World.cell?_alloc_past _ _ _ (by simp <;> omega), World.cell?_alloc_at _ _ _ _ (by simp)]; rfl) | (rw [World.cell?_alloc_past _ _ _ (by simp <;> omega), World.cell?_alloc_past _ _ _ (by simp <;> omega), World.cell?_alloc_at _ _ _ _ (by simp)]; rfl)
    have tt3 : (w.alloc (.cells #[.int .i64 sg, .int .i64 pc, .int .i64 am, .bool so, .int .i64 gr] 54)).cell? ⟨w.heap.size, 3, none⟩ = some (.bool so) := by first | (simp; done) | (rw [World.cell?_alloc_at _ _ _ _ (by simp)]; rfl) | (rw [World.cell?_alloc_past _ _ _ (by simp <;> omega), World.cell?_alloc_at _ _ _ _ (by simp)]; rfl) | (rw [World.cell?_alloc_past _ _ _ (by simp <;> omega), World.cell?_alloc_past _ _ _ (by simp <;> omega), World.cell?_alloc_at _ _ _ _ (by simp)]; rfl)
    have tt4 : (w.alloc (.cells #[.int .i64 sg, .int .i64 pc, .int .i64 am, .bool so, .int .i64 gr] 54)).cell? ⟨w.heap.size, 4, none⟩ = some (.int .i64 gr) := by first | (simp; done) | (rw [World.cell?_alloc_at _ _ _ _ (by simp)]; rfl) | (rw [World.cell?_alloc_past _ _ _ (by simp <;> omega), World.cell?_alloc_at _ _ _ _ (by simp)]; rfl) | (rw [World.cell?_alloc_past _ _ _ (by simp <;> omega), World.cell?_alloc_past _ _ _ (by simp <;> omega), World.cell?_alloc_at _ _ _ _ (by simp)]; rfl)
    have hb2 := (by repeat (first | exact hbel | refine belAlloc ?_ _ | refine belDrew ?_ | refine belSet ?_ _ _ (by simp)) : Below w.heap.size w (w.alloc (.cells #[.int .i64 sg, .int .i64 pc, .int .i64 am, .bool so, .int .i64 gr] 54)))
    replace hw := belStep hw hb2
    clear hb2 hbel
    generalize w.alloc (.cells #[.int .i64 sg, .int .i64 pc, .int .i64 am, .bool so, .int .i64 gr] 54) = W1 at *
    replace tt0 := keep tt0
    replace tt1 := keep tt1
    replace tt2 := keep tt2
    replace tt3 := keep tt3
    replace tt4 := keep tt4
    have hbel : Below W1.heap.size W1 W1 := Below.refl _ _
    skip
    go_wp2
    go_ret
    exact ⟨by rw [HR.out]; rfl, belStep hw hbel⟩
  · have hh := rt_so (sg := sg) (pc := pc) (am := am) (gr := gr) (by omega) (by omega) h5 (by omega)
    clear k1 k2
    cases so with
    | true =>
      have HR := Lib.hid hh.1
      clear hh
      rcases Int.lt_or_le gr 1 with g1 | g1
      · have HR := Lib.hid (show (⟨sg, pc, am, true, gr⟩ : ThrV).right = false by rw [HR.out, decide_eq_false (by omega)]; rfl)
        go_enter Tryz.func22, Tryz.ntmps22
        go_upto_region 1 with fail
        have tt0 : (w.alloc (.cells #[.int .i64 sg, .int .i64 pc, .int .i64 am, .bool true, .int .i64 gr] 54)).cell? ⟨w.heap.size, 0, none⟩ = some (.int .i64 sg) := by first | (simp; done) | (rw [World.cell?_alloc_at _ _ _ _ (by simp)]; rfl) | (rw [World.cell?_alloc_past _ _ _ (by simp <;> omega), World.cell?_alloc_at _ _ _ _ (by simp)]; rfl) | (rw [World.cell?_alloc_past _ _ _ (by simp <;> omega), World.cell?_alloc_past _ _ _ (by simp <;> omega), World.cell?_alloc_at _ _ _ _ (by simp)]; rfl)
        have tt1 : (w.alloc (.cells #[.int .i64 sg, .int .i64 pc, .int .i64 am, .bool true, .int .i64 gr] 54)).cell? ⟨w.heap.size, 1, none⟩ = some (.int .i64 pc) := by first | (simp; done) | (rw [World.cell?_alloc_at _ _ _ _ (by simp)]; rfl) | (rw [World.cell?_alloc_past _ _ _ (by simp <;> omega), World.cell?_alloc_at _ _ _ _ (by simp)]; rfl) | (rw [World.cell?_alloc_past _ _ _ (by simp <;> omega), World.cell?_alloc_past _ _ _ (by simp <;> omega), World.cell?_alloc_at _ _ _ _ (by simp)]; rfl)
        have tt2 : (w.alloc (.cells #[.int .i64 sg, .int .i64 pc, .int .i64 am, .bool true, .int .i64 gr] 54)).cell? ⟨w.heap.size, 2, none⟩ = some (.int .i64 am) := by first | (simp; done) | (rw [World.cell?_alloc_at _ _ _ _ (by simp)]; rfl) | (rw [World.cell?_alloc_past _ _ _ (by simp <;> omega), World.cell?_alloc_at _ _ _ _ (by simp)]; rfl) | (rw [World.cell?_alloc_past _ _ _ (by simp <;> omega), World.cell?_alloc_past _ _ _ (by simp <;> omega), World.cell?_alloc_at _ _ _ _ (by simp)]; rfl)
        have tt3 : (w.alloc (.cells #[.int .i64 sg, .int .i64 pc, .int .i64 am, .bool true, .int .i64 gr] 54)).cell? ⟨w.heap.size, 3, none⟩ = some (.bool true) := by first | (simp; done) | (rw [World.cell?_alloc_at _ _ _ _ (by simp)]; rfl) | (rw [World.cell?_alloc_past _ _ _ (by simp <;> omega), World.cell?_alloc_at _ _ _ _ (by simp)]; rfl) | (rw [World.cell?_alloc_past _ _ _ (by simp <;> omega), World.cell?_alloc_past _ _ _ (by simp <;> omega), World.cell?_alloc_at _ _ _ _ (by simp)]; rfl)
        have tt4 : (w.alloc (.cells #[.int .i64 sg, .int .i64 pc, .int .i64 am, .bool true, .int .i64 gr] 54)).cell? ⟨w.heap.size, 4, none⟩ = some (.int .i64 gr) := by first | (simp; done) | (rw [World.cell?_alloc_at _ _ _ _ (by simp)]; rfl) | (rw [World.cell?_alloc_past _ _ _ (by simp <;> omega), World.cell?_alloc_at _ _ _ _ (by simp)]; rfl) | (rw [World.cell?_alloc_past _ _ _ (by simp <;> omega), World.cell?_alloc_past _ _ _ (by simp <;> omega), World.cell?_alloc_at _ _ _ _ (by simp)]; rfl)
        have hb2 := (by repeat (first | exact hbel | refine belAlloc ?_ _ | refine belDrew ?_ | refine belSet ?_ _ _ (by simp)) : Below w.heap.size w (w.alloc (.cells #[.int .i64 sg, .int .i64 pc, .int .i64 am, .bool true, .int .i64 gr] 54)))
        replace hw := belStep hw hb2
        clear hb2 hbel
        generalize w.alloc (.cells #[.int .i64 sg, .int .i64 pc, .int .i64 am, .bool true, .int .i64 gr] 54) = W1 at *
        replace tt0 := keep tt0
        replace tt1 := keep tt1
        replace tt2 := keep tt2
        replace tt3 := keep tt3
        replace tt4 := keep tt4
        have hbel : Below W1.heap.size W1 W1 := Below.refl _ _
        skip
        go_wp2
        go_ret
        exact ⟨by rw [HR.out]; rfl, belStep hw hbel⟩
      · have HR := Lib.hid (show (⟨sg, pc, am, true, gr⟩ : ThrV).right = decide (gr ≤ 1000) by rw [HR.out, decide_eq_true (by omega)]; rfl)
        go_enter Tryz.func22, Tryz.ntmps22
        go_upto_region 1 with fail
        have tt0 : (w.alloc (.cells #[.int .i64 sg, .int .i64 pc, .int .i64 am, .bool true, .int .i64 gr] 54)).cell? ⟨w.heap.size, 0, none⟩ = some (.int .i64 sg) := by first | (simp; done) | (rw [World.cell?_alloc_at _ _ _ _ (by simp)]; rfl) | (rw [World.cell?_alloc_past _ _ _ (by simp <;> omega), World.cell?_alloc_at _ _ _ _ (by simp)]; rfl) | (rw [World.cell?_alloc_past _ _ _ (by simp <;> omega), World.cell?_alloc_past _ _ _ (by simp <;> omega), World.cell?_alloc_at _ _ _ _ (by simp)]; rfl)
        have tt1 : (w.alloc (.cells #[.int .i64 sg, .int .i64 pc, .int .i64 am, .bool true, .int .i64 gr] 54)).cell? ⟨w.heap.size, 1, none⟩ = some (.int .i64 pc) := by first | (simp; done) | (rw [World.cell?_alloc_at _ _ _ _ (by simp)]; rfl) | (rw [World.cell?_alloc_past _ _ _ (by simp <;> omega), World.cell?_alloc_at _ _ _ _ (by simp)]; rfl) | (rw [World.cell?_alloc_past _ _ _ (by simp <;> omega), World.cell?_alloc_past _ _ _ (by simp <;> omega), World.cell?_alloc_at _ _ _ _ (by simp)]; rfl)
        have tt2 : (w.alloc (.cells #[.int .i64 sg, .int .i64 pc, .int .i64 am, .bool true, .int .i64 gr] 54)).cell? ⟨w.heap.size, 2, none⟩ = some (.int .i64 am) := by first | (simp; done) | (rw [World.cell?_alloc_at _ _ _ _ (by simp)]; rfl) | (rw [World.cell?_alloc_past _ _ _ (by simp <;> omega), World.cell?_alloc_at _ _ _ _ (by simp)]; rfl) | (rw [World.cell?_alloc_past _ _ _ (by simp <;> omega), World.cell?_alloc_past _ _ _ (by simp <;> omega), World.cell?_alloc_at _ _ _ _ (by simp)]; rfl)
        have tt3 : (w.alloc (.cells #[.int .i64 sg, .int .i64 pc, .int .i64 am, .bool true, .int .i64 gr] 54)).cell? ⟨w.heap.size, 3, none⟩ = some (.bool true) := by first | (simp; done) | (rw [World.cell?_alloc_at _ _ _ _ (by simp)]; rfl) | (rw [World.cell?_alloc_past _ _ _ (by simp <;> omega), World.cell?_alloc_at _ _ _ _ (by simp)]; rfl) | (rw [World.cell?_alloc_past _ _ _ (by simp <;> omega), World.cell?_alloc_past _ _ _ (by simp <;> omega), World.cell?_alloc_at _ _ _ _ (by simp)]; rfl)
        have tt4 : (w.alloc (.cells #[.int .i64 sg, .int .i64 pc, .int .i64 am, .bool true, .int .i64 gr] 54)).cell? ⟨w.heap.size, 4, none⟩ = some (.int .i64 gr) := by first | (simp; done) | (rw [World.cell?_alloc_at _ _ _ _ (by simp)]; rfl) | (rw [World.cell?_alloc_past _ _ _ (by simp <;> omega), World.cell?_alloc_at _ _ _ _ (by simp)]; rfl) | (rw [World.cell?_alloc_past _ _ _ (by simp <;> omega), World.cell?_alloc_past _ _ _ (by simp <;> omega), World.cell?_alloc_at _ _ _ _ (by simp)]; rfl)
        have hb2 := (by repeat (first | exact hbel | refine belAlloc ?_ _ | refine belDrew ?_ | refine belSet ?_ _ _ (by simp)) : Below w.heap.size w (w.alloc (.cells #[.int .i64 sg, .int .i64 pc, .int .i64 am, .bool true, .int .i64 gr] 54)))
        replace hw := belStep hw hb2
        clear hb2 hbel
        generalize w.alloc (.cells #[.int .i64 sg, .int .i64 pc, .int .i64 am, .bool true, .int .i64 gr] 54) = W1 at *
        replace tt0 := keep tt0
        replace tt1 := keep tt1
        replace tt2 := keep tt2
        replace tt3 := keep tt3
        replace tt4 := keep tt4
        have hbel : Below W1.heap.size W1 W1 := Below.refl _ _
        skip
        go_wp2
        go_ret
        exact ⟨by rw [HR.out]; rfl, belStep hw hbel⟩
    | false =>
      have HR := Lib.hid hh.2
      clear hh
      go_enter Tryz.func22, Tryz.ntmps22
      go_upto_region 1 with fail
      have tt0 : (w.alloc (.cells #[.int .i64 sg, .int .i64 pc, .int .i64 am, .bool false, .int .i64 gr] 54)).cell? ⟨w.heap.size, 0, none⟩ = some (.int .i64 sg) := by first | (simp; done) | (rw [World.cell?_alloc_at _ _ _ _ (by simp)]; rfl) | (rw [World.cell?_alloc_past _ _ _ (by simp <;> omega), World.cell?_alloc_at _ _ _ _ (by simp)]; rfl) | (rw [World.cell?_alloc_past _ _ _ (by simp <;> omega), World.cell?_alloc_past _ _ _ (by simp <;> omega), World.cell?_alloc_at _ _ _ _ (by simp)]; rfl)
      have tt1 : (w.alloc (.cells #[.int .i64 sg, .int .i64 pc, .int .i64 am, .bool false, .int .i64 gr] 54)).cell? ⟨w.heap.size, 1, none⟩ = some (.int .i64 pc) := by first | (simp; done) | (rw [World.cell?_alloc_at _ _ _ _ (by simp)]; rfl) | (rw [World.cell?_alloc_past _ _ _ (by simp <;> omega), World.cell?_alloc_at _ _ _ _ (by simp)]; rfl) | (rw [World.cell?_alloc_past _ _ _ (by simp <;> omega), World.cell?_alloc_past _ _ _ (by simp <;> omega), World.cell?_alloc_at _ _ _ _ (by simp)]; rfl)
      have tt2 : (w.alloc (.cells #[.int .i64 sg, .int .i64 pc, .int .i64 am, .bool false, .int .i64 gr] 54)).cell? ⟨w.heap.size, 2, none⟩ = some (.int .i64 am) := by first | (simp; done) | (rw [World.cell?_alloc_at _ _ _ _ (by simp)]; rfl) | (rw [World.cell?_alloc_past _ _ _ (by simp <;> omega), World.cell?_alloc_at _ _ _ _ (by simp)]; rfl) | (rw [World.cell?_alloc_past _ _ _ (by simp <;> omega), World.cell?_alloc_past _ _ _ (by simp <;> omega), World.cell?_alloc_at _ _ _ _ (by simp)]; rfl)
      have tt3 : (w.alloc (.cells #[.int .i64 sg, .int .i64 pc, .int .i64 am, .bool false, .int .i64 gr] 54)).cell? ⟨w.heap.size, 3, none⟩ = some (.bool false) := by first | (simp; done) | (rw [World.cell?_alloc_at _ _ _ _ (by simp)]; rfl) | (rw [World.cell?_alloc_past _ _ _ (by simp <;> omega), World.cell?_alloc_at _ _ _ _ (by simp)]; rfl) | (rw [World.cell?_alloc_past _ _ _ (by simp <;> omega), World.cell?_alloc_past _ _ _ (by simp <;> omega), World.cell?_alloc_at _ _ _ _ (by simp)]; rfl)
      have tt4 : (w.alloc (.cells #[.int .i64 sg, .int .i64 pc, .int .i64 am, .bool false, .int .i64 gr] 54)).cell? ⟨w.heap.size, 4, none⟩ = some (.int .i64 gr) := by first | (simp; done) | (rw [World.cell?_alloc_at _ _ _ _ (by simp)]; rfl) | (rw [World.cell?_alloc_past _ _ _ (by simp <;> omega), World.cell?_alloc_at _ _ _ _ (by simp)]; rfl) | (rw [World.cell?_alloc_past _ _ _ (by simp <;> omega), World.cell?_alloc_past _ _ _ (by simp <;> omega), World.cell?_alloc_at _ _ _ _ (by simp)]; rfl)
      have hb2 := (by repeat (first | exact hbel | refine belAlloc ?_ _ | refine belDrew ?_ | refine belSet ?_ _ _ (by simp)) : Below w.heap.size w (w.alloc (.cells #[.int .i64 sg, .int .i64 pc, .int .i64 am, .bool false, .int .i64 gr] 54)))
      replace hw := belStep hw hb2
      clear hb2 hbel
      generalize w.alloc (.cells #[.int .i64 sg, .int .i64 pc, .int .i64 am, .bool false, .int .i64 gr] 54) = W1 at *
      replace tt0 := keep tt0
      replace tt1 := keep tt1
      replace tt2 := keep tt2
      replace tt3 := keep tt3
      replace tt4 := keep tt4
      have hbel : Below W1.heap.size W1 W1 := Below.refl _ _
      skip
      go_wp2
      go_ret
      exact ⟨by rw [HR.out]; rfl, belStep hw hbel⟩
  · have hh := rt_so (sg := sg) (pc := pc) (am := am) (gr := gr) (by omega) (by omega) h5 (by omega)
    clear k1 k2
    cases so with
    | true =>
      have HR := Lib.hid hh.1
      clear hh
      rcases Int.lt_or_le gr 1 with g1 | g1
      · have HR := Lib.hid (show (⟨sg, pc, am, true, gr⟩ : ThrV).right = false by rw [HR.out, decide_eq_false (by omega)]; rfl)
        go_enter Tryz.func22, Tryz.ntmps22
        go_upto_region 1 with fail
        have tt0 : (w.alloc (.cells #[.int .i64 sg, .int .i64 pc, .int .i64 am, .bool true, .int .i64 gr] 54)).cell? ⟨w.heap.size, 0, none⟩ = some (.int .i64 sg) := by first | (simp; done) | (rw [World.cell?_alloc_at _ _ _ _ (by simp)]; rfl) | (rw [World.cell?_alloc_past _ _ _ (by simp <;> omega), World.cell?_alloc_at _ _ _ _ (by simp)]; rfl) | (rw [World.cell?_alloc_past _ _ _ (by simp <;> omega), World.cell?_alloc_past _ _ _ (by simp <;> omega), World.cell?_alloc_at _ _ _ _ (by simp)]; rfl)
        have tt1 : (w.alloc (.cells #[.int .i64 sg, .int .i64 pc, .int .i64 am, .bool true, .int .i64 gr] 54)).cell? ⟨w.heap.size, 1, none⟩ = some (.int .i64 pc) := by first | (simp; done) | (rw [World.cell?_alloc_at _ _ _ _ (by simp)]; rfl) | (rw [World.cell?_alloc_past _ _ _ (by simp <;> omega), World.cell?_alloc_at _ _ _ _ (by simp)]; rfl) | (rw [World.cell?_alloc_past _ _ _ (by simp <;> omega), World.cell?_alloc_past _ _ _ (by simp <;> omega), World.cell?_alloc_at _ _ _ _ (by simp)]; rfl)
        have tt2 : (w.alloc (.cells #[.int .i64 sg, .int .i64 pc, .int .i64 am, .bool true, .int .i64 gr] 54)).cell? ⟨w.heap.size, 2, none⟩ = some (.int .i64 am) := by first | (simp; done) | (rw [World.cell?_alloc_at _ _ _ _ (by simp)]; rfl) | (rw [World.cell?_alloc_past _ _ _ (by simp <;> omega), World.cell?_alloc_at _ _ _ _ (by simp)]; rfl) | (rw [World.cell?_alloc_past _ _ _ (by simp <;> omega), World.cell?_alloc_past _ _ _ (by simp <;> omega), World.cell?_alloc_at _ _ _ _ (by simp)]; rfl)
        have tt3 : (w.alloc (.cells #[.int .i64 sg, .int .i64 pc, .int .i64 am, .bool true, .int .i64 gr] 54)).cell? ⟨w.heap.size, 3, none⟩ = some (.bool true) := by first | (simp; done) | (rw [World.cell?_alloc_at _ _ _ _ (by simp)]; rfl) | (rw [World.cell?_alloc_past _ _ _ (by simp <;> omega), World.cell?_alloc_at _ _ _ _ (by simp)]; rfl) | (rw [World.cell?_alloc_past _ _ _ (by simp <;> omega), World.cell?_alloc_past _ _ _ (by simp <;> omega), World.cell?_alloc_at _ _ _ _ (by simp)]; rfl)
        have tt4 : (w.alloc (.cells #[.int .i64 sg, .int .i64 pc, .int .i64 am, .bool true, .int .i64 gr] 54)).cell? ⟨w.heap.size, 4, none⟩ = some (.int .i64 gr) := by first | (simp; done) | (rw [World.cell?_alloc_at _ _ _ _ (by simp)]; rfl) | (rw [World.cell?_alloc_past _ _ _ (by simp <;> omega), World.cell?_alloc_at _ _ _ _ (by simp)]; rfl) | (rw [World.cell?_alloc_past _ _ _ (by simp <;> omega), World.cell?_alloc_past _ _ _ (by simp <;> omega), World.cell?_alloc_at _ _ _ _ (by simp)]; rfl)
        have hb2 := (by repeat (first | exact hbel | refine belAlloc ?_ _ | refine belDrew ?_ | refine belSet ?_ _ _ (by simp)) : Below w.heap.size w (w.alloc (.cells #[.int .i64 sg, .int .i64 pc, .int .i64 am, .bool true, .int .i64 gr] 54)))
        replace hw := belStep hw hb2
        clear hb2 hbel
        generalize w.alloc (.cells #[.int .i64 sg, .int .i64 pc, .int .i64 am, .bool true, .int .i64 gr] 54) = W1 at *
        replace tt0 := keep tt0
        replace tt1 := keep tt1
        replace tt2 := keep tt2
        replace tt3 := keep tt3
        replace tt4 := keep tt4
        have hbel : Below W1.heap.size W1 W1 := Below.refl _ _
        skip
        go_wp2
        go_ret
        exact ⟨by rw [HR.out]; rfl, belStep hw hbel⟩
      · have HR := Lib.hid (show (⟨sg, pc, am, true, gr⟩ : ThrV).right = decide (gr ≤ 1000) by rw [HR.out, decide_eq_true (by omega)]; rfl)
        go_enter Tryz.func22, Tryz.ntmps22
        go_upto_region 1 with fail
        have tt0 : (w.alloc (.cells #[.int .i64 sg, .int .i64 pc, .int .i64 am, .bool true, .int .i64 gr] 54)).cell? ⟨w.heap.size, 0, none⟩ = some (.int .i64 sg) := by first | (simp; done) | (rw [World.cell?_alloc_at _ _ _ _ (by simp)]; rfl) | (rw [World.cell?_alloc_past _ _ _ (by simp <;> omega), World.cell?_alloc_at _ _ _ _ (by simp)]; rfl) | (rw [World.cell?_alloc_past _ _ _ (by simp <;> omega), World.cell?_alloc_past _ _ _ (by simp <;> omega), World.cell?_alloc_at _ _ _ _ (by simp)]; rfl)
        have tt1 : (w.alloc (.cells #[.int .i64 sg, .int .i64 pc, .int .i64 am, .bool true, .int .i64 gr] 54)).cell? ⟨w.heap.size, 1, none⟩ = some (.int .i64 pc) := by first | (simp; done) | (rw [World.cell?_alloc_at _ _ _ _ (by simp)]; rfl) | (rw [World.cell?_alloc_past _ _ _ (by simp <;> omega), World.cell?_alloc_at _ _ _ _ (by simp)]; rfl) | (rw [World.cell?_alloc_past _ _ _ (by simp <;> omega), World.cell?_alloc_past _ _ _ (by simp <;> omega), World.cell?_alloc_at _ _ _ _ (by simp)]; rfl)
        have tt2 : (w.alloc (.cells #[.int .i64 sg, .int .i64 pc, .int .i64 am, .bool true, .int .i64 gr] 54)).cell? ⟨w.heap.size, 2, none⟩ = some (.int .i64 am) := by first | (simp; done) | (rw [World.cell?_alloc_at _ _ _ _ (by simp)]; rfl) | (rw [World.cell?_alloc_past _ _ _ (by simp <;> omega), World.cell?_alloc_at _ _ _ _ (by simp)]; rfl) | (rw [World.cell?_alloc_past _ _ _ (by simp <;> omega), World.cell?_alloc_past _ _ _ (by simp <;> omega), World.cell?_alloc_at _ _ _ _ (by simp)]; rfl)
        have tt3 : (w.alloc (.cells #[.int .i64 sg, .int .i64 pc, .int .i64 am, .bool true, .int .i64 gr] 54)).cell? ⟨w.heap.size, 3, none⟩ = some (.bool true) := by first | (simp; done) | (rw [World.cell?_alloc_at _ _ _ _ (by simp)]; rfl) | (rw [World.cell?_alloc_past _ _ _ (by simp <;> omega), World.cell?_alloc_at _ _ _ _ (by simp)]; rfl) | (rw [World.cell?_alloc_past _ _ _ (by simp <;> omega), World.cell?_alloc_past _ _ _ (by simp <;> omega), World.cell?_alloc_at _ _ _ _ (by simp)]; rfl)
        have tt4 : (w.alloc (.cells #[.int .i64 sg, .int .i64 pc, .int .i64 am, .bool true, .int .i64 gr] 54)).cell? ⟨w.heap.size, 4, none⟩ = some (.int .i64 gr) := by first | (simp; done) | (rw [World.cell?_alloc_at _ _ _ _ (by simp)]; rfl) | (rw [World.cell?_alloc_past _ _ _ (by simp <;> omega), World.cell?_alloc_at _ _ _ _ (by simp)]; rfl) | (rw [World.cell?_alloc_past _ _ _ (by simp <;> omega), World.cell?_alloc_past _ _ _ (by simp <;> omega), World.cell?_alloc_at _ _ _ _ (by simp)]; rfl)
        have hb2 := (by repeat (first | exact hbel | refine belAlloc ?_ _ | refine belDrew ?_ | refine belSet ?_ _ _ (by simp)) : Below w.heap.size w (w.alloc (.cells #[.int .i64 sg, .int .i64 pc, .int .i64 am, .bool true, .int .i64 gr] 54)))
        replace hw := belStep hw hb2
        clear hb2 hbel
        generalize w.alloc (.cells #[.int .i64 sg, .int .i64 pc, .int .i64 am, .bool true, .int .i64 gr] 54) = W1 at *
        replace tt0 := keep tt0
        replace tt1 := keep tt1
        replace tt2 := keep tt2
        replace tt3 := keep tt3
        replace tt4 := keep tt4
        have hbel : Below W1.heap.size W1 W1 := Below.refl _ _
        skip
        go_wp2
        go_ret
        exact ⟨by rw [HR.out]; rfl, belStep hw hbel⟩
    | false =>
      have HR := Lib.hid hh.2
      clear hh
      go_enter Tryz.func22, Tryz.ntmps22
      go_upto_region 1 with fail
      have tt0 : (w.alloc (.cells #[.int .i64 sg, .int .i64 pc, .int .i64 am, .bool false, .int .i64 gr] 54)).cell? ⟨w.heap.size, 0, none⟩ = some (.int .i64 sg) := by first | (simp; done) | (rw [World.cell?_alloc_at _ _ _ _ (by simp)]; rfl) | (rw [World.cell?_alloc_past _ _ _ (by simp <;> omega), World.cell?_alloc_at _ _ _ _ (by simp)]; rfl) | (rw [World.cell?_alloc_past _ _ _ (by simp <;> omega), World.cell?_alloc_past _ _ _ (by simp <;> omega), World.cell?_alloc_at _ _ _ _ (by simp)]; rfl)
      have tt1 : (w.alloc (.cells #[.int .i64 sg, .int .i64 pc, .int .i64 am, .bool false, .int .i64 gr] 54)).cell? ⟨w.heap.size, 1, none⟩ = some (.int .i64 pc) := by first | (simp; done) | (rw [World.cell?_alloc_at _ _ _ _ (by simp)]; rfl) | (rw [World.cell?_alloc_past _ _ _ (by simp <;> omega), World.cell?_alloc_at _ _ _ _ (by simp)]; rfl) | (rw [World.cell?_alloc_past _ _ _ (by simp <;> omega), World.cell?_alloc_past _ _ _ (by simp <;> omega), World.cell?_alloc_at _ _ _ _ (by simp)]; rfl)
      have tt2 : (w.alloc (.cells #[.int .i64 sg, .int .i64 pc, .int .i64 am, .bool false, .int .i64 gr] 54)).cell? ⟨w.heap.size, 2, none⟩ = some (.int .i64 am) := by first | (simp; done) | (rw [World.cell?_alloc_at _ _ _ _ (by simp)]; rfl) | (rw [World.cell?_alloc_past _ _ _ (by simp <;> omega), World.cell?_alloc_at _ _ _ _ (by simp)]; rfl) | (rw [World.cell?_alloc_past _ _ _ (by simp <;> omega), World.cell?_alloc_past _ _ _ (by simp <;> omega), World.cell?_alloc_at _ _ _ _ (by simp)]; rfl)
      have tt3 : (w.alloc (.cells #[.int .i64 sg, .int .i64 pc, .int .i64 am, .bool false, .int .i64 gr] 54)).cell? ⟨w.heap.size, 3, none⟩ = some (.bool false) := by first | (simp; done) | (rw [World.cell?_alloc_at _ _ _ _ (by simp)]; rfl) | (rw [World.cell?_alloc_past _ _ _ (by simp <;> omega), World.cell?_alloc_at _ _ _ _ (by simp)]; rfl) | (rw [World.cell?_alloc_past _ _ _ (by simp <;> omega), World.cell?_alloc_past _ _ _ (by simp <;> omega), World.cell?_alloc_at _ _ _ _ (by simp)]; rfl)
      have tt4 : (w.alloc (.cells #[.int .i64 sg, .int .i64 pc, .int .i64 am, .bool false, .int .i64 gr] 54)).cell? ⟨w.heap.size, 4, none⟩ = some (.int .i64 gr) := by first | (simp; done) | (rw [World.cell?_alloc_at _ _ _ _ (by simp)]; rfl) | (rw [World.cell?_alloc_past _ _ _ (by simp <;> omega), World.cell?_alloc_at _ _ _ _ (by simp)]; rfl) | (rw [World.cell?_alloc_past _ _ _ (by simp <;> omega), World.cell?_alloc_past _ _ _ (by simp <;> omega), World.cell?_alloc_at _ _ _ _ (by simp)]; rfl)
      have hb2 := (by repeat (first | exact hbel | refine belAlloc ?_ _ | refine belDrew ?_ | refine belSet ?_ _ _ (by simp)) : Below w.heap.size w (w.alloc (.cells #[.int .i64 sg, .int .i64 pc, .int .i64 am, .bool false, .int .i64 gr] 54)))
      replace hw := belStep hw hb2
      clear hb2 hbel
      generalize w.alloc (.cells #[.int .i64 sg, .int .i64 pc, .int .i64 am, .bool false, .int .i64 gr] 54) = W1 at *
      replace tt0 := keep tt0
      replace tt1 := keep tt1
      replace tt2 := keep tt2
      replace tt3 := keep tt3
      replace tt4 := keep tt4
      have hbel : Below W1.heap.size W1 W1 := Below.refl _ _
      skip
      go_wp2
      go_ret
      exact ⟨by rw [HR.out]; rfl, belStep hw hbel⟩
