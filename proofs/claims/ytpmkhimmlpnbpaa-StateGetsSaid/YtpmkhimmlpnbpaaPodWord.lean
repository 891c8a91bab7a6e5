
/- bilgeref12.word: contract. -/
import Derived.Test.YtpmkhimmlpnbpaaPodLaws
import Derived.Test.YtpmkhimmlpnbpaaOwn
namespace Go.Proofs.Ytpmkhimmlpnbpaa
open Go.RowKit
set_option linter.unusedVariables false
set_option linter.unusedSimpArgs false

theorem W8_at (n k : Nat) (h : k < 8) : (W8 n).drop (8 - (k + 1)) = [((n / 256 ^ k % 256 : Nat) : Int)] ++ (W8 n).drop (8 - k) := by
  have hl := W8_len n
  rw [List.drop_eq_getElem_cons (by omega), show 8 - (k + 1) + 1 = 8 - k by omega, List.singleton_append]
  congr 1
  unfold W8
  rw [List.getElem_map, List.getElem_range]
  have e : 56 - 8 * (8 - (k + 1)) = 8 * k := by omega
  rw [e, Nat.pow_mul]
theorem own_oneI (w : World) (c : Int) : OwnI (w.alloc (.cells #[.int .u8 c] 5)) w.heap.size 5 .u8 (.slice (some ⟨w.heap.size, 0, none⟩) 1 1) [c] :=
  ⟨rfl, .inr ⟨w.heap.size, 1, #[.int .u8 c], rfl, Nat.le_refl _, heap_alloc_new w _, Nat.le_refl _, by unfold maxLen; omega, rfl, rfl⟩⟩
theorem drop_B (n k : Nat) : Bytes ((W8 n).drop k) := fun c hc => W8_bytes n c (List.mem_of_mem_drop hc)

set_option maxRecDepth 100000 in
set_option maxHeartbeats 4000000 in
theorem pref_word (n : Nat) (w : World) (hn : n < 9223372036854775808) : Calls Try.prog 52 #[.int .i64 n] w fun e w' => ∃ v, e = .returned v ∧ OwnI w' w.heap.size 5 .u8 v (W8 n) ∧ Below w.heap.size w w' := by
  have hw64 : IntKind.u64.wrap (n : Int) = (n : Int) := by rw [IntKind.wrap_u64]; omega
  have h0 : 0 ≤ (n : Int) := by omega
  have h1 : (n : Int) ≤ 9223372036854775807 := by omega
  go_enter Try.func52, Try.ntmps52
  go_wp2
  clear hw64
  go_loopw [3, 4, 5] (fun v x i wr => ∃ k : Nat, k ≤ 8 ∧ i = .int .i64 k ∧ (∃ q : Int, x = .int .u64 q ∧ q = ((n / 256 ^ k : Nat) : Int)) ∧ OwnI wr w.heap.size 5 .u8 v ((W8 n).drop (8 - k)) ∧ Below w.heap.size w wr) (fun _ _ i _ => 8 - (intOf i).toNat)
  case atStart => exact ⟨0, Nat.zero_le _, rfl, ⟨_, rfl, by simp⟩, (by rw [List.drop_of_length_le (by rw [W8_len]; omega)]; exact OwnI.nil _ _ _ _), Below.refl _ _⟩
  case round =>
    obtain ⟨k, hk, rfl, ⟨q, rfl, hq⟩, hown, hbr⟩ := hrel
    have hB := fun m hm => wf8 m (drop_B n (8 - k) m hm)
    obtain ⟨a3, c3, rfl, hi3⟩ := ints_of_own hown hB
    have hl8 : ((W8 n).drop (8 - k)).length = k := by rw [List.length_drop, W8_len]; omega
    rw [hl8] at hi3 ⊢
    by_cases hlt : k < 8
    · have hq0 : 0 ≤ q := by rw [hq]; exact Int.natCast_nonneg _
      have hq1 : q ≤ 9223372036854775807 := by
        have h2 := Nat.div_le_self n (256 ^ k)
        rw [hq]; generalize n / 256 ^ k = z at *; omega
      have HN := Lib.hid (W8_at n k hlt)
      have HQ := Lib.hid hq
      have HI := Lib.hid hi3
      have hw8 : IntKind.u8.wrap (q % 256) = q % 256 := IntWalk.u8_in _ (by omega)
      have hmod : q % 256 = ((n / 256 ^ k % 256 : Nat) : Int) := by rw [hq]; exact (Int.natCast_emod _ _).symm
      have hdiv : q / 256 = ((n / 256 ^ (k + 1) : Nat) : Int) := by rw [hq, Nat.pow_succ, ← Nat.div_div_eq_div_mul]; exact (Int.natCast_ediv _ _).symm
      have HM := Lib.hid hmod
      have HD := Lib.hid hdiv
      clear hq hi3 hown hB hmod hdiv hl8
      generalize (W8 n).drop (8 - k) = L at *
      go_wp2_with (at_builtin; refine wpList_app_ints rfl _ _ 28 rfl wr.heap.size 5 .u8 1 Try.underlying28 info_u8 _ _ rfl (own_oneI wr (q % 256)) _ k c3 L rfl (HI.out.later (belAlloc (Below.refl _ _) _)) (by simp only [maxLen, List.length_singleton]; omega) (by simp only [List.length_singleton]; omega) (by simp) ?_; intro v4 w4 ho4 hb4 hg4; have hb44 := (belAlloc (Below.refl wr.heap.size wr) _).trans hb4; have HO4 := Lib.hid ho4; clear ho4 hb4 hg4)
      go_roundw
      case rel => exact ⟨k + 1, by omega, by push_cast; rfl, ⟨_, rfl, HD.out⟩, by rw [HN.out, ← HM.out]; exact HO4.out.mono hbr.size, belStep hbr hb44⟩
      case measure => simp [intOf] <;> omega
    · obtain rfl : k = 8 := by omega
      clear hi3 hB hl8 hq
      go_wp2
      go_ret
      exact ⟨_, rfl, hown, hbr⟩
end Go.Proofs.Ytpmkhimmlpnbpaa
