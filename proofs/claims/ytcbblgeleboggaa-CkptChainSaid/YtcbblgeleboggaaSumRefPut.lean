
/- The reference's Put; slices.Grow, slices.Concat. -/
import Derived.Test.YtcbblgeleboggaaSumLast
namespace Go.Proofs.Ytcbblgeleboggaa
open Go.RowKit
set_option linter.unusedVariables false
set_option linter.unusedSimpArgs false

set_option maxHeartbeats 2000000 in
theorem sref_Put (a : Option Addr) (len cap : Nat) (l : List Int) (w : World) (hl : Ints .u8 w a len cap l) (hlen : len ≤ 1000000) :
    Calls Try.prog 30 #[.slice a len cap] w fun e w' => ∃ v, e = .returned v ∧ OwnI w' w.heap.size 5 .u8 v (l ++ tailN (sumOf l) 4) ∧ Below w.heap.size w w' := by
  have hs := sumOf_lt (bytes_of hl)
  have hb := hl.bounds
  have cs := sref_Of a len cap l w hl
  obtain ⟨s, es⟩ : ∃ s, sumOf l = s := ⟨_, rfl⟩
  rw [es] at cs hs ⊢
  have CS := Lib.hid cs
  have HL := Lib.hid (hl.later (belAlloc (Below.refl _ _) (.cells #[] 5)))
  have HO := Lib.hid (own_new w w.heap.size 5 .u8 (Nat.le_refl _))
  clear cs hl es
  go_enter Try.func30, Try.ntmps30
  go_wp2_with (first | (go_at_call 41; (with_reducible refine (CS.out).mono ?_); rintro e w' ⟨rfl, rfl⟩) | (at_builtin; refine wpList_app_ints rfl _ _ 29 rfl w.heap.size 5 .u8 1 Try.underlying29 info_u8 _ _ rfl HO.out _ len cap l rfl HL.out ?c1 ?c2 ?c3 ?_))
  case c1 => simp only [maxLen, List.length_nil]; omega
  case c2 => simp only [List.length_nil]; omega
  case c3 => simp
  intro v0 w1 ho' hb' hg'
  have hb1 : Below w.heap.size w w1 := (belAlloc (Below.refl _ _) _ : Below w.heap.size w (w.alloc _)).trans hb'
  have HV := Lib.hid ho'
  clear ho' hb' hg'
  go_wp2
  go_loopw [3, 4, 5] (fun x v i wr => ∃ (k n : Nat), k ≤ 4 ∧ i = .int .i64 k ∧ x = .int .u32 n ∧ n = s / 256 ^ k ∧ OwnI wr w.heap.size 5 .u8 v (l ++ tailN s k) ∧ Below w.heap.size w wr) (fun _ _ i _ => 4 - (intOf i).toNat)
  case atStart => exact ⟨0, s, by omega, rfl, rfl, by simp, by simpa [tailN] using HV.out, hb1⟩
  case round =>
    obtain ⟨k, n, hk, rfl, rfl, hn, hown, hbr⟩ := hrel
    by_cases hlt : k < 4
    · have hnl : n < 4294967296 := by rw [hn]; exact Nat.lt_of_le_of_lt (Nat.div_le_self _ _) hs
      have hbw : (Lit.int .u8 ((n : Int) % 256)).wf = true := WalkArith.wf_u8 ⟨by omega, by omega⟩
      have HO := Lib.hid (hown.alloc (.cells #[.int .u8 ((n : Int) % 256)] 5))
      have HI := Lib.hid (ints_new (k := .u8) wr [((n : Int) % 256)] 5 (0, 0) (by unfold maxLen; simp) (by intro m hm; simp at hm; subst hm; exact hbw))
      have hsz2 : w.heap.size ≤ wr.heap.size := hbr.size
      have hsn : n / 256 = s / 256 ^ (k + 1) := by rw [hn, div256]
      have htl : (l ++ tailN s k).length = len + k := by rw [List.length_append, tailN_len, hb.1]
      have HN := Lib.hid hn
      have HS := Lib.hid hsn
      have HTL := Lib.hid htl
      clear hown hbw hn hsn htl
      go_wp2_with (at_builtin; refine wpList_app_ints rfl _ _ 29 rfl w.heap.size 5 .u8 1 Try.underlying29 info_u8 _ _ rfl HO.out _ 1 1 [((n : Int) % 256)] rfl HI.out ?c1 ?c2 ?c3 ?_)
      case c1 => rw [HTL.out]; simp only [maxLen]; omega
      case c2 => rw [HTL.out]; omega
      case c3 => simp; omega
      intro v' w2 ho' hb' hg'
      have ht2 : l ++ tailN s (k + 1) = (l ++ tailN s k) ++ [((n : Int) % 256)] := by rw [HN.out, List.append_assoc]; show _ ++ (_ ++ [((s / 256 ^ k % 256 : Nat) : Int)]) = _; congr 3
      have HT := Lib.hid ht2
      have hb2 := (belAlloc (Below.refl _ _) _ : Below wr.heap.size wr (wr.alloc (.cells #[.int .u8 ((n : Int) % 256)] 5)))
      have hb3 : Below w.heap.size w w2 := (belStep hbr hb2).trans hb'
      have HOw := Lib.hid ho'
      clear ht2 hb' hg' ho' hb2
      go_wp2
      go_roundw
      case rel => exact ⟨k + 1, n / 256, by omega, by push_cast; rfl, by first | rfl | (congr 1; omega), HS.out, by rw [HT.out, List.append_assoc]; exact HOw.out, hb3⟩
      case measure => simp [intOf] <;> omega
    · obtain rfl : k = 4 := by omega
      have HO := Lib.hid hown
      clear hown hn
      go_wp2
      go_ret
      exact ⟨_, rfl, HO.out, hbr⟩
end Go.Proofs.Ytcbblgeleboggaa
