
/- slices.Clone, sum.last, the reference's Put: contracts. -/
import Derived.Test.YtcbblgeleboggaaSumPut
import Derived.Lib.SliceRun
namespace Go.Proofs.Ytcbblgeleboggaa
open Go.RowKit
set_option linter.unusedVariables false
set_option linter.unusedSimpArgs false

theorem info_u8 : (Try.prog.info? 5).map (fun i => (i.zero, i.size, i.bytes)) = some (some (.int .u8 0), 1, 1) := by kernel_rfl

set_option maxHeartbeats 1000000 in
theorem slices_Clone (a : Option Addr) (len cap : Nat) (l : List Int) (w : World) (hl : Ints .u8 w a len cap l) (hlen : len ≤ 1000000) :
    Calls Try.prog 28 #[.slice a len cap] w fun e w' => ∃ v, e = .returned v ∧ OwnI w' w.heap.size 5 .u8 v l ∧ Below w.heap.size w w' := by
  have hb := hl.bounds
  cases a with
  | none =>
    obtain rfl : len = 0 := (hl.1.2.2.2.1 rfl).1
    obtain rfl : l = [] := List.eq_nil_of_length_eq_zero hb.1
    have hnil := Lib.run_eql_slice_nil w 29 5 none 0 cap 0 0 Try.underlying29
    go_enter Try.func28, Try.ntmps28
    go_wp2
    go_ret
    exact ⟨_, rfl, OwnI.nil _ _ _ _, Below.refl _ _⟩
  | some ad =>
    have HL := Lib.hid (hl.later (belAlloc (Below.refl _ _) (.cells #[] 5)))
    have HO := Lib.hid (own_new w w.heap.size 5 .u8 (Nat.le_refl _))
    clear hl
    have hnil := Lib.run_eql_slice_nil w 29 5 (some ad) len cap 0 0 Try.underlying29
    go_enter Try.func28, Try.ntmps28
    go_wp2_with (at_builtin; refine wpList_app_ints rfl _ _ 29 rfl w.heap.size 5 .u8 1 Try.underlying29 info_u8 _ _ rfl HO.out _ len cap l rfl HL.out ?c1 ?c2 ?c3 ?_)
    case c1 => simp only [maxLen, List.length_nil]; omega
    case c2 => simp only [List.length_nil]; omega
    case c3 => simp
    intro v' w2 ho' hb' hg'
    go_wp2
    go_ret
    exact ⟨_, rfl, by simpa using ho', (belAlloc (Below.refl _ _) _ : Below w.heap.size w (w.alloc _)).trans hb'⟩

/-- The first k bytes of a sum, the lowest first. -/
def tailN (s : Nat) : Nat → List Int
  | 0 => []
  | k + 1 => tailN s k ++ [((s / 256 ^ k % 256 : Nat) : Int)]
theorem tailN_len (s k : Nat) : (tailN s k).length = k := by
  induction k with
  | zero => rfl
  | succ k ih => simp [tailN, ih]
theorem tailN_bytes (s k : Nat) : Bytes (tailN s k) := by
  induction k with
  | zero => intro c hc; cases hc
  | succ k ih =>
    intro c hc
    rcases List.mem_append.1 hc with h | h
    · exact ih c h
    · simp at h; subst h; omega
theorem div256 (s k : Nat) : s / 256 ^ k / 256 = s / 256 ^ (k + 1) := by rw [Nat.pow_succ, Nat.div_div_eq_div_mul]
theorem sumOf_lt {l : List Int} (h : Bytes l) : sumOf l < 4294967296 := xor32_lt (crcL_lt _ _ (by omega) h) (by omega)
theorem own_make (w : World) (B n : Nat) (hB : B ≤ w.heap.size) (hn : n ≤ 1000000) (cur : Array Value) (hc : cur.size = n) : OwnI (w.alloc (.cells cur 5)) B 5 .u8 (.slice (some ⟨w.heap.size, 0, none⟩) 0 n) [] :=
  World.ownsRow_made w cur n hB (by unfold maxLen; omega) (by omega)

set_option maxHeartbeats 2000000 in
theorem sum_last (a : Option Addr) (len cap : Nat) (l : List Int) (w : World) (hl : Ints .u8 w a len cap l) :
    Calls Try.prog 53 #[.slice a len cap] w fun e w' => ∃ v, e = .returned v ∧ OwnI w' w.heap.size 5 .u8 v (tailN (sumOf l) 4) ∧ Below w.heap.size w w' := by
  have hs := sumOf_lt (bytes_of hl)
  have cs := sum_Of a len cap l w hl
  obtain ⟨s, es⟩ : ∃ s, sumOf l = s := ⟨_, rfl⟩
  rw [es] at cs hs ⊢
  have CS := Lib.hid cs
  clear cs hl es
  have hw : Below w.heap.size w w := Below.refl _ _
  have hbel := hw
  go_enter Try.func53, Try.ntmps53
  go_upto_region 2 with (first | (go_at_call 60; (with_reducible refine (CS.out).mono ?_); rintro e w1 ⟨rfl, hb1⟩; replace hbel := belStep hbel hb1; clear hb1))
  replace hw := belStep hw hbel
  clear hbel
  generalize w1 = W1 at *
  have hbel : Below W1.heap.size W1 W1 := Below.refl _ _
  have hsz : w.heap.size ≤ W1.heap.size := hw.size
  have hmk : ∀ v, (Instr.makeSlice 29 (.int .i64 0) (.int .i64 4)).run Try.prog v = .ok (.slice (some ⟨v.heap.size, 0, none⟩) 0 4) (v.alloc (.cells #[.int .u8 0, .int .u8 0, .int .u8 0, .int .u8 0] 5)) := fun _ => by kernel_rfl
  go_wp2
  go_loopw [3, 4, 8] (fun x v i wr => ∃ (k n : Nat), k ≤ 4 ∧ i = .int .i64 k ∧ x = .int .u32 n ∧ n = s / 256 ^ k ∧ OwnI wr W1.heap.size 5 .u8 v (tailN s k) ∧ Below W1.heap.size W1 wr) (fun _ _ i _ => 4 - (intOf i).toNat)
  case atStart => exact ⟨0, s, by omega, rfl, rfl, by simp, own_make W1 W1.heap.size 4 (Nat.le_refl _) (by omega) _ rfl, belAlloc (Below.refl _ _) _⟩
  case round =>
    obtain ⟨k, n, hk, rfl, rfl, hn, hown, hbr⟩ := hrel
    by_cases hlt : k < 4
    · have hnl : n < 4294967296 := by rw [hn]; exact Nat.lt_of_le_of_lt (Nat.div_le_self _ _) hs
      have hbw : (Lit.int .u8 ((n : Int) % 256)).wf = true := WalkArith.wf_u8 ⟨by omega, by omega⟩
      have HO := Lib.hid (hown.alloc (.cells #[.int .u8 ((n : Int) % 256)] 5))
      have HI := Lib.hid (ints_new (k := .u8) wr [((n : Int) % 256)] 5 (0, 0) (by unfold maxLen; simp) (by intro m hm; simp at hm; subst hm; exact hbw))
      have hsz2 : W1.heap.size ≤ wr.heap.size := hbr.size
      have hsn : n / 256 = s / 256 ^ (k + 1) := by rw [hn, div256]
      have htl := tailN_len s k
      have HN := Lib.hid hn
      have HS := Lib.hid hsn
      clear hown hbw hn hsn
      go_wp2_with (at_builtin; refine wpList_app_ints rfl _ _ 29 rfl W1.heap.size 5 .u8 1 Try.underlying29 info_u8 _ _ rfl HO.out _ 1 1 [((n : Int) % 256)] rfl HI.out ?c1 ?c2 ?c3 ?_)
      case c1 => simp only [maxLen, htl]; omega
      case c2 => simp only [htl]; omega
      case c3 => simp; omega
      intro v' w2 ho' hb' hg'
      have ht2 : tailN s (k + 1) = tailN s k ++ [((n : Int) % 256)] := by rw [HN.out]; show _ ++ [((s / 256 ^ k % 256 : Nat) : Int)] = _; congr 2
      have HT := Lib.hid ht2
      have hb2 := (belAlloc (Below.refl _ _) _ : Below wr.heap.size wr (wr.alloc (.cells #[.int .u8 ((n : Int) % 256)] 5)))
      have hb3 : Below W1.heap.size W1 w2 := (belStep hbr hb2).trans hb'
      have HOw := Lib.hid ho'
      clear ht2 hb' hg' ho' hb2
      go_wp2
      go_roundw
      case rel => exact ⟨k + 1, n / 256, by omega, by push_cast; rfl, by first | rfl | (congr 1; omega), HS.out, HT.out ▸ HOw.out, hb3⟩
      case measure => simp [intOf] <;> omega
    · obtain rfl : k = 4 := by omega
      have HO := Lib.hid hown
      clear hown hn
      go_wp2
      go_ret
      refine ⟨_, rfl, ?_, belStep hw hbr⟩
      have := HO.out
      unfold OwnI at *
      exact OwnR.mono this hsz
end Go.Proofs.Ytcbblgeleboggaa
