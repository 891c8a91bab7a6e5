
/- Contracts of package sum: words and their turns. -/
import Derived.Test.YtcbblgeleboggaaRead
import Derived.Laws.Bits64
namespace Go.Proofs.Ytcbblgeleboggaa
open Go.RowKit
set_option linter.unusedVariables false
set_option linter.unusedSimpArgs false

theorem wrap_u32 (n : Int) : IntKind.u32.wrap n = n % 4294967296 := by simp [IntKind.wrap, IntKind.bits, IntKind.signed]
theorem xor32 (a b : Nat) (ha : a < 4294967296) (hb : b < 4294967296) : bits .xor .u32 (a : Int) (b : Int) = ((a ^^^ b : Nat) : Int) := by
  have hx : a ^^^ b < 2 ^ 32 := Nat.xor_lt_two_pow (by omega) (by omega)
  have h1 : (BitVec.ofInt 32 (a : Int)).toNat = a := by rw [BitVec.ofInt_natCast, BitVec.toNat_ofNat]; exact Nat.mod_eq_of_lt (by omega)
  have h2 : (BitVec.ofInt 32 (b : Int)).toNat = b := by rw [BitVec.ofInt_natCast, BitVec.toNat_ofNat]; exact Nat.mod_eq_of_lt (by omega)
  show IntKind.u32.wrap ((BitVec.ofInt 32 (a : Int) ^^^ BitVec.ofInt 32 (b : Int)).toNat : Int) = _
  rw [BitVec.toNat_xor, h1, h2, wrap_u32]
  omega
theorem xor32_lt {a b : Nat} (ha : a < 4294967296) (hb : b < 4294967296) : a ^^^ b < 4294967296 := by
  have : a ^^^ b < 2 ^ 32 := Nat.xor_lt_two_pow (by omega) (by omega)
  omega

/-- A word, turned by one bit; by k bits. -/
def st1 (w : Nat) : Nat := if w % 2 = 1 then (w / 2) ^^^ 3988292384 else w / 2
def stN : Nat → Nat → Nat
  | 0, w => w
  | k + 1, w => st1 (stN k w)
theorem st1_lt {w : Nat} (h : w < 4294967296) : st1 w < 4294967296 := by
  unfold st1
  split
  · exact xor32_lt (by omega) (by omega)
  · omega
theorem stN_lt (k : Nat) {w : Nat} (h : w < 4294967296) : stN k w < 4294967296 := by
  induction k with
  | zero => exact h
  | succ k ih => exact st1_lt ih
/-- The word behind these bytes. -/
def crcL (w : Nat) (l : List Int) : Nat := l.foldl (fun w c => stN 8 (w ^^^ c.toNat)) w
def Bytes (l : List Int) : Prop := ∀ c ∈ l, 0 ≤ c ∧ c ≤ 255
theorem crcL_lt (l : List Int) : ∀ w : Nat, w < 4294967296 → Bytes l → crcL w l < 4294967296 := by
  induction l with
  | nil => intro w h _; exact h
  | cons c l ih =>
    intro w h hb
    have hc := hb c List.mem_cons_self
    exact ih _ (stN_lt 8 (xor32_lt h (by omega))) (fun x hx => hb x (List.mem_cons_of_mem _ hx))
theorem crcL_append (w : Nat) (a b : List Int) : crcL w (a ++ b) = crcL (crcL w a) b := List.foldl_append
theorem crcL_next (w : Nat) {l : List Int} {k : Nat} (h : k < l.length) : crcL w (l.take (k + 1)) = stN 8 (crcL w (l.take k) ^^^ (el l k).toNat) := by
  rw [take_snoc h, crcL_append]; rfl
theorem Bytes.take {l : List Int} (h : Bytes l) (k : Nat) : Bytes (l.take k) := fun c hc => h c (List.mem_of_mem_take hc)
theorem bytes_of {w : World} {a : Option Addr} {len cap : Nat} {l : List Int} (h : Ints .u8 w a len cap l) : Bytes l := fun c hc => in8_of_wf (h.2 c hc)
def sumOf (l : List Int) : Nat := crcL 4294967295 l ^^^ 4294967295

set_option maxRecDepth 100000 in
set_option maxHeartbeats 4000000 in
theorem sref_Of (a : Option Addr) (len cap : Nat) (l : List Int) (w : World) (hl : Ints .u8 w a len cap l) :
    Calls Try.prog 41 #[.slice a len cap] w fun e w' => e = .returned (.int .u32 (sumOf l)) ∧ w = w' := by
  have hbd := hl.bounds
  have hby := bytes_of hl
  go_enter Try.func41, Try.ntmps41
  go_wp2
  go_loopw [3, 4] (fun x i wr => ∃ (k n : Nat), k ≤ len ∧ i = .int .i64 k ∧ x = .int .u32 n ∧ crcL 4294967295 (l.take k) = n ∧ w = wr) (fun _ i _ => len - (intOf i).toNat)
  case atStart => exact ⟨0, 4294967295, Nat.zero_le _, rfl, rfl, rfl, rfl⟩
  case round =>
    obtain ⟨k, n, hk, rfl, rfl, hst, rfl⟩ := hrel
    have hn : n < 4294967296 := by rw [← hst]; exact crcL_lt _ _ (by omega) (hby.take k)
    by_cases hlt : k < len
    · obtain ⟨bb, off, rfl, _, hc⟩ := hl.opened (by omega)
      have hbel : Below w.heap.size w w := Below.refl _ _
      have hnext := crcL_next 4294967295 (l := l) (k := k) (by omega)
      have hb := hby (el l k) (el_mem (by omega))
      obtain ⟨c, ec⟩ : ∃ c : Nat, el l k = (c : Int) := ⟨(el l k).toNat, by omega⟩
      have x0 := keep (hc k hlt)
      rw [ec] at x0 hb
      rw [hst, ec, Int.toNat_natCast] at hnext
      have hc2 : (c : Int) % 4294967296 = (c : Int) := by omega
      have hx := xor32 n c hn (by omega)
      have hlt2 : n ^^^ c < 4294967296 := xor32_lt hn (by omega)
      obtain ⟨v0, e0⟩ : ∃ v, n ^^^ c = v := ⟨_, rfl⟩
      rw [e0] at hx hlt2 hnext
      have HN := Lib.hid hnext
      clear hnext hst e0 hl hby hc
      go_wp2
      go_loopw [3, 5] (fun x j wr => ∃ (m v : Nat), m ≤ 8 ∧ j = .int .i64 m ∧ x = .int .u32 v ∧ stN m v0 = v ∧ w = wr) (fun _ j _ => 8 - (intOf j).toNat)
      case atStart => exact ⟨0, v0, by omega, rfl, rfl, rfl, rfl⟩
      case round =>
        obtain ⟨m, v, hm, rfl, rfl, hsv, rfl⟩ := hrel
        by_cases hm8 : m < 8
        · have hv : v < 4294967296 := by rw [← hsv]; exact stN_lt m hlt2
          have hsn : stN (m + 1) v0 = st1 v := by rw [← hsv]; rfl
          have HS := Lib.hid hsn
          have key : ((v : Int) % 2 = 1 ∧ bits .xor .u32 ((v : Int) / 2) 3988292384 = ((st1 v : Nat) : Int)) ∨ ((v : Int) % 2 = 0 ∧ (v : Int) / 2 = ((st1 v : Nat) : Int)) := by
            unfold st1
            rcases Nat.mod_two_eq_zero_or_one v with q | q
            · right; rw [if_neg (by omega)]; omega
            · left
              rw [if_pos q]
              refine ⟨by omega, ?_⟩
              have := xor32 (v / 2) 3988292384 (by omega) (by omega)
              simpa using this
          obtain ⟨v', ev⟩ : ∃ y, st1 v = y := ⟨_, rfl⟩
          rw [ev] at key HS
          clear hsv hsn ev
          rcases key with ⟨q1, q2⟩ | ⟨q1, q2⟩
          all_goals
            go_wp2
            go_roundw
            case rel => exact ⟨m + 1, v', by omega, by push_cast; rfl, rfl, HS.out, by first | rfl | trivial⟩
            case measure => simp [intOf] <;> omega
        · obtain rfl : m = 8 := by omega
          rw [hsv] at HN
          clear hsv
          go_wp2
          go_roundw
          case rel => exact ⟨k + 1, v, by omega, by push_cast; rfl, rfl, HN.out, by first | rfl | trivial⟩
          case measure => simp [intOf] <;> omega
    · obtain rfl : k = len := by omega
      have hx := xor32 n 4294967295 hn (by omega)
      have hr : sumOf l = n ^^^ 4294967295 := by unfold sumOf; rw [← hst, List.take_of_length_le (by omega)]
      have HRr := Lib.hid hr
      clear hst hr
      have hx' : bits .xor .u32 (n : Int) 4294967295 = ((n ^^^ 4294967295 : Nat) : Int) := hx
      clear hx
      go_wp2
      go_ret
      exact ⟨by rw [HRr.out]; rfl, by first | rfl | trivial⟩
end Go.Proofs.Ytcbblgeleboggaa
