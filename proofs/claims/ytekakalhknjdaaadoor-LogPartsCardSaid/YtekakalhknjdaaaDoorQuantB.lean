
/- bilgeref05.Names, Unit, Read: contracts. strconv.Itoa at numbers from 0 on, bilgeref05.Digits, quant.Print, bilgeref05.Print: contracts. quant.Print, bilgeref05.Print: contracts. -/
import Derived.Test.YtekakalhknjdaaaDoorQuantA
import Derived.Test.YtekakalhknjdaaaDoorShelf
import Derived.Lib.ItoaMem
import Derived.Laws.BytesArg
import Derived.Shelf.Bytes.SlSmallAll
import Derived.Lib.ItoaLen
import Derived.Lib.AppendIntMem
namespace Go.Proofs.YtekakalhknjdaaaDoor
open Go.RowKit
set_option linter.unusedVariables false
set_option linter.unusedSimpArgs false

end Go.Proofs.YtekakalhknjdaaaDoor
namespace Go.Proofs.YtekakalhknjdaaaDoor
open Go.RowKit
set_option linter.unusedVariables false
set_option linter.unusedSimpArgs false

theorem conv_strQ {w : World} {a : Option Addr} {len cap : Nat} {l : List Int} (h : Ints .u8 w a len cap l) : (convert 73 9 (.slice a len cap)).run Tryd.prog w = .ok (.string (strOfNums l)) w := by
  have hb := h.bounds
  by_cases h0 : len = 0
  · subst h0
    obtain rfl : l = [] := List.eq_nil_of_length_eq_zero hb.1
    exact run_convert_bytes_zero w _ _ Tryd.underlying73 Tryd.underlying5 a cap _ Tryd.underlying9
  · obtain ⟨b, off, rfl, _, hc⟩ := h.opened (by omega)
    exact run_convert_bytes_arg (P := Tryd.prog) w _ _ Tryd.underlying73 Tryd.underlying5 b off len cap l hb.1 hc _ Tryd.underlying9

/-- A number's decimal digits, as a text. -/
def ddB (u : Nat) : ByteArray := ⟨(Lib.decDigits u).toArray⟩
theorem ddB_list (u : Nat) : (ddB u).toList = Lib.decDigits u := by rw [sl]; rfl
theorem ddB_size (u : Nat) (h : u ≤ 9223372036854775807) : (ddB u).size ≤ 21 := by
  have := Lib.itoa_length_le (u : Int) (by omega) (by omega)
  rw [Lib.itoa_nonneg] at this
  simpa [ddB, ByteArray.size] using this
def Tab (w : World) : Prop := Lib.TabIs Tryd.prog w "internal/strconv.uint64pow10" .u64 Lib.pow10Tab
theorem Tab.later {w w' : World} (h : Tab w) (hb : Below w.heap.size w w') : Tab w' := Lib.tabBelow_of_tabIs h w' hb

theorem itoa_any (n : Int) (h0 : 0 ≤ n) (h1 : n ≤ 9223372036854775807) (w : World) (ht : Tab w) : Calls Tryd.prog 22 #[.int .i64 n] w fun e w' => e = .returned (.string (ddB n.toNat)) ∧ Below w.heap.size w w' := by
  refine (Tryd.strconv_Itoa n (by omega) h1 w ht).mono ?_
  rintro e w' ⟨rfl, k, os, rfl⟩
  refine ⟨?_, ?_⟩
  · obtain ⟨u, rfl⟩ : ∃ u : Nat, n = u := ⟨n.toNat, by omega⟩
    rw [Lib.itoa_nonneg]; rfl
  · exact bel_of_class ⟨⟨w.drawn + k, os⟩, rfl⟩

theorem str_one (n : Int) (h0 : 0 ≤ n) (h1 : n < 10) : strOfNums [48 + n] = ddB n.toNat := by
  unfold ddB strOfNums
  rw [dd_small (by omega), List.map_cons, List.map_nil, show (48 + n).toNat = 48 + n.toNat by omega]
theorem ddB_two (n : Int) (h0 : 10 ≤ n) : ddB (n / 10).toNat ++ ddB (n % 10).toNat = ddB n.toNat := by
  have e : (ddB (n / 10).toNat ++ ddB (n % 10).toNat).data = (ddB n.toNat).data := by
    rw [ByteArray.data_append]
    unfold ddB
    rw [dd_big (u := n.toNat) (by omega), dd_small (u := (n % 10).toNat) (by omega)]
    have e1 : (n / 10).toNat = n.toNat / 10 := by omega
    have e2 : (n % 10).toNat = n.toNat % 10 := by omega
    rw [e1, e2]; simp
  cases h1 : ddB (n / 10).toNat ++ ddB (n % 10).toNat with
  | mk a => cases h2 : ddB n.toNat with
    | mk b => rw [h1, h2] at e; simpa using e

set_option maxHeartbeats 2000000 in
theorem ref_Digits (k : Nat) : ∀ (n : Int) (w : World), n ≤ k → 0 ≤ n → n ≤ 9223372036854775807 → Calls Tryd.prog 25 #[.int .i64 n] w fun e w' => e = .returned (.string (ddB n.toNat)) ∧ Below w.heap.size w w' := by
  induction k with
  | zero =>
    intro n w hk h0 h1
    obtain rfl : n = 0 := by omega
    have hi := conv_strQ (ints_new (k := .u8) w [48] 5 (0, 0) (by unfold maxLen; simp) (fun m hm => by simp at hm; subst hm; exact WalkArith.wf_u8 ⟨by omega, by omega⟩))
    have e1 := str_one 0 (by omega) (by omega)
    simp only [Int.add_zero] at e1
    rw [e1] at hi
    simp only [List.map_cons, List.map_nil, List.length_cons, List.length_nil, Nat.zero_add] at hi
    go_enter Tryd.func25, Tryd.ntmps25
    go_wp2
    go_ret
    exact ⟨rfl, belAlloc (Below.refl _ _) _⟩
  | succ k ih =>
    intro n w hk h0 h1
    by_cases hn : n < 10
    · have hi := conv_strQ (ints_new (k := .u8) w [48 + n] 5 (0, 0) (by unfold maxLen; simp) (fun m hm => by simp at hm; subst hm; exact WalkArith.wf_u8 ⟨by omega, by omega⟩))
      rw [str_one n h0 hn] at hi
      simp only [List.map_cons, List.map_nil, List.length_cons, List.length_nil, Nat.zero_add] at hi
      have hw8 : IntKind.u8.wrap (48 + n) = 48 + n := IntWalk.u8_in _ (by omega)
      go_enter Tryd.func25, Tryd.ntmps25
      go_wp2
      clear hi hw8
      go_ret
      exact ⟨rfl, belAlloc (Below.refl _ _) _⟩
    · have hbel : Below w.heap.size w w := Below.refl _ _
      have C1 := Lib.hid (fun v => ih (n / 10) v (by omega) (by omega) (by omega))
      have C2 := Lib.hid (fun v => ih (n % 10) v (by omega) (by omega) (by omega))
      have HD := Lib.hid (ddB_two n (by omega))
      have z1 := ddB_size (n / 10).toNat (by omega)
      have z2 := ddB_size (n % 10).toNat (by omega)
      clear ih
      go_enter Tryd.func25, Tryd.ntmps25
      go_wp2_with (first | (go_at_call 25; (with_reducible refine (C1.out _).mono ?_); rintro e w1 ⟨rfl, hb1⟩; replace hbel := belStep hbel hb1; clear hb1) | (go_at_call 25; (with_reducible refine (C2.out _).mono ?_); rintro e w1 ⟨rfl, hb1⟩; replace hbel := belStep hbel hb1; clear hb1))
      go_ret
      exact ⟨by rw [HD.out]; rfl, hbel⟩
theorem Digits_any (n : Int) (h0 : 0 ≤ n) (h1 : n ≤ 9223372036854775807) (w : World) : Calls Tryd.prog 25 #[.int .i64 n] w fun e w' => e = .returned (.string (ddB n.toNat)) ∧ Below w.heap.size w w' := ref_Digits n.toNat n w (by omega) h0 h1
end Go.Proofs.YtekakalhknjdaaaDoor
namespace Go.Proofs.YtekakalhknjdaaaDoor
open Go.RowKit
set_option linter.unusedVariables false
set_option linter.unusedSimpArgs false

/-- The first unit, of the last d, that n is a multiple of. -/
def bf (n : Int) : Nat → Option Nat
  | 0 => none
  | d + 1 => if n % unitP (8 - (d + 1)) = 0 then some (8 - (d + 1)) else bf n d
def nmO : Option Nat → ByteArray | none => ⟨#[]⟩ | some k => nmB k
def uO : Option Nat → Int | none => 1 | some k => unitP k
theorem bf_at (n : Int) {k : Nat} (h : k < 8) : bf n (8 - k) = if n % unitP k = 0 then some k else bf n (8 - (k + 1)) := by
  obtain ⟨d, hd⟩ : ∃ d, 8 - k = d + 1 := ⟨7 - k, by omega⟩
  rw [hd, bf, show 8 - (d + 1) = k by omega, show 8 - (k + 1) = d by omega]
theorem unitP_bd (k : Nat) (h : k < 8) : 1 ≤ unitP k ∧ unitP k ≤ 1099511627776 := by
  rcases (show k = 0 ∨ k = 1 ∨ k = 2 ∨ k = 3 ∨ k = 4 ∨ k = 5 ∨ k = 6 ∨ k = 7 by omega) with rfl | rfl | rfl | rfl | rfl | rfl | rfl | rfl <;> decide
theorem bf_lt (n : Int) : ∀ (d k : Nat), d ≤ 8 → bf n d = some k → k < 8 ∧ n % unitP k = 0
  | 0, k, _, h => by cases h
  | d + 1, k, hd, h => by
    unfold bf at h
    split at h
    · rename_i hc
      simp only [Option.some.injEq] at h; subst h
      exact ⟨by omega, hc⟩
    · exact bf_lt n d k (by omega) h
theorem nmO_unit (n : Int) (d : Nat) (hd : d ≤ 8) : unitL (nmO (bf n d)).toList = uO (bf n d) ∧ 1 ≤ uO (bf n d) ∧ uO (bf n d) ≤ 1099511627776 ∧ n % uO (bf n d) = 0 := by
  cases h : bf n d with
  | none => exact ⟨by rw [sl]; rfl, (by omega : (1 : Int) ≤ 1), (by omega : (1 : Int) ≤ 1099511627776), (by omega : n % (1 : Int) = 0)⟩
  | some k =>
    obtain ⟨h1, h2⟩ := bf_lt n d k hd h
    have := unitP_bd k h1
    exact ⟨by show unitL (nmB k).toList = unitP k; rw [nmB_list, unit_name h1], this.1, this.2, h2⟩
/-- What is printed of a number from 1 on. -/
def prB (n : Int) : ByteArray := ddB (n / uO (bf n 8)).toNat ++ nmO (bf n 8)
def prAll (n : Int) : ByteArray := if n ≤ 0 then ⟨#[48]⟩ else prB n
theorem app_nil (a : ByteArray) : a ++ (⟨#[]⟩ : ByteArray) = a := by
  cases a with
  | mk d =>
    have : ((⟨d⟩ : ByteArray) ++ (⟨#[]⟩ : ByteArray)).data = d := by rw [ByteArray.data_append]; simp
    cases h : (⟨d⟩ : ByteArray) ++ (⟨#[]⟩ : ByteArray) with
    | mk e => rw [h] at this; simpa using this
theorem nmB_size (k : Nat) : (nmB k).size ≤ 2 := by
  unfold nmB nmL
  split <;> decide
theorem nmO_size (o : Option Nat) : (nmO o).size ≤ 2 := by
  cases o with
  | none => decide
  | some k => exact nmB_size k
theorem prB_some {n : Int} {k : Nat} (h : bf n 8 = some k) : ddB (n / unitP k).toNat ++ nmB k = prB n := by unfold prB; rw [h]; rfl
theorem prB_none {n : Int} (h : bf n 8 = none) : ddB n.toNat = prB n := by
  unfold prB; rw [h]
  show _ = ddB (n / 1).toNat ++ (⟨#[]⟩ : ByteArray)
  rw [app_nil, Int.ediv_one]

end Go.Proofs.YtekakalhknjdaaaDoor
