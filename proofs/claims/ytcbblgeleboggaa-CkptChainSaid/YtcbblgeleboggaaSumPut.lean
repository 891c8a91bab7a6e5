
/- sum.Of, last, Put, Cut: contracts. -/
import Derived.Test.YtcbblgeleboggaaSumParts
import Derived.Laws.BytesArg
import Derived.Shelf.Bytes.SlSmallAll
namespace Go.Proofs.Ytcbblgeleboggaa
open Go.RowKit
set_option linter.unusedVariables false
set_option linter.unusedSimpArgs false

theorem parts_one (w : World) (a : Option Addr) (len cap : Nat) (l : List Int) (hl : Ints .u8 w a len cap l) :
    Parts (w.alloc (.cells #[.slice a len cap] 29)) (some ⟨w.heap.size, 0, none⟩) 1 1 [(a, len, cap, l)] := by
  refine ⟨rfl, row_new w [.slice a len cap] 29 1 1 rfl (by unfold maxLen; omega), fun x hx => ?_⟩
  simp at hx
  subst hx
  exact hl.later ((Below.refl _ _).alloc (Nat.le_refl _) _)

theorem sum_Of (a : Option Addr) (len cap : Nat) (l : List Int) (w : World) (hl : Ints .u8 w a len cap l) :
    Calls Try.prog 60 #[.slice a len cap] w fun e w' => e = .returned (.int .u32 (sumOf l)) ∧ Below w.heap.size w w' := by
  have hP := parts_one w a len cap l hl
  have cs := sum_Parts _ 1 1 _ _ hP
  rw [show joinP [(a, len, cap, l)] = l by simp [joinP]] at cs
  have CS := Lib.hid cs
  clear cs hP hl
  go_enter Try.func60, Try.ntmps60
  go_wp2_with (first | (go_at_call 73; (with_reducible refine CS.out.mono ?_); rintro e w1 ⟨rfl, hb1⟩))
  go_ret
  exact ⟨rfl, belStep (belAlloc (Below.refl _ _) _) hb1⟩

/-- 'string(b)'. -/
theorem conv_str {w : World} {a : Option Addr} {len cap : Nat} {l : List Int} (h : Ints .u8 w a len cap l) : (convert 29 9 (.slice a len cap)).run Try.prog w = .ok (.string (strOfNums l)) w := by
  have hb := h.bounds
  by_cases h0 : len = 0
  · subst h0
    obtain rfl : l = [] := List.eq_nil_of_length_eq_zero hb.1
    exact run_convert_bytes_zero w _ _ Try.underlying29 Try.underlying5 a cap _ Try.underlying9
  · obtain ⟨b, off, rfl, _, hc⟩ := h.opened (by omega)
    exact run_convert_bytes_arg (P := Try.prog) w _ _ Try.underlying29 Try.underlying5 b off len cap l hb.1 hc _ Try.underlying9
theorem str_inj {a b : List Int} (ha : Bytes a) (hb : Bytes b) : ((strOfNums a).toList == (strOfNums b).toList) = (a == b) := by
  have key : (strOfNums a).toList = (strOfNums b).toList ↔ a = b := by
    rw [Lib.strOfNums_toList, Lib.strOfNums_toList]
    unfold Lib.bytesOf
    constructor
    · intro h
      have h1 : a.map (fun n => UInt8.ofNat n.toNat) = b.map (fun n => UInt8.ofNat n.toNat) := h
      clear h
      induction a generalizing b with
      | nil => cases b with
        | nil => rfl
        | cons y b => simp at h1
      | cons x a ih => cases b with
        | nil => simp at h1
        | cons y b =>
          simp only [List.map_cons, List.cons.injEq] at h1
          have hx := ha x List.mem_cons_self
          have hy := hb y List.mem_cons_self
          have e : x.toNat % 256 = y.toNat % 256 := by
            have := congrArg UInt8.toNat h1.1
            simpa using this
          rw [ih (fun c hc => ha c (List.mem_cons_of_mem _ hc)) (fun c hc => hb c (List.mem_cons_of_mem _ hc)) h1.2]
          congr 1; omega
    · rintro rfl; rfl
  rcases Classical.em (a = b) with h | h
  · subst h; simp
  · have h2 : (strOfNums a).toList ≠ (strOfNums b).toList := fun e => h (key.1 e)
    rw [beq_eq_false_iff_ne.2 h, beq_eq_false_iff_ne.2 h2]

set_option maxHeartbeats 1000000 in
theorem bytes_Equal (a : Option Addr) (len cap : Nat) (l : List Int) (b : Option Addr) (len2 cap2 : Nat) (l2 : List Int) (w : World) (hl : Ints .u8 w a len cap l) (h2 : Ints .u8 w b len2 cap2 l2) :
    Calls Try.prog 52 #[.slice a len cap, .slice b len2 cap2] w fun e w' => e = .returned (.bool (l == l2)) ∧ w = w' := by
  have c1 := conv_str hl
  have c2 := conv_str h2
  have hr := str_inj (bytes_of hl) (bytes_of h2)
  have HR := Lib.hid hr
  clear hr hl h2
  go_enter Try.func52, Try.ntmps52
  go_wp2
  go_ret
  exact ⟨ret_bool HR.out, rfl⟩

set_option maxHeartbeats 1000000 in
theorem sref_Same (a : Option Addr) (len cap : Nat) (l : List Int) (b : Option Addr) (len2 cap2 : Nat) (l2 : List Int) (w : World) (hl : Ints .u8 w a len cap l) (h2 : Ints .u8 w b len2 cap2 l2) :
    Calls Try.prog 15 #[.slice a len cap, .slice b len2 cap2] w fun e w' => e = .returned (.bool (l == l2)) ∧ w = w' := by
  have c1 := conv_str hl
  have c2 := conv_str h2
  have hr := str_inj (bytes_of hl) (bytes_of h2)
  have HR := Lib.hid hr
  clear hr hl h2
  go_enter Try.func15, Try.ntmps15
  go_wp2
  go_ret
  exact ⟨ret_bool HR.out, rfl⟩
end Go.Proofs.Ytcbblgeleboggaa
