
/- More contracts of stage 8, in the form that its laws want. -/
import Derived.Test.YtcbblgeleboggaaAwake08
import Derived.Test.YtcbblgeleboggaaOwn
namespace Go.Proofs.Ytcbblgeleboggaa
open Go.RowKit
set_option linter.unusedVariables false
set_option linter.unusedSimpArgs false

theorem put_ints (a : Option Addr) (len cap : Nat) (l : List Int) (w : World) (hl : Ints .u8 w a len cap l) (hlen : len ≤ 1000000) :
    Calls Try.prog 45 #[.slice a len cap] w fun e w' => ∃ a2 c2, e = .returned (.slice a2 (len + 4) c2) ∧ Ints .u8 w' a2 (len + 4) c2 (l ++ tailN (sumOf l) 4) ∧ Below w.heap.size w w' := by
  have hb := bytes_of hl
  have hn := hl.bounds
  refine (sum_Put a len cap l w hl hlen).mono ?_
  rintro e w1 ⟨v, rfl, hown, hb1⟩
  obtain ⟨a2, cap2, rfl, hi2⟩ := ints_of_own hown (fun m hm => by
    rcases List.mem_append.1 hm with h | h
    · exact wf8 m (hb m h)
    · exact wf8 m (tailN_bytes _ _ m h))
  have e1 : (l ++ tailN (sumOf l) 4).length = len + 4 := by rw [List.length_append, tailN_len, hn.1]
  rw [e1] at hi2
  exact ⟨a2, cap2, by rw [e1], hi2, hb1⟩
theorem refput_ints (a : Option Addr) (len cap : Nat) (l : List Int) (w : World) (hl : Ints .u8 w a len cap l) (hlen : len ≤ 1000000) :
    Calls Try.prog 30 #[.slice a len cap] w fun e w' => ∃ a2 c2, e = .returned (.slice a2 (len + 4) c2) ∧ Ints .u8 w' a2 (len + 4) c2 (l ++ tailN (sumOf l) 4) ∧ Below w.heap.size w w' := by
  have hb := bytes_of hl
  have hn := hl.bounds
  refine (sref_Put a len cap l w hl hlen).mono ?_
  rintro e w1 ⟨v, rfl, hown, hb1⟩
  obtain ⟨a2, cap2, rfl, hi2⟩ := ints_of_own hown (fun m hm => by
    rcases List.mem_append.1 hm with h | h
    · exact wf8 m (hb m h)
    · exact wf8 m (tailN_bytes _ _ m h))
  have e1 : (l ++ tailN (sumOf l) 4).length = len + 4 := by rw [List.length_append, tailN_len, hn.1]
  rw [e1] at hi2
  exact ⟨a2, cap2, by rw [e1], hi2, hb1⟩
theorem parts_three (w : World) (a : Option Addr) (len cap : Nat) (l : List Int) (b : Option Addr) (len2 cap2 : Nat) (l2 : List Int) (c : Option Addr) (len3 cap3 : Nat) (l3 : List Int) (hl : Ints .u8 w a len cap l) (h2 : Ints .u8 w b len2 cap2 l2) (h3 : Ints .u8 w c len3 cap3 l3) :
    Calls Try.prog 73 #[.slice (some ⟨w.heap.size, 0, none⟩) 3 3] (w.alloc (.cells #[.slice a len cap, .slice b len2 cap2, .slice c len3 cap3] 29)) fun e w' => e = .returned (.int .u32 (sumOf (l ++ (l2 ++ l3)))) ∧ Below (w.alloc (.cells #[.slice a len cap, .slice b len2 cap2, .slice c len3 cap3] 29)).heap.size (w.alloc (.cells #[.slice a len cap, .slice b len2 cap2, .slice c len3 cap3] 29)) w' := by
  have hP : Parts (w.alloc (.cells #[.slice a len cap, .slice b len2 cap2, .slice c len3 cap3] 29)) (some ⟨w.heap.size, 0, none⟩) 3 3 [(a, len, cap, l), (b, len2, cap2, l2), (c, len3, cap3, l3)] := by
    refine ⟨rfl, row_new w [.slice a len cap, .slice b len2 cap2, .slice c len3 cap3] 29 3 1 rfl (by unfold maxLen; omega), fun x hx => ?_⟩
    simp at hx
    rcases hx with rfl | rfl | rfl
    · exact hl.later ((Below.refl _ _).alloc (Nat.le_refl _) _)
    · exact h2.later ((Below.refl _ _).alloc (Nat.le_refl _) _)
    · exact h3.later ((Below.refl _ _).alloc (Nat.le_refl _) _)
  have h := sum_Parts _ 3 3 _ _ hP
  rw [show joinP [(a, len, cap, l), (b, len2, cap2, l2), (c, len3, cap3, l3)] = l ++ (l2 ++ l3) by simp [joinP]] at h
  exact h


theorem ints_ownS {w : World} {B : Nat} {e : TypeId} {k : IntKind} {g n cap : Nat} {l : List Int} (h : OwnI w B e k (.slice (some ⟨g, 0, none⟩) n cap) l) (hw : ∀ m ∈ l, (Lit.int k m).wf = true) : Ints k w (some ⟨g, 0, none⟩) n cap l := by
  obtain ⟨a, c, e, hi⟩ := ints_of_own h hw
  simp at e
  obtain ⟨rfl, rfl, rfl⟩ := e
  exact hi
/-- sum.Put, with its row as the call's own. -/
theorem put_own (a : Option Addr) (len cap : Nat) (l : List Int) (w : World) (hl : Ints .u8 w a len cap l) (hlen : len ≤ 1000000) :
    Calls Try.prog 45 #[.slice a len cap] w fun e w' => ∃ g c2, e = .returned (.slice (some ⟨g, 0, none⟩) (len + 4) c2) ∧ (w.heap.size ≤ g ∧ len + 4 ≤ c2 ∧ c2 ≤ 9223372036854775807 ∧ g < w'.heap.size) ∧ OwnI w' w.heap.size 5 .u8 (.slice (some ⟨g, 0, none⟩) (len + 4) c2) (l ++ tailN (sumOf l) 4) ∧ Below w.heap.size w w' := by
  have hn := hl.bounds
  refine (sum_Put a len cap l w hl hlen).mono ?_
  rintro e w1 ⟨v, rfl, hown, hb1⟩
  have e1 : (l ++ tailN (sumOf l) 4).length = len + 4 := by rw [List.length_append, tailN_len, hn.1]
  rcases hown.shape with ⟨rfl, h0⟩ | ⟨g, c2, rfl, h1, h2, h3, h4⟩
  · rw [h0] at e1; simp at e1
  · rw [e1] at hown h3 ⊢
    exact ⟨g, c2, rfl, ⟨h1, h3, h4, h2⟩, hown, hb1⟩
theorem put_bytes {l : List Int} (h : Bytes l) : ∀ m ∈ l ++ tailN (sumOf l) 4, (Lit.int .u8 m).wf = true := fun m hm => by
  rcases List.mem_append.1 hm with q | q
  · exact wf8 m (h m q)
  · exact wf8 m (tailN_bytes _ _ m q)
theorem put_ok (l : List Int) : cutOk (l ++ tailN (sumOf l) 4) = true := by
  unfold cutOk
  rw [List.length_append, tailN_len, show l.length + 4 - 4 = l.length by omega, List.drop_left, List.take_left]
  simp
theorem put_body (l : List Int) : cutBody (l ++ tailN (sumOf l) 4) = l := by
  unfold cutBody
  rw [put_ok, List.length_append, tailN_len, show l.length + 4 - 4 = l.length by omega, List.take_left]; rfl
/-- sum.Cut of what was put, with its row as the call's own. -/
theorem cut_put (l : List Int) (a : Option Addr) (n cap : Nat) (w : World) (hl : Ints .u8 w a n cap (l ++ tailN (sumOf l) 4)) (hlen : n ≤ 1000000) :
    Calls Try.prog 39 #[.slice a n cap] w fun e w' => ∃ v, e = .returned (.tuple #[v, .bool true]) ∧ OwnI w' w.heap.size 5 .u8 v l ∧ Below w.heap.size w w' := by
  refine (sum_Cut a n cap _ w hl hlen).mono ?_
  rintro e w1 ⟨v, rfl, hown, hb1⟩
  rw [put_body] at hown
  exact ⟨v, by rw [put_ok], hown, hb1⟩
theorem xor_bytes {l : List Int} (h : Bytes l) (i : Nat) (a b : Int) : Bytes (l.set i (bits .xor .u8 a b)) := fun c hc => by
  rcases List.mem_or_eq_of_mem_set hc with q | q
  · exact h c q
  · subst q; exact xor8_bd a b
end Go.Proofs.Ytcbblgeleboggaa
