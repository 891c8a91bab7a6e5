
/- The fixed answers of layer 8's statements. -/
import Derived.Test.YtcbblgeleboggaaSumCut
import Derived.Lib.SlBytesConst
namespace Go.Proofs.Ytcbblgeleboggaa
open Go.RowKit
set_option linter.unusedVariables false
set_option linter.unusedSimpArgs false

theorem wf8 (n : Int) (h : 0 ≤ n ∧ n ≤ 255) : (Lit.int .u8 n).wf = true := WalkArith.wf_u8 ⟨h.1, h.2⟩
theorem lits (w : World) (l : List Int) (fr : Nat × Nat) (hl : l.length ≤ 100) (hb : Bytes l) : Ints .u8 (w.alloc (.cells (l.map (Value.int .u8)).toArray 5 fr)) (some ⟨w.heap.size, 0, none⟩) l.length l.length l :=
  ints_new w l 5 fr (by unfold maxLen; omega) (fun n hn => wf8 n (hb n hn))

def nine : List Int := [49, 50, 51, 52, 53, 54, 55, 56, 57]
theorem nine_sum : sumOf nine = 3421780262 := by decide +kernel
theorem ab_ok : cutOk ([97, 98] ++ tailN (sumOf [97, 98]) 4) = true := by decide +kernel
theorem ab_body : cutBody ([97, 98] ++ tailN (sumOf [97, 98]) 4) = [97, 98] := by decide +kernel
theorem five_no : cutOk [1, 2, 3, 4, 5] = false := by decide +kernel
theorem str_ab : (strOfNums [97, 98]).toList = (⟨#[97, 98]⟩ : ByteArray).toList := by decide +kernel

theorem put_ab (w : World) : Calls Try.prog 45 #[.slice (some ⟨w.heap.size, 0, none⟩) 2 2] (w.alloc (.cells #[.int .u8 97, .int .u8 98] 5 (2, 3))) fun e w' =>
    ∃ a cap, e = .returned (.slice a 6 cap) ∧ Ints .u8 w' a 6 cap ([97, 98] ++ tailN (sumOf [97, 98]) 4) ∧ Below (w.alloc (.cells #[.int .u8 97, .int .u8 98] 5 (2, 3))).heap.size (w.alloc (.cells #[.int .u8 97, .int .u8 98] 5 (2, 3))) w' := by
  refine (sum_Put _ _ _ _ _ (lits w [97, 98] (2, 3) (by simp) (by intro c hc; simp at hc; omega)) (by simp)).mono ?_
  rintro e w1 ⟨v, rfl, hown, hb1⟩
  obtain ⟨a2, cap2, rfl, hi2⟩ := ints_of_own hown (fun m hm => by
    rcases List.mem_append.1 hm with h | h
    · simp at h; exact wf8 m (by omega)
    · exact wf8 m (tailN_bytes _ _ m h))
  rw [show ([97, 98] ++ tailN (sumOf [97, 98]) 4 : List Int).length = 6 by simp [tailN_len]] at hi2
  exact ⟨a2, cap2, by rw [show ([97, 98] ++ tailN (sumOf [97, 98]) 4 : List Int).length = 6 by simp [tailN_len]], hi2, hb1⟩
theorem cut_ab (a : Option Addr) (cap : Nat) (w : World) (h : Ints .u8 w a 6 cap ([97, 98] ++ tailN (sumOf [97, 98]) 4)) : Calls Try.prog 39 #[.slice a 6 cap] w fun e w' =>
    ∃ a2 c2, e = .returned (.tuple #[.slice a2 2 c2, .bool true]) ∧ Ints .u8 w' a2 2 c2 [97, 98] ∧ Below w.heap.size w w' := by
  refine (sum_Cut _ _ _ _ _ h (by omega)).mono ?_
  rintro e w1 ⟨v, rfl, hown, hb1⟩
  rw [ab_body] at hown
  obtain ⟨a2, cap2, rfl, hi2⟩ := ints_of_own hown (fun m hm => by simp at hm; exact wf8 m (by omega))
  exact ⟨a2, cap2, by rw [ab_ok]; rfl, hi2, hb1⟩
theorem cut_five (w : World) : Calls Try.prog 39 #[.slice (some ⟨w.heap.size, 0, none⟩) 5 5] (w.alloc (.cells #[.int .u8 1, .int .u8 2, .int .u8 3, .int .u8 4, .int .u8 5] 5)) fun e w' =>
    ∃ v, e = .returned (.tuple #[v, .bool false]) ∧ Below (w.alloc (.cells #[.int .u8 1, .int .u8 2, .int .u8 3, .int .u8 4, .int .u8 5] 5)).heap.size (w.alloc (.cells #[.int .u8 1, .int .u8 2, .int .u8 3, .int .u8 4, .int .u8 5] 5)) w' := by
  refine (sum_Cut _ _ _ _ _ (lits w [1, 2, 3, 4, 5] (0, 0) (by simp) (by intro c hc; simp at hc; omega)) (by simp)).mono ?_
  rintro e w1 ⟨v, rfl, hown, hb1⟩
  exact ⟨v, by rw [five_no], hb1⟩
theorem of_nine (w : World) : Calls Try.prog 60 #[.slice (some ⟨w.heap.size, 0, none⟩) 9 9] (w.alloc (.cells #[.int .u8 49, .int .u8 50, .int .u8 51, .int .u8 52, .int .u8 53, .int .u8 54, .int .u8 55, .int .u8 56, .int .u8 57] 5 (9, 10))) fun e w' =>
    e = .returned (.int .u32 3421780262) ∧ Below (w.alloc (.cells #[.int .u8 49, .int .u8 50, .int .u8 51, .int .u8 52, .int .u8 53, .int .u8 54, .int .u8 55, .int .u8 56, .int .u8 57] 5 (9, 10))).heap.size (w.alloc (.cells #[.int .u8 49, .int .u8 50, .int .u8 51, .int .u8 52, .int .u8 53, .int .u8 54, .int .u8 55, .int .u8 56, .int .u8 57] 5 (9, 10))) w' := by
  have h := sum_Of _ _ _ _ _ (lits w nine (9, 10) (by simp [nine]) (by intro c hc; simp [nine] at hc; omega))
  rw [nine_sum] at h
  exact h

theorem parts_nine (w : World) : Calls Try.prog 73 #[.slice (some ⟨w.heap.size + 1 + 1, 0, none⟩) 3 3] (((w.alloc (.cells #[.int .u8 49, .int .u8 50, .int .u8 51, .int .u8 52] 5 (4, 5))).alloc (.cells #[.int .u8 53, .int .u8 54, .int .u8 55, .int .u8 56, .int .u8 57] 5 (5, 6))).alloc (.cells #[.slice (some ⟨w.heap.size, 0, none⟩) 4 4, .slice none 0 0, .slice (some ⟨w.heap.size + 1, 0, none⟩) 5 5] 29)) fun e w' => e = .returned (.int .u32 3421780262) ∧ Below (((w.alloc (.cells #[.int .u8 49, .int .u8 50, .int .u8 51, .int .u8 52] 5 (4, 5))).alloc (.cells #[.int .u8 53, .int .u8 54, .int .u8 55, .int .u8 56, .int .u8 57] 5 (5, 6))).alloc (.cells #[.slice (some ⟨w.heap.size, 0, none⟩) 4 4, .slice none 0 0, .slice (some ⟨w.heap.size + 1, 0, none⟩) 5 5] 29)).heap.size (((w.alloc (.cells #[.int .u8 49, .int .u8 50, .int .u8 51, .int .u8 52] 5 (4, 5))).alloc (.cells #[.int .u8 53, .int .u8 54, .int .u8 55, .int .u8 56, .int .u8 57] 5 (5, 6))).alloc (.cells #[.slice (some ⟨w.heap.size, 0, none⟩) 4 4, .slice none 0 0, .slice (some ⟨w.heap.size + 1, 0, none⟩) 5 5] 29)) w' := by
  have i4 := lits w [49, 50, 51, 52] (4, 5) (by simp) (by intro c hc; simp at hc; omega)
  have i5 := lits (w.alloc (.cells #[.int .u8 49, .int .u8 50, .int .u8 51, .int .u8 52] 5 (4, 5))) [53, 54, 55, 56, 57] (5, 6) (by simp) (by intro c hc; simp at hc; omega)
  have i0 : Ints .u8 (((w.alloc (.cells #[.int .u8 49, .int .u8 50, .int .u8 51, .int .u8 52] 5 (4, 5))).alloc (.cells #[.int .u8 53, .int .u8 54, .int .u8 55, .int .u8 56, .int .u8 57] 5 (5, 6))).alloc (.cells #[.slice (some ⟨w.heap.size, 0, none⟩) 4 4, .slice none 0 0, .slice (some ⟨w.heap.size + 1, 0, none⟩) 5 5] 29)) none 0 0 [] := ⟨⟨rfl, Nat.le_refl _, by unfold maxLen; omega, fun _ => ⟨rfl, rfl⟩, .inl rfl⟩, fun n hn => by cases hn⟩
  have hP : Parts (((w.alloc (.cells #[.int .u8 49, .int .u8 50, .int .u8 51, .int .u8 52] 5 (4, 5))).alloc (.cells #[.int .u8 53, .int .u8 54, .int .u8 55, .int .u8 56, .int .u8 57] 5 (5, 6))).alloc (.cells #[.slice (some ⟨w.heap.size, 0, none⟩) 4 4, .slice none 0 0, .slice (some ⟨w.heap.size + 1, 0, none⟩) 5 5] 29)) (some ⟨w.heap.size + 1 + 1, 0, none⟩) 3 3 [(some ⟨w.heap.size, 0, none⟩, 4, 4, [49, 50, 51, 52]), (none, 0, 0, []), (some ⟨w.heap.size + 1, 0, none⟩, 5, 5, [53, 54, 55, 56, 57])] := by
    refine ⟨rfl, ?_, fun x hx => ?_⟩
    · have := row_new ((w.alloc (.cells #[.int .u8 49, .int .u8 50, .int .u8 51, .int .u8 52] 5 (4, 5))).alloc (.cells #[.int .u8 53, .int .u8 54, .int .u8 55, .int .u8 56, .int .u8 57] 5 (5, 6))) [.slice (some ⟨w.heap.size, 0, none⟩) 4 4, .slice none 0 0, .slice (some ⟨w.heap.size + 1, 0, none⟩) 5 5] 29 3 1 rfl (by unfold maxLen; omega)
      simpa [partV] using this
    · simp at hx
      rcases hx with rfl | rfl | rfl
      · exact (i4.later (belAlloc (Below.refl _ _) _)).later (belAlloc (Below.refl _ _) _)
      · exact i0
      · have := i5.later (belAlloc (Below.refl _ _) (.cells #[.slice (some ⟨w.heap.size, 0, none⟩) 4 4, .slice none 0 0, .slice (some ⟨w.heap.size + 1, 0, none⟩) 5 5] 29))
        simpa using this
  have h := sum_Parts _ 3 3 _ _ hP
  rw [show joinP [((some ⟨w.heap.size, 0, none⟩ : Option Addr), 4, 4, [49, 50, 51, 52]), (none, 0, 0, []), (some ⟨w.heap.size + 1, 0, none⟩, 5, 5, [53, 54, 55, 56, 57])] = nine from rfl, nine_sum] at h
  exact h

end Go.Proofs.Ytcbblgeleboggaa
