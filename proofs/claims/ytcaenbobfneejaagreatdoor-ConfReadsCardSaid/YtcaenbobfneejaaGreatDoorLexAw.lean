
/- Stage 4's statements: what is fixed; fields compared. -/
import Derived.Test.YtcaenbobfneejaaGreatDoorLex2
import Derived.Test.YtcaenbobfneejaaGreatDoorLexJoin
import Derived.Lib.SlBytesConst
namespace Go.Proofs.YtcaenbobfneejaaGreatDoor
open Go.RowKit
set_option linter.unusedVariables false
set_option linter.unusedSimpArgs false
theorem nums_ints (w : World) (L : List UInt8) (fr : Nat × Nat) (hl : L.length ≤ 1000) : Ints .u8 (w.alloc (.cells ((numsL L).map (Value.int .u8)).toArray 5 fr)) (some ⟨w.heap.size, 0, none⟩) L.length L.length (numsL L) := by
  have h := ints_new (k := .u8) w (numsL L) 5 fr (by unfold numsL maxLen; rw [List.length_map]; omega) (fun n hn => by
    unfold numsL at hn
    obtain ⟨c, _, rfl⟩ := List.mem_map.1 hn
    exact WalkArith.wf_u8 ⟨by omega, by have := c.toNat_lt; omega⟩)
  rw [show (numsL L).length = L.length from List.length_map _] at h
  exact h
theorem eq_fld (s t : ByteArray) (a b c d : Int) (w : World) : (Op.equalIn 10000 45 (.agg #[.string s, .int .i64 a, .int .i64 c]) (.agg #[.string t, .int .i64 b, .int .i64 d])).run Tryz.prog w = .ok (s.toList == t.toList && (a == b && c == d)) w := by
  have hs : Tryz.prog.fieldsOf 45 = #[{ name := "Text", type := 9, offset := 0, embedded := false, tag := "", pkgPath := "", byteOffset := 0 }, { name := "Line", type := 3, offset := 1, embedded := false, tag := "", pkgPath := "", byteOffset := 16 }, { name := "Col", type := 3, offset := 2, embedded := false, tag := "", pkgPath := "", byteOffset := 24 }] := by kernel_rfl
  rw [run_equalIn_struct _ _ _ _ _ (by kernel_rfl) (by kernel_rfl), hs]
  simp [go_sem]
  by_cases a1 : s.toList = t.toList
  · by_cases a2 : a = b
    · by_cases a3 : c = d <;> simp [a1, a2, a3]
    · simp [a1, a2]
  · simp [a1]
def lxA : List UInt8 := [97, 32, 32, 98, 32, 35, 32, 99, 10, 10, 32, 100]
def lxF : List (List FldV) := [[⟨[97], 1, 1⟩, ⟨[98], 1, 4⟩], [⟨[100], 3, 2⟩]]
theorem lxA_read : readB lxA = true := by decide +kernel
theorem lxA_fields : fieldsF lxA = lxF := by kernel_rfl
theorem lxB_read : readB [0] = false := by decide +kernel
theorem lxA_join : joinF lxF = [97, 32, 98, 10, 100, 10] := by kernel_rfl
def awP (w : World) (e : Ending) (w' : World) : Prop := ∃ g n vs, e = .returned (.tuple #[.slice (some ⟨g, 0, none⟩) 2 n, .int .i64 0]) ∧ RowsF w' w.heap.size (.slice (some ⟨g, 0, none⟩) lxF.length n) lxF vs
theorem lines_a (w : World) (m : Int) (b : Nat) (hI : Ints .u8 w (some ⟨b, 0, none⟩) 12 12 (numsL lxA)) (hm : w.cell? ⟨0, 0, none⟩ = some (.int .i64 m)) :
    Calls Tryz.prog 12 #[.slice (some ⟨b, 0, none⟩) 12 12] w fun e w' => awP w e w' ∧ Below w.heap.size w w' := by
  refine (lex_Lines _ 12 12 lxA m w hI hm).mono ?_
  rintro e w' ⟨h | h, hb⟩
  · obtain ⟨_, b, n, vs, rfl, hR⟩ := h
    rw [lxA_fields] at hR ⊢
    obtain ⟨g, c, e, _⟩ := hR.open (by decide)
    obtain ⟨rfl, _, rfl⟩ := Value.slice.inj e
    exact ⟨⟨g, n, vs, rfl, hR⟩, hb⟩
  · rw [lxA_read] at h; cases h.1
theorem lines_b (w : World) (m : Int) (b : Nat) (hI : Ints .u8 w (some ⟨b, 0, none⟩) 1 1 (numsL [0])) (hm : w.cell? ⟨0, 0, none⟩ = some (.int .i64 m)) :
    Calls Tryz.prog 12 #[.slice (some ⟨b, 0, none⟩) 1 1] w fun e w' => e = .returned (.tuple #[.slice none 0 0, .int .i64 2]) ∧ Below w.heap.size w w' := by
  refine (lex_Lines _ 1 1 [0] m w hI hm).mono ?_
  rintro e w' ⟨h | h, hb⟩
  · rw [lxB_read] at h; cases h.1
  · exact ⟨h.2, hb⟩
end Go.Proofs.YtcaenbobfneejaaGreatDoor
