
/- Stage 4's statements: what is fixed; fields compared. -/
import Derived.Test.YtlgmgmnhmagolaaDoorLex2
import Derived.Test.YtlgmgmnhmagolaaDoorLexJoin
import Derived.Lib.SlBytesConst
namespace Go.Proofs.YtlgmgmnhmagolaaDoor
open Go.RowKit
set_option linter.unusedVariables false
set_option linter.unusedSimpArgs false
theorem nums_ints (w : World) (L : List UInt8) (fr : Nat × Nat) (hl : L.length ≤ 1000) : Ints .u8 (w.alloc (.cells ((numsL L).map (Value.int .u8)).toArray 5 fr)) (some ⟨w.heap.size, 0, none⟩) L.length L.length (numsL L) := by
  have h := ints_new (k := .u8) w (numsL L) 5 fr (by unfold numsL maxLen; rw [List.length_map]; omega) (fun n hn => by
    unfold numsL at hn
    obtain ⟨c, _, rfl⟩ := List.mem_map.1 hn
    exact WalkArith.wf_u8 ⟨by omega, by have := c.toNat_lt; omega⟩)
  rw [show (numsL L).length = L.length from List.length_map _] at h
  exact h
theorem eq_fld (s t : ByteArray) (a b c d : Int) (w : World) : (Op.equalIn 10000 33 (.agg #[.string s, .int .i64 a, .int .i64 c]) (.agg #[.string t, .int .i64 b, .int .i64 d])).run Tryd.prog w = .ok (s.toList == t.toList && (a == b && c == d)) w := by
  have hs : Tryd.prog.fieldsOf 33 = #[{ name := "Text", type := 9, offset := 0, embedded := false, tag := "", pkgPath := "", byteOffset := 0 }, { name := "Line", type := 3, offset := 1, embedded := false, tag := "", pkgPath := "", byteOffset := 16 }, { name := "Col", type := 3, offset := 2, embedded := false, tag := "", pkgPath := "", byteOffset := 24 }] := by kernel_rfl
  rw [run_equalIn_struct _ _ _ _ _ (by kernel_rfl) (by kernel_rfl), hs]
  simp [go_sem]
  by_cases a1 : s.toList = t.toList
  · by_cases a2 : a = b
    · by_cases a3 : c = d <;> simp [a1, a2, a3]
    · simp [a1, a2]
  · simp [a1]
def lxA : List UInt8 := [97, 32, 32, 98, 32, 35, 32, 99, 10, 10, 32, 100]
def lxF : List (List FldV) := [[⟨[97], 1, 1⟩, ⟨[98], 1, 4⟩], [⟨[100], 3, 2⟩]]
theorem lxA_read : readB lxA = true := by decide +kernel
theorem lxA_fields : fieldsF lxA = lxF := by kernel_rfl
theorem lxB_read : readB [0] = false := by decide +kernel
theorem lxA_join : joinF lxF = [97, 32, 98, 10, 100, 10] := by kernel_rfl
def awP (w : World) (e : Ending) (w' : World) : Prop := ∃ g n vs, e = .returned (.tuple #[.slice (some ⟨g, 0, none⟩) 2 n, .int .i64 0]) ∧ RowsF w' w.heap.size (.slice (some ⟨g, 0, none⟩) lxF.length n) lxF vs
theorem lines_a (w : World) (m : Int) (b : Nat) (hI : Ints .u8 w (some ⟨b, 0, none⟩) 12 12 (numsL lxA)) (hm : w.cell? ⟨0, 0, none⟩ = some (.int .i64 m)) :
    Calls Tryd.prog 10 #[.slice (some ⟨b, 0, none⟩) 12 12] w fun e w' => awP w e w' ∧ Below w.heap.size w w' := by
  refine (lex_Lines _ 12 12 lxA m w hI hm).mono ?_
  rintro e w' ⟨h | h, hb⟩
  · obtain ⟨_, b, n, vs, rfl, hR⟩ := h
    rw [lxA_fields] at hR ⊢
    obtain ⟨g, c, e, _⟩ := hR.open (by decide)
    obtain ⟨rfl, _, rfl⟩ := Value.slice.inj e
    exact ⟨⟨g, n, vs, rfl, hR⟩, hb⟩
  · rw [lxA_read] at h; cases h.1
theorem lines_b (w : World) (m : Int) (b : Nat) (hI : Ints .u8 w (some ⟨b, 0, none⟩) 1 1 (numsL [0])) (hm : w.cell? ⟨0, 0, none⟩ = some (.int .i64 m)) :
    Calls Tryd.prog 10 #[.slice (some ⟨b, 0, none⟩) 1 1] w fun e w' => e = .returned (.tuple #[.slice none 0 0, .int .i64 2]) ∧ Below w.heap.size w w' := by
  refine (lex_Lines _ 1 1 [0] m w hI hm).mono ?_
  rintro e w' ⟨h | h, hb⟩
  · rw [lxB_read] at h; cases h.1
  · exact ⟨h.2, hb⟩
set_option maxRecDepth 100000 in
set_option maxHeartbeats 4000000 in
theorem awake04 (w : World) (m : Int) (hm : w.cell? ⟨0, 0, none⟩ = some (.int .i64 m)) : Calls Tryd.prog 9 #[] w fun e w' => e = .returned (.bool true) ∧ Below w.heap.size w w' := by
  have hw : Below w.heap.size w w := Below.refl _ _
  have hbel := hw
  have hcv := fun (v : World) (C : Array Value) (n c : Nat) => Lib.run_convert_bytes_const (P := Tryd.prog) v 22 5 C n c Tryd.underlying22 Tryd.underlying5
  have cm := keep hm
  have HM := Lib.hid cm
  clear hm cm
  go_enter Tryd.func9, Tryd.ntmps9
  have HI := Lib.hid (show Ints .u8 (w.alloc (.cells #[.int .u8 97, .int .u8 32, .int .u8 32, .int .u8 98, .int .u8 32, .int .u8 35, .int .u8 32, .int .u8 99, .int .u8 10, .int .u8 10, .int .u8 32, .int .u8 100] 5 (12, 13))) (some ⟨w.heap.size, 0, none⟩) 12 12 (numsL lxA) from nums_ints w lxA (12, 13) (by decide))
  have hb1 := belAlloc hw (.cells #[.int .u8 97, .int .u8 32, .int .u8 32, .int .u8 98, .int .u8 32, .int .u8 35, .int .u8 32, .int .u8 99, .int .u8 10, .int .u8 10, .int .u8 32, .int .u8 100] 5 (12, 13))
  have CA := Lib.hid (lines_a (w.alloc (.cells #[.int .u8 97, .int .u8 32, .int .u8 32, .int .u8 98, .int .u8 32, .int .u8 35, .int .u8 32, .int .u8 99, .int .u8 10, .int .u8 10, .int .u8 32, .int .u8 100] 5 (12, 13))) m w.heap.size HI.out (HM.out _ hb1))
  have HB1 := Lib.hid hb1
  clear hb1 hw hbel
  go_upto_region 2 with (go_at_call 10; (with_reducible refine (CA.out).mono ?_); rintro e w2 ⟨⟨g, n, vs, rfl, hR⟩, hb2⟩; have HR := Lib.hid hR; have HB2 := Lib.hid (belStep HB1.out hb2); have HZ := Lib.hid hb2.size; clear hR hb2)
  have HI2 := Lib.hid (show Ints .u8 (w2.alloc (.cells #[.int .u8 0] 5)) (some ⟨w2.heap.size, 0, none⟩) 1 1 (numsL [0]) from nums_ints w2 [0] (0, 0) (by decide))
  have HB3 := Lib.hid (belAlloc HB2.out (.cells #[.int .u8 0] 5))
  have HR3 := Lib.hid (HR.out.alloc (.cells #[.int .u8 0] 5))
  have CB := Lib.hid (lines_b (w2.alloc (.cells #[.int .u8 0] 5)) m w2.heap.size HI2.out (HM.out _ HB3.out))
  go_upto_region 3 with (go_at_call 10; (with_reducible refine (CB.out).mono ?_); rintro e w3 ⟨rfl, hb4⟩; have HB4 := Lib.hid (belStep HB3.out hb4); have HR4 := Lib.hid (HR3.out.later hb4); clear hb4)
  obtain ⟨r0, n0, k0, o0⟩ := rows_at HR4.out (k := 0) (F := [⟨[97], 1, 1⟩, ⟨[98], 1, 4⟩]) rfl
  obtain ⟨r1, n1, k1, o1⟩ := rows_at HR4.out (k := 1) (F := [⟨[100], 3, 2⟩]) rfl
  obtain ⟨g0, rfl, _, _, _, a0, a1, a2⟩ := fld_at o0 (k := 1) (f := ⟨[98], 1, 4⟩) rfl
  obtain ⟨g1, rfl, _, _, _, b0, b1, b2⟩ := fld_at o1 (k := 0) (f := ⟨[100], 3, 2⟩) rfl
  simp only [List.length_cons, List.length_nil, Nat.zero_add, Nat.one_mul, Nat.zero_mul, Nat.reduceAdd] at k0 k1 a0 a1 a2 b0 b1 b2
  have q1 := fun u : World => eq_fld (bA [98]) ⟨#[98]⟩ 1 1 4 4 u
  have q2 := fun u : World => eq_fld (bA [100]) ⟨#[100]⟩ 3 3 2 2 u
  rw [show ((bA [98]).toList == (⟨#[98]⟩ : ByteArray).toList && ((1 : Int) == 1 && (4 : Int) == 4)) = true by decide +kernel] at q1
  rw [show ((bA [100]).toList == (⟨#[100]⟩ : ByteArray).toList && ((3 : Int) == 3 && (2 : Int) == 2)) = true by decide +kernel] at q2
  have CJ := Lib.hid (lex_Join _ _ n lxF vs w3 HR4.out (by rw [lxA_join]; decide))
  rw [lxA_join, show lxF.length = 2 from rfl] at CJ
  have q3 : (bA [97, 32, 98, 10, 100, 10]).toList = (⟨#[97, 32, 98, 10, 100, 10]⟩ : ByteArray).toList := rfl
  clear o0 o1
  go_wp2_with (go_at_call 14; (with_reducible refine (CJ.out).mono ?_); rintro e w4 ⟨rfl, hb5⟩; have HB5 := Lib.hid (belStep HB4.out hb5); clear hb5)
  go_ret
  exact ⟨rfl, HB5.out⟩
end Go.Proofs.YtlgmgmnhmagolaaDoor
