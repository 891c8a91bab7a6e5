
/- Stage 10: awake: contract. -/
import Derived.Test.YtcnjcldfbidkmaaDkL
import Derived.Lib.SlBytesConst
namespace Go.Proofs.Ytcnjcldfbidkmaa
open Go.RowKit Go.Sort Go.Maps Go.WideMaps
set_option linter.unusedVariables false
set_option linter.unusedSimpArgs false
theorem doW_len (d : DiskV) (o : MOp) : (doW d o).done.length ≤ d.done.length + 1 := by unfold doW; split; simp; omega
theorem doW_cap (d : DiskV) (o : MOp) : (doW d o).cap = d.cap := by unfold doW; split <;> rfl
theorem doW_files (d : DiskV) (o : MOp) : (doW d o).files = d.files := by unfold doW; split <;> rfl
def aM1 : MOp := ⟨1, ⟨#[97]⟩, ⟨#[]⟩, [120, 121, 122]⟩
def aM2 : MOp := ⟨9, ⟨#[97]⟩, ⟨#[]⟩, []⟩
def aD1 : DiskV := doW ⟨[], [], 0⟩ aM1
def aD2 : DiskV := doW aD1 aM2
def aD3 : DiskV := crashW aD2 [2]
theorem a_E1 : doE aM1 = 0 := by decide +kernel
theorem a_E2 : doE aM2 = 1 := by decide +kernel
theorem a_len1 : aD1.cap + aD1.done.length ≤ 100000 := by decide +kernel
theorem a_len2 : aD2.cap + aD2.done.length ≤ 100000 := by decide +kernel
theorem a_len3 : aD3.cap + aD3.done.length ≤ 100000 := by decide +kernel
theorem a_done2 : aD2.done.length = 1 := by decide +kernel
theorem a_done3 : aD3.done.length = 0 := by decide +kernel
theorem a_look3 : aD3.look.length = 1 := by decide +kernel
theorem a_get3 : getF aD3.look ⟨#[97]⟩ = some [120] := by decide +kernel
theorem a_non3 : getF aD3.look ⟨#[98]⟩ = none := by decide +kernel
theorem a_srt3 : SortedF aD3.files := sorted_crash (show SortedF aD2.files by unfold aD2 aD1; rw [doW_files, doW_files]; exact List.Pairwise.nil) _ _
theorem a_str : ((strOfNums [120]).toList == [120]) = true := by decide +kernel
set_option maxRecDepth 100000 in
set_option maxHeartbeats 8000000 in
theorem awake_10 (w : World) :
    Calls Try.prog 30 #[] w fun e w' => e = .returned (.bool true) ∧ Below w.heap.size w w' := by
  have hst := a_str
  have hcb := fun (v : World) (C : Array Value) (n c : Nat) => Lib.run_convert_bytes_const (P := Try.prog) v 68 5 C n c Try.underlying68 Try.underlying5
  go_enter Try.func30, Try.ntmps30
  go_upto_region 4 with (go_at_call 32; (with_reducible refine (dl_New w.heap.size [] w (fun b hb => absurd hb List.not_mem_nil) (Nat.le_refl _)).mono ?_); rintro e w1 ⟨M, rfl, hd_, hb_⟩; have HD := Lib.hid hd_; have hbel := hb_; clear hd_ hb_)
  have k1 := belAlloc (Below.refl w1.heap.size w1) (.cells #[.int .u8 120, .int .u8 121, .int .u8 122] 5 (3, 4))
  have hb1 := belStep hbel k1
  have hz : Ints .u8 (w1.alloc (.cells #[.int .u8 120, .int .u8 121, .int .u8 122] 5 (3, 4))) (some ⟨w1.heap.size, 0, none⟩) 3 3 [120, 121, 122] := ints_new (k := .u8) w1 [120, 121, 122] 5 (3, 4) (by unfold maxLen; simp) (fun m hm => by simp at hm; rcases hm with rfl | rfl | rfl <;> exact WalkArith.wf_u8 ⟨by omega, by omega⟩)
  have C1 := Lib.hid (show Calls Try.prog 33 #[.pointer (some ⟨M, 0, none⟩), .agg #[.int .i64 1, .string ⟨#[97]⟩, .string ⟨#[]⟩, .slice (some ⟨w1.heap.size, 0, none⟩) 3 3]] ((w1.alloc (.cells #[.int .u8 120, .int .u8 121, .int .u8 122] 5 (3, 4)))) (fun e w' => e = .returned (.int .i64 0) ∧ DKv w.heap.size w' M [] (aD1) ∧ Below w.heap.size ((w1.alloc (.cells #[.int .u8 120, .int .u8 121, .int .u8 122] 5 (3, 4)))) w' ∧ Free [] ((w1.alloc (.cells #[.int .u8 120, .int .u8 121, .int .u8 122] 5 (3, 4)))) w') from (dl_Do w.heap.size M [] ⟨[], [], 0⟩ _ (HD.out.later k1) (fun b hb => absurd hb List.not_mem_nil) hb1.size (by decide) ⟨1, ⟨#[97]⟩, ⟨#[]⟩, (some ⟨w1.heap.size, 0, none⟩), 3, [120, 121, 122]⟩ hz (show 3 ≤ 1000000 by omega) ⟨show (⟨#[97]⟩ : ByteArray).size ≤ maxLen by decide +kernel, show (⟨#[]⟩ : ByteArray).size ≤ maxLen by decide +kernel, ⟨show (-9223372036854775808 : Int) ≤ 1 by omega, show (1 : Int) ≤ 9223372036854775807 by omega⟩⟩).mono (by rintro e wq ⟨h1, h2, h3⟩; exact ⟨h1.trans (congrArg (fun z => Ending.returned (.int .i64 z)) a_E1), h2, h3⟩))
  have HB1 := Lib.hid hb1
  clear k1 hz hbel HD hb1
  go_upto_region 5 with (go_at_call 33; (with_reducible refine (C1.out).mono ?_); rintro e w2 ⟨rfl, hd_, hb_, -⟩; have HD := Lib.hid hd_; have hbel := HB1.out.trans hb_; clear hd_ hb_ C1)
  have C2 := Lib.hid (show Calls Try.prog 33 #[.pointer (some ⟨M, 0, none⟩), .agg #[.int .i64 9, .string ⟨#[97]⟩, .string ⟨#[]⟩, .slice none 0 0]] (w2) (fun e w' => e = .returned (.int .i64 1) ∧ DKv w.heap.size w' M [] (aD2) ∧ Below w.heap.size (w2) w' ∧ Free [] (w2) w') from (dl_Do w.heap.size M [] aD1 _ HD.out (fun b hb => absurd hb List.not_mem_nil) hbel.size a_len1 ⟨9, ⟨#[97]⟩, ⟨#[]⟩, none, 0, []⟩ (ints_nil _ _) (Nat.zero_le _) ⟨show (⟨#[97]⟩ : ByteArray).size ≤ maxLen by decide +kernel, show (⟨#[]⟩ : ByteArray).size ≤ maxLen by decide +kernel, ⟨show (-9223372036854775808 : Int) ≤ 9 by omega, show (9 : Int) ≤ 9223372036854775807 by omega⟩⟩).mono (by rintro e wq ⟨h1, h2, h3⟩; exact ⟨h1.trans (congrArg (fun z => Ending.returned (.int .i64 z)) a_E2), h2, h3⟩))
  have HB2 := Lib.hid hbel
  clear hbel HD
  go_upto_region 6 with (go_at_call 33; (with_reducible refine (C2.out).mono ?_); rintro e w3 ⟨rfl, hd_, hb_, -⟩; have HD := Lib.hid hd_; have hbel := HB2.out.trans hb_; clear hd_ hb_ C2)
  have C3 := Lib.hid (show Calls Try.prog 41 #[.pointer (some ⟨M, 0, none⟩)] (w3) (fun e w' => e = .returned (.int .i64 ((1 : Nat) : Int)) ∧ w' = w3) from by have z := dl_Open w.heap.size M [] aD2 w3 HD.out hbel.size; rw [a_done2] at z; exact z)
  go_upto_region 7 with (go_at_call 41; (with_reducible refine (C3.out).mono ?_); rintro e w3x ⟨rfl, rfl⟩; clear C3)
  have k1 := belAlloc (Below.refl w3x.heap.size w3x) (.cells #[.int .i64 2] 3)
  have hb1 := belStep hbel k1
  have hz : Ints .i64 (w3x.alloc (.cells #[.int .i64 2] 3)) (some ⟨w3x.heap.size, 0, none⟩) 1 1 [2] := ints_new (k := .i64) w3x [2] 3 (0, 0) (by unfold maxLen; simp) (fun m hm => by simp at hm; subst hm; decide)
  have C4 := Lib.hid (show Calls Try.prog 37 #[.pointer (some ⟨M, 0, none⟩), .slice (some ⟨w3x.heap.size, 0, none⟩) 1 1] ((w3x.alloc (.cells #[.int .i64 2] 3))) _ from dl_Crash w.heap.size M [] aD2 _ (HD.out.later k1) (fun b hb => absurd hb List.not_mem_nil) hb1.size a_len2 _ _ _ _ hz)
  have HB3 := Lib.hid hb1
  clear k1 hz hbel HD hb1
  go_upto_region 8 with (go_at_call 37; (with_reducible refine (C4.out).mono ?_); rintro e w4 ⟨rfl, hd_, hb_, -⟩; have HD := Lib.hid (show DKv w.heap.size w4 M [] aD3 from hd_); have hbel := HB3.out.trans hb_; clear hd_ hb_ C4)
  have C5 := Lib.hid (show Calls Try.prog 45 #[.pointer (some ⟨M, 0, none⟩), .string ⟨#[97]⟩] w4 (fun e w' => ∃ a c, e = .returned (.tuple #[.slice a 1 c, .int .i64 0]) ∧ Ints .u8 w' a 1 c [120] ∧ DKv w.heap.size w' M [] aD3 ∧ Below w4.heap.size w4 w') from (dl_Read w.heap.size M [] aD3 w4 HD.out hbel.size a_len3 ⟨#[97]⟩ (by decide +kernel)).mono (by rw [a_get3]; rintro e wq ⟨a, c, rfl, h1, _, _, h2, h3⟩; exact ⟨a, c, rfl, h1, h2, h3⟩))
  have HB4 := Lib.hid hbel
  clear hbel HD
  go_upto_region 9 with (go_at_call 45; (with_reducible refine (C5.out).mono ?_); rintro e w5 ⟨ra, rc, rfl, hi_, hd_, hb_⟩; have HD := Lib.hid hd_; have HI := Lib.hid hi_; have hbel := belStep HB4.out hb_; clear hi_ hd_ hb_ C5)
  have C6 := Lib.hid (show Calls Try.prog 45 #[.pointer (some ⟨M, 0, none⟩), .string ⟨#[98]⟩] w5 (fun e w' => ∃ v, e = .returned (.tuple #[v, .int .i64 4]) ∧ DKv w.heap.size w' M [] aD3 ∧ Below w5.heap.size w5 w') from (dl_Read w.heap.size M [] aD3 w5 HD.out hbel.size a_len3 ⟨#[98]⟩ (by decide +kernel)).mono (by rw [a_non3]; rintro e wq ⟨a, c, rfl, h1, _, _, h2, h3⟩; exact ⟨_, rfl, h2, h3⟩))
  have HB5 := Lib.hid hbel
  clear hbel HD
  go_upto_region 10 with (go_at_call 45; (with_reducible refine (C6.out).mono ?_); rintro e w6 ⟨rv, rfl, hd_, hb_⟩; have HD := Lib.hid hd_; have HI6 := Lib.hid (HI.out.later hb_); have hbel := belStep HB5.out hb_; clear hd_ hb_ C6 HI)
  have hcv := conv_str HI6.out
  have C7 := Lib.hid (show Calls Try.prog 44 #[.pointer (some ⟨M, 0, none⟩)] w6 (fun e w' => ∃ a c, e = .returned (.slice a 1 c) ∧ DKv w.heap.size w' M [] aD3 ∧ Below w6.heap.size w6 w') from (dl_Names w.heap.size M [] aD3 w6 HD.out hbel.size a_len3 a_srt3).mono (by rw [a_look3]; rintro e wq ⟨v, rfl, h1, h2, h3⟩; obtain ⟨a, c, rfl, _⟩ := rowR_of_own h1; exact ⟨a, c, rfl, h2, h3⟩))
  have C8 := Lib.hid (fun u (hu : DKv w.heap.size u M [] aD3) (hs : w.heap.size ≤ u.heap.size) => show Calls Try.prog 41 #[.pointer (some ⟨M, 0, none⟩)] u (fun e w' => e = .returned (.int .i64 ((0 : Nat) : Int)) ∧ w' = u) from by have z := dl_Open w.heap.size M [] aD3 u hu hs; rw [a_done3] at z; exact z)
  have HB6 := Lib.hid hbel
  clear hbel HD HI6
  go_wp2_with (first | (go_at_call 44; (with_reducible refine (C7.out).mono ?_); rintro e w7 ⟨na, nc, rfl, hd_, hb_⟩; have HD := Lib.hid hd_; have hbel := belStep HB6.out hb_; clear hd_ hb_) | (go_at_call 41; (with_reducible refine (C8.out _ HD.out hbel.size).mono ?_); rintro e w8 ⟨rfl, rfl⟩))
  go_ret
  exact ⟨rfl, hbel⟩
end Go.Proofs.Ytcnjcldfbidkmaa
