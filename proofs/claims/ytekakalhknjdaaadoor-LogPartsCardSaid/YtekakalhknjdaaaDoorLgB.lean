
/- Stage 27: awake: contract. -/
import Derived.Test.YtekakalhknjdaaaDoorLgA
namespace Go.Proofs.YtekakalhknjdaaaDoor
open Go.RowKit
set_option linter.unusedVariables false
set_option linter.unusedSimpArgs false
theorem aw_1 : lineE 7 ⟨5, ⟨#[97]⟩, 1, 0⟩ = some [55, 32, 101, 118, 105, 99, 116, 32, 97, 32, 100, 105, 115, 107] := by kernel_rfl
theorem aw_2 : lineE 0 ⟨3, ⟨#[98]⟩, 2, 3⟩ = some [48, 32, 114, 101, 106, 101, 99, 116, 32, 98, 32, 112, 114, 101, 115, 115, 117, 114, 101, 32, 112, 105, 100] := by kernel_rfl
theorem aw_3 : lineE 1 ⟨0, ⟨#[]⟩, 0, 0⟩ = none := by kernel_rfl
theorem aw_4 : progF [49, 50, 32, 112, 117, 108, 108, 32, 119, 101, 98, 32, 50, 48, 52, 56] = some (12, ⟨9, ⟨#[119, 101, 98]⟩, 0, 2048⟩) := by kernel_rfl
theorem aw_5 : progF [49, 50, 32, 112, 117, 108, 108, 32, 119, 101, 98] = none := by kernel_rfl
theorem aw_6 (a : Option Addr) : seqL (evsOf [⟨0, a, 2, 2, 3, none, 0, 0, false, false, false, [⟨6, ⟨#[]⟩, 0, 0⟩, ⟨10, ⟨#[112]⟩, 0, 0⟩]⟩]) = some [[51, 32, 111, 110, 32, 109, 101, 109, 111, 114, 121], [51, 32, 117, 112, 32, 112]] := by kernel_rfl
theorem aw_7 (a : Option Addr) : cntL (evsOf [⟨0, a, 3, 3, 0, none, 0, 0, false, false, false, [⟨6, ⟨#[]⟩, 0, 0⟩, ⟨99, ⟨#[]⟩, 0, 0⟩, ⟨6, ⟨#[]⟩, 0, 0⟩]⟩]) = [.int .i64 0, .int .i64 0, .int .i64 0, .int .i64 0, .int .i64 0, .int .i64 0, .int .i64 2, .int .i64 0, .int .i64 0, .int .i64 0, .int .i64 0, .int .i64 0, .int .i64 0, .int .i64 0, .int .i64 0, .int .i64 0, .int .i64 0] := by kernel_rfl
theorem aw_8 : (writeW ⟨9, ⟨#[119, 101, 98]⟩, 0, 2048⟩).good = true := by kernel_rfl
theorem st_good {W : World} {ea : Option Addr} {n : Nat} {r : Int} {E : List EvV} (hE : E.length = n) (hok : ∀ e ∈ E, e.ok) (hr : InI r) (hR : Row W ea n n 4 (E.flatMap EvV.cells)) : StepV.good W ⟨0, ea, n, n, r, none, 0, 0, false, false, false, E⟩ := ⟨⟨⟨by show (-9223372036854775808 : Int) ≤ 0; omega, by show (0 : Int) ≤ 9223372036854775807; omega⟩, hr, hE, hok⟩, hR⟩
theorem row_of_ownW {w : World} {B : Nat} {e : TypeId} {k : Nat} {a : Option Addr} {n c : Nat} {cs : List Value} (h : OwnR w B e k (.slice a n c) n cs) : Row w a n c k cs := by
  obtain ⟨a2, c2, e2, h2⟩ := rowR_of_own h
  cases e2
  exact h2
theorem aw_lines (u : World) (ht : ∀ v, Below u.heap.size u v → Tab v) : Calls Tryd.prog 17 #[.slice (some ⟨u.heap.size + 1, 0, none⟩) 1 1] ((u.alloc (.cells #[.int .i64 6, .string ⟨#[]⟩, .int .i64 0, .int .i64 0, .int .i64 10, .string ⟨#[112]⟩, .int .i64 0, .int .i64 0] 23)).alloc (.cells #[.int .i64 0, .slice (some ⟨u.heap.size, 0, none⟩) 2 2, .int .i64 3, .slice none 0 0, .bool false, .bool false, .bool false] 49)) fun e w' => (∃ (a : Option Addr) (c : Nat), e = .returned (.tuple #[.slice a 2 c, .int .i64 0]) ∧ Row w' a 2 c 1 [.string ⟨#[51, 32, 111, 110, 32, 109, 101, 109, 111, 114, 121]⟩, .string ⟨#[51, 32, 117, 112, 32, 112]⟩]) ∧ Below u.heap.size u w' := by
  have hs : (u.alloc (.cells #[.int .i64 6, .string ⟨#[]⟩, .int .i64 0, .int .i64 0, .int .i64 10, .string ⟨#[112]⟩, .int .i64 0, .int .i64 0] 23)).heap.size = u.heap.size + 1 := by simp
  have hb1 := belAlloc (Below.refl u.heap.size u) (.cells #[.int .i64 6, .string ⟨#[]⟩, .int .i64 0, .int .i64 0, .int .i64 10, .string ⟨#[112]⟩, .int .i64 0, .int .i64 0] 23)
  have hb2 := belAlloc hb1 (.cells #[.int .i64 0, .slice (some ⟨u.heap.size, 0, none⟩) 2 2, .int .i64 3, .slice none 0 0, .bool false, .bool false, .bool false] 49)
  have hR0 := row_new u [.int .i64 6, .string ⟨#[]⟩, .int .i64 0, .int .i64 0, .int .i64 10, .string ⟨#[112]⟩, .int .i64 0, .int .i64 0] 23 2 4 rfl (by unfold maxLen; omega)
  have hR1 := hR0.later (belAlloc (Below.refl _ _) (.cells #[.int .i64 0, .slice (some ⟨u.heap.size, 0, none⟩) 2 2, .int .i64 3, .slice none 0 0, .bool false, .bool false, .bool false] 49))
  have hR2 := row_new (u.alloc (.cells #[.int .i64 6, .string ⟨#[]⟩, .int .i64 0, .int .i64 0, .int .i64 10, .string ⟨#[112]⟩, .int .i64 0, .int .i64 0] 23)) [.int .i64 0, .slice (some ⟨u.heap.size, 0, none⟩) 2 2, .int .i64 3, .slice none 0 0, .bool false, .bool false, .bool false] 49 1 7 rfl (by unfold maxLen; omega)
  rw [hs] at hR2
  have hg : StepV.good ((u.alloc (.cells #[.int .i64 6, .string ⟨#[]⟩, .int .i64 0, .int .i64 0, .int .i64 10, .string ⟨#[112]⟩, .int .i64 0, .int .i64 0] 23)).alloc (.cells #[.int .i64 0, .slice (some ⟨u.heap.size, 0, none⟩) 2 2, .int .i64 3, .slice none 0 0, .bool false, .bool false, .bool false] 49)) ⟨0, (some ⟨u.heap.size, 0, none⟩), 2, 2, 3, none, 0, 0, false, false, false, [⟨6, ⟨#[]⟩, 0, 0⟩, ⟨10, ⟨#[112]⟩, 0, 0⟩]⟩ := st_good rfl (by intro e he; simp only [List.mem_cons, List.not_mem_nil, or_false] at he; rcases he with rfl | rfl <;> exact ⟨⟨by decide, by decide⟩, by decide, ⟨by decide, by decide⟩, ⟨by decide, by decide⟩⟩) ⟨by decide, by decide⟩ hR1
  refine (lg_Lines (some ⟨u.heap.size + 1, 0, none⟩) 1 1 [⟨0, (some ⟨u.heap.size, 0, none⟩), 2, 2, 3, none, 0, 0, false, false, false, [⟨6, ⟨#[]⟩, 0, 0⟩, ⟨10, ⟨#[112]⟩, 0, 0⟩]⟩] _ rfl (by intro x hx; rw [List.mem_singleton.1 hx]; exact hg) hR2 (by show 2 ≤ 1000000; omega) (fun v hv => ht v (hb2.trans (hv.mono hb2.size)))).mono ?_
  rintro e w' ⟨h1, hb⟩
  unfold LnsP at h1
  rw [aw_6] at h1
  obtain ⟨a, c, rfl, ho⟩ := h1
  exact ⟨⟨a, c, rfl, row_of_ownW ho⟩, hb2.trans (hb.mono hb2.size)⟩
theorem aw_count (u : World) : Calls Tryd.prog 18 #[.slice (some ⟨u.heap.size + 1, 0, none⟩) 1 1] ((u.alloc (.cells #[.int .i64 6, .string ⟨#[]⟩, .int .i64 0, .int .i64 0, .int .i64 99, .string ⟨#[]⟩, .int .i64 0, .int .i64 0, .int .i64 6, .string ⟨#[]⟩, .int .i64 0, .int .i64 0] 23)).alloc (.cells #[.int .i64 0, .slice (some ⟨u.heap.size, 0, none⟩) 3 3, .int .i64 0, .slice none 0 0, .bool false, .bool false, .bool false] 49)) fun e w' => e = .returned (.agg #[.int .i64 0, .int .i64 0, .int .i64 0, .int .i64 0, .int .i64 0, .int .i64 0, .int .i64 2, .int .i64 0, .int .i64 0, .int .i64 0, .int .i64 0, .int .i64 0, .int .i64 0, .int .i64 0, .int .i64 0, .int .i64 0, .int .i64 0]) ∧ Below u.heap.size u w' := by
  have hs : (u.alloc (.cells #[.int .i64 6, .string ⟨#[]⟩, .int .i64 0, .int .i64 0, .int .i64 99, .string ⟨#[]⟩, .int .i64 0, .int .i64 0, .int .i64 6, .string ⟨#[]⟩, .int .i64 0, .int .i64 0] 23)).heap.size = u.heap.size + 1 := by simp
  have hb1 := belAlloc (Below.refl u.heap.size u) (.cells #[.int .i64 6, .string ⟨#[]⟩, .int .i64 0, .int .i64 0, .int .i64 99, .string ⟨#[]⟩, .int .i64 0, .int .i64 0, .int .i64 6, .string ⟨#[]⟩, .int .i64 0, .int .i64 0] 23)
  have hb2 := belAlloc hb1 (.cells #[.int .i64 0, .slice (some ⟨u.heap.size, 0, none⟩) 3 3, .int .i64 0, .slice none 0 0, .bool false, .bool false, .bool false] 49)
  have hR0 := row_new u [.int .i64 6, .string ⟨#[]⟩, .int .i64 0, .int .i64 0, .int .i64 99, .string ⟨#[]⟩, .int .i64 0, .int .i64 0, .int .i64 6, .string ⟨#[]⟩, .int .i64 0, .int .i64 0] 23 3 4 rfl (by unfold maxLen; omega)
  have hR1 := hR0.later (belAlloc (Below.refl _ _) (.cells #[.int .i64 0, .slice (some ⟨u.heap.size, 0, none⟩) 3 3, .int .i64 0, .slice none 0 0, .bool false, .bool false, .bool false] 49))
  have hR2 := row_new (u.alloc (.cells #[.int .i64 6, .string ⟨#[]⟩, .int .i64 0, .int .i64 0, .int .i64 99, .string ⟨#[]⟩, .int .i64 0, .int .i64 0, .int .i64 6, .string ⟨#[]⟩, .int .i64 0, .int .i64 0] 23)) [.int .i64 0, .slice (some ⟨u.heap.size, 0, none⟩) 3 3, .int .i64 0, .slice none 0 0, .bool false, .bool false, .bool false] 49 1 7 rfl (by unfold maxLen; omega)
  rw [hs] at hR2
  have hg : StepV.good ((u.alloc (.cells #[.int .i64 6, .string ⟨#[]⟩, .int .i64 0, .int .i64 0, .int .i64 99, .string ⟨#[]⟩, .int .i64 0, .int .i64 0, .int .i64 6, .string ⟨#[]⟩, .int .i64 0, .int .i64 0] 23)).alloc (.cells #[.int .i64 0, .slice (some ⟨u.heap.size, 0, none⟩) 3 3, .int .i64 0, .slice none 0 0, .bool false, .bool false, .bool false] 49)) ⟨0, (some ⟨u.heap.size, 0, none⟩), 3, 3, 0, none, 0, 0, false, false, false, [⟨6, ⟨#[]⟩, 0, 0⟩, ⟨99, ⟨#[]⟩, 0, 0⟩, ⟨6, ⟨#[]⟩, 0, 0⟩]⟩ := st_good rfl (by intro e he; simp only [List.mem_cons, List.not_mem_nil, or_false] at he; rcases he with rfl | rfl | rfl <;> exact ⟨⟨by decide, by decide⟩, by decide, ⟨by decide, by decide⟩, ⟨by decide, by decide⟩⟩) ⟨by decide, by decide⟩ hR1
  refine (lg_Count (some ⟨u.heap.size + 1, 0, none⟩) 1 1 [⟨0, (some ⟨u.heap.size, 0, none⟩), 3, 3, 0, none, 0, 0, false, false, false, [⟨6, ⟨#[]⟩, 0, 0⟩, ⟨99, ⟨#[]⟩, 0, 0⟩, ⟨6, ⟨#[]⟩, 0, 0⟩]⟩] _ rfl (by intro x hx; rw [List.mem_singleton.1 hx]; exact hg) hR2 (by show 3 ≤ 1000000; omega)).mono ?_
  rintro e w' ⟨rfl, hb⟩
  rw [aw_7]
  exact ⟨rfl, hb2.trans (hb.mono hb2.size)⟩
theorem eq_awX (w : World) : (Op.equalIn 10000 23 (.agg #[.int .i64 9, .string ⟨#[119, 101, 98]⟩, .int .i64 0, .int .i64 2048]) (.agg #[.int .i64 9, .string ⟨#[119, 101, 98]⟩, .int .i64 0, .int .i64 2048])).run Tryd.prog w = .ok true w := by kernel_rfl
set_option maxRecDepth 100000 in
set_option maxHeartbeats 64000000 in
theorem awake27 (w : World) (he : Env w) :
    Calls Tryd.prog 10 #[] w fun e w' => e = .returned (.bool true) ∧ Below w.heap.size w w' := by
  have hbel : Below w.heap.size w w := Below.refl _ _
  have HE := Lib.hid (fun u (hu : Below w.heap.size w u) => he.later hu)
  clear he
  have C1 := Lib.hid (fun u (hu : Below w.heap.size w u) => lg_Line 7 ⟨5, ⟨#[97]⟩, 1, 0⟩ u (fun v hv => (HE.out v (hu.trans (hv.mono hu.size))).tab) ⟨by decide, by decide⟩ (by decide) ⟨by decide, by decide⟩)
  have C2 := Lib.hid (fun u (hu : Below w.heap.size w u) => lg_Line 0 ⟨3, ⟨#[98]⟩, 2, 3⟩ u (fun v hv => (HE.out v (hu.trans (hv.mono hu.size))).tab) ⟨by decide, by decide⟩ (by decide) ⟨by decide, by decide⟩)
  have C3 := Lib.hid (fun u (hu : Below w.heap.size w u) => lg_Line 1 ⟨0, ⟨#[]⟩, 0, 0⟩ u (fun v hv => (HE.out v (hu.trans (hv.mono hu.size))).tab) ⟨by decide, by decide⟩ (by decide) ⟨by decide, by decide⟩)
  rw [(ln_yes aw_1).1, (ln_yes aw_1).2] at C1
  rw [(ln_yes aw_2).1, (ln_yes aw_2).2] at C2
  rw [(ln_no aw_3).1, (ln_no aw_3).2] at C3
  have C4 := Lib.hid (fun u (hu : Below w.heap.size w u) => lg_Read ⟨#[49, 50, 32, 112, 117, 108, 108, 32, 119, 101, 98, 32, 50, 48, 52, 56]⟩ u (fun v hv => HE.out v (hu.trans (hv.mono hu.size))) (by decide))
  have C5 := Lib.hid (fun u (hu : Below w.heap.size w u) => lg_Read ⟨#[49, 50, 32, 112, 117, 108, 108, 32, 119, 101, 98]⟩ u (fun v hv => HE.out v (hu.trans (hv.mono hu.size))) (by decide))
  rw [show rdR ⟨#[49, 50, 32, 112, 117, 108, 108, 32, 119, 101, 98, 32, 50, 48, 52, 56]⟩ = 12 from by unfold rdR; rw [show progF _ = _ from aw_4], show rdE ⟨#[49, 50, 32, 112, 117, 108, 108, 32, 119, 101, 98, 32, 50, 48, 52, 56]⟩ = ⟨9, ⟨#[119, 101, 98]⟩, 0, 2048⟩ from by unfold rdE; rw [show progF _ = _ from aw_4], show rdX ⟨#[49, 50, 32, 112, 117, 108, 108, 32, 119, 101, 98, 32, 50, 48, 52, 56]⟩ = 0 from by unfold rdX; rw [show progF _ = _ from aw_4]] at C4
  rw [show rdR ⟨#[49, 50, 32, 112, 117, 108, 108, 32, 119, 101, 98]⟩ = 0 from by unfold rdR; rw [show progF _ = _ from aw_5], show rdE ⟨#[49, 50, 32, 112, 117, 108, 108, 32, 119, 101, 98]⟩ = EvV.zero from by unfold rdE; rw [show progF _ = _ from aw_5], show rdX ⟨#[49, 50, 32, 112, 117, 108, 108, 32, 119, 101, 98]⟩ = 2 from by unfold rdX; rw [show progF _ = _ from aw_5]] at C5
  rw [show EvV.v ⟨9, ⟨#[119, 101, 98]⟩, 0, 2048⟩ = .agg #[.int .i64 9, .string ⟨#[119, 101, 98]⟩, .int .i64 0, .int .i64 2048] from rfl] at C4
  rw [show EvV.v EvV.zero = .agg #[.int .i64 0, .string ⟨#[]⟩, .int .i64 0, .int .i64 0] from rfl] at C5
  go_enter Tryd.func10, Tryd.ntmps10
  go_upto_region 5 with (first | (go_at_call 11; (with_reducible refine (C1.out _ hbel).mono ?_); rintro e9 w9 ⟨rfl, hb9⟩; replace hbel := belStep hbel hb9; clear hb9) | (go_at_call 11; (with_reducible refine (C2.out _ hbel).mono ?_); rintro e9 w9 ⟨rfl, hb9⟩; replace hbel := belStep hbel hb9; clear hb9) | (go_at_call 11; (with_reducible refine (C3.out _ hbel).mono ?_); rintro e9 w9 ⟨rfl, hb9⟩; replace hbel := belStep hbel hb9; clear hb9) | (go_at_call 14; (with_reducible refine (C4.out _ hbel).mono ?_); rintro e9 w9 ⟨rfl, hb9⟩; replace hbel := belStep hbel hb9; clear hb9))
  have HX := Lib.hid (Blk.new w9 [.int .i64 9, .string ⟨#[119, 101, 98]⟩, .int .i64 0, .int .i64 2048] 23)
  replace hbel := belAlloc hbel (.cells #[.int .i64 9, .string ⟨#[119, 101, 98]⟩, .int .i64 0, .int .i64 2048] 23)
  clear C1 C2 C3 C4
  generalize w9.alloc (.cells #[.int .i64 9, .string ⟨#[119, 101, 98]⟩, .int .i64 0, .int .i64 2048] 23) = W5 at *
  generalize w9.heap.size = q5 at *
  go_upto_region 6 with (go_at_call 14; (with_reducible refine (C5.out _ hbel).mono ?_); rintro e9 w9 ⟨rfl, hb9⟩; replace hbel := belStep hbel hb9; replace HX := Lib.hid (HX.out.later hb9); clear hb9)
  replace hbel := belAlloc hbel (.cells #[.int .i64 0, .string ⟨#[]⟩, .int .i64 0, .int .i64 0] 23)
  replace HX := Lib.hid (HX.out.later (belAlloc (Below.refl _ _) (.cells #[.int .i64 0, .string ⟨#[]⟩, .int .i64 0, .int .i64 0] 23)))
  clear C5
  generalize w9.alloc (.cells #[.int .i64 0, .string ⟨#[]⟩, .int .i64 0, .int .i64 0] 23) = W6 at *
  have C6 := Lib.hid (aw_lines W6 (fun v hv => (HE.out v (belStep hbel hv)).tab))
  go_upto_region 7 with (go_at_call 17; (with_reducible refine C6.out.mono ?_); rintro e9 w9 ⟨⟨la, lc, rfl, ho9⟩, hb9⟩; replace HX := Lib.hid (HX.out.later hb9); replace hbel := belStep hbel hb9; clear hb9)
  have HO := Lib.hid ho9
  clear ho9 C6
  generalize w9 = W7 at *
  obtain ⟨_, _, _, _, h9 | ⟨lb, lo, rfl, hc9⟩⟩ := HO.out
  · cases h9
  have HC := Lib.hid hc9
  clear hc9 HO
  have C7 := Lib.hid (aw_count W7)
  have C8 := Lib.hid (fun u (hu : Below w.heap.size w u) => lg_Right ⟨9, ⟨#[119, 101, 98]⟩, 0, 2048⟩ u (fun v hv => (HE.out v (hu.trans (hv.mono hu.size))).tab) (by decide) ⟨by decide, by decide⟩)
  rw [aw_8] at C8
  have t1 : ((bA [55, 32, 101, 118, 105, 99, 116, 32, 97, 32, 100, 105, 115, 107]).toList == [55, 32, 101, 118, 105, 99, 116, 32, 97, 32, 100, 105, 115, 107]) = true := by rw [bA_toL]; rfl
  have t2 : ((bA [48, 32, 114, 101, 106, 101, 99, 116, 32, 98, 32, 112, 114, 101, 115, 115, 117, 114, 101, 32, 112, 105, 100]).toList == [48, 32, 114, 101, 106, 101, 99, 116, 32, 98, 32, 112, 114, 101, 115, 115, 117, 114, 101, 32, 112, 105, 100]) = true := by rw [bA_toL]; rfl
  have t3 : ((⟨#[51, 32, 111, 110, 32, 109, 101, 109, 111, 114, 121]⟩ : ByteArray).toList == [51, 32, 111, 110, 32, 109, 101, 109, 111, 114, 121]) = true := by rw [sl]; rfl
  have t4 : ((⟨#[51, 32, 117, 112, 32, 112]⟩ : ByteArray).toList == [51, 32, 117, 112, 32, 112]) = true := by rw [sl]; rfl
  have teq := fun u => eq_awX u
  go_wp2_with (first | (go_at_call 18; (with_reducible refine C7.out.mono ?_); rintro e9 w9 ⟨rfl, hb9⟩; replace hbel := belAlloc (belStep hbel hb9) (.cells #[.int .i64 0, .int .i64 0, .int .i64 0, .int .i64 0, .int .i64 0, .int .i64 0, .int .i64 2, .int .i64 0, .int .i64 0, .int .i64 0, .int .i64 0, .int .i64 0, .int .i64 0, .int .i64 0, .int .i64 0, .int .i64 0, .int .i64 0] 42); have hb10 := hb9.trans ((belAlloc (Below.refl w9.heap.size w9) (.cells #[.int .i64 0, .int .i64 0, .int .i64 0, .int .i64 0, .int .i64 0, .int .i64 0, .int .i64 2, .int .i64 0, .int .i64 0, .int .i64 0, .int .i64 0, .int .i64 0, .int .i64 0, .int .i64 0, .int .i64 0, .int .i64 0, .int .i64 0] 42)).mono hb9.size); have HX9 := HX.out.later hb10; have x0 := HX9.cell (j := 0) rfl; have x1 := HX9.cell (j := 1) rfl; have x2 := HX9.cell (j := 2) rfl; have x3 := HX9.cell (j := 3) rfl; have r0 := cell_later hb10 (show W7.cell? ⟨lb, lo, none⟩ = some (.string ⟨#[51, 32, 111, 110, 32, 109, 101, 109, 111, 114, 121]⟩) from HC.out 0 (by decide)); have r1 := cell_later hb10 (show W7.cell? ⟨lb, lo + 1, none⟩ = some (.string ⟨#[51, 32, 117, 112, 32, 112]⟩) from HC.out 1 (by decide)); clear hb9 hb10) | (go_at_call 13; (with_reducible refine (C8.out _ hbel).mono ?_); rintro e9 w9 ⟨rfl, hb9⟩; replace hbel := belStep hbel hb9; clear hb9))
  go_ret
  exact ⟨rfl, hbel⟩
end Go.Proofs.YtekakalhknjdaaaDoor
