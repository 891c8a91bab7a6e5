
/- Stage 27: the writer: id, number, signal: contracts. -/
import Derived.Test.YtekakalhknjdaaaDoorLg1
import Derived.Test.YtekakalhknjdaaaDoorUpc
import Derived.Test.YtekakalhknjdaaaDoorLast
namespace Go.Proofs.YtekakalhknjdaaaDoor
open Go.RowKit
set_option linter.unusedVariables false
set_option linter.unusedSimpArgs false
theorem WrAt.kind0 {u : World} {B base : Nat} {s : WrV} (h : WrAt u B base s) : WrAt (u.setCell ⟨B, 1, none⟩ (.int .i64 0)) B base { s with e := { s.e with kind := 0 } } := by
  obtain ⟨a, c, h1, h2⟩ := h
  exact ⟨a, c, h1.set 1 (.int .i64 0), own_blkW h2 h1 (by decide) 1 (.int .i64 0)⟩
theorem WrAt.id0 {u : World} {B base : Nat} {s : WrV} (h : WrAt u B base s) : WrAt (u.setCell ⟨B, 2, none⟩ (.string ⟨#[]⟩)) B base { s with e := { s.e with id := ⟨#[]⟩ } } := by
  obtain ⟨a, c, h1, h2⟩ := h
  exact ⟨a, c, h1.set 2 (.string ⟨#[]⟩), own_blkW h2 h1 (by decide) 2 (.string ⟨#[]⟩)⟩
theorem WrAt.sig0 {u : World} {B base : Nat} {s : WrV} (h : WrAt u B base s) : WrAt (u.setCell ⟨B, 3, none⟩ (.int .i64 0)) B base { s with e := { s.e with sig := 0 } } := by
  obtain ⟨a, c, h1, h2⟩ := h
  exact ⟨a, c, h1.set 3 (.int .i64 0), own_blkW h2 h1 (by decide) 3 (.int .i64 0)⟩
theorem WrAt.n0 {u : World} {B base : Nat} {s : WrV} (h : WrAt u B base s) : WrAt (u.setCell ⟨B, 4, none⟩ (.int .i64 0)) B base { s with e := { s.e with n := 0 } } := by
  obtain ⟨a, c, h1, h2⟩ := h
  exact ⟨a, c, h1.set 4 (.int .i64 0), own_blkW h2 h1 (by decide) 4 (.int .i64 0)⟩
theorem WrAt.badT {u : World} {B base : Nat} {s : WrV} (h : WrAt u B base s) : WrAt (u.setCell ⟨B, 5, none⟩ (.bool true)) B base s.err := by
  obtain ⟨a, c, h1, h2⟩ := h
  exact ⟨a, c, h1.set 5 (.bool true), own_blkW h2 h1 (by decide) 5 (.bool true)⟩
theorem idx17 {k : Int} (h : 0 < k ∧ k < 17) (w : World) : (Instr.index 85 (.agg #[.string ⟨#[]⟩, .string ⟨#[97, 100, 109, 105, 116]⟩, .string ⟨#[112, 114, 101, 101, 109, 112, 116]⟩, .string ⟨#[114, 101, 106, 101, 99, 116]⟩, .string ⟨#[100, 101, 108, 101, 116, 101]⟩, .string ⟨#[101, 118, 105, 99, 116]⟩, .string ⟨#[111, 110]⟩, .string ⟨#[111, 102, 102]⟩, .string ⟨#[98, 101, 103, 105, 110]⟩, .string ⟨#[112, 117, 108, 108]⟩, .string ⟨#[117, 112]⟩, .string ⟨#[102, 97, 105, 108]⟩, .string ⟨#[103, 111, 110, 101]⟩, .string ⟨#[100, 101, 97, 100]⟩, .string ⟨#[105, 109, 97, 103, 101]⟩, .string ⟨#[115, 116, 111, 112]⟩, .string ⟨#[114, 101, 99, 111, 118, 101, 114]⟩]) (.int .i64 k)).run Tryd.prog w = .ok (.string (bA (kwE k.toNat))) w := by
  rcases (show k = 1 ∨ k = 2 ∨ k = 3 ∨ k = 4 ∨ k = 5 ∨ k = 6 ∨ k = 7 ∨ k = 8 ∨ k = 9 ∨ k = 10 ∨ k = 11 ∨ k = 12 ∨ k = 13 ∨ k = 14 ∨ k = 15 ∨ k = 16 by omega) with rfl | rfl | rfl | rfl | rfl | rfl | rfl | rfl | rfl | rfl | rfl | rfl | rfl | rfl | rfl | rfl <;> kernel_rfl
theorem idx3S {k : Int} (h : 0 ≤ k ∧ k < 3) (w : World) : (Instr.index 93 (.agg #[.string ⟨#[109, 101, 109, 111, 114, 121]⟩, .string ⟨#[100, 105, 115, 107]⟩, .string ⟨#[112, 105, 100]⟩]) (.int .i64 k)).run Tryd.prog w = .ok (.string (bA (sgE k.toNat))) w := by
  rcases (show k = 0 ∨ k = 1 ∨ k = 2 by omega) with rfl | rfl | rfl <;> kernel_rfl
def evOk (e : EvV) : Prop := e.id.size ≤ maxLen ∧ InI e.n
theorem itoaW (n : Int) (h : InI n) (w : World) (ht : Tab w) : Calls Tryd.prog 22 #[.int .i64 n] w fun e w' => e = .returned (.string (bA (Lib.itoa n))) ∧ Below w.heap.size w w' := by
  refine (Tryd.strconv_Itoa n (by have := h.1; omega) (by have := h.2; omega) w ht).mono ?_
  rintro e w' ⟨rfl, k, os, rfl⟩
  exact ⟨rfl, bel_of_class ⟨⟨w.drawn + k, os⟩, rfl⟩⟩
set_option maxRecDepth 100000 in
set_option maxHeartbeats 16000000 in
theorem lg_id (B base : Nat) (s : WrV) (w : World) (hW : WrAt w B base s) (hb : base ≤ B) (hl : s.F.length ≤ 9) (hs : s.e.id.size ≤ maxLen) :
    Calls Tryd.prog 47 #[.pointer (some ⟨B, 0, none⟩)] w fun e w' => e = .returned (.tuple #[]) ∧ WrAt w' B base (s.idS) ∧ Below base w w' := by
  obtain ⟨a, c, hB, hO⟩ := hW
  have HW := Lib.hid (show WrAt w B base s from ⟨a, c, hB, hO⟩)
  have HB := Lib.hid hB
  have hz1 := hB.lt
  clear hB hO
  have CW := Lib.hid (fun u => lg_Word s.e.id u hs)
  have CP := Lib.hid (lg_put B base s s.e.id (wordB s.e.id.data.toList) w.drew (HW.out.later (belDrew (Below.refl _ _))) hb (by omega))
  obtain ⟨wd, hwd⟩ : ∃ x, wordB s.e.id.data.toList = x := ⟨_, rfl⟩
  rw [hwd] at CW CP
  have HWD := Lib.hid hwd
  clear hs hwd
  go_enter Tryd.func47, Tryd.ntmps47
  go_upto_region 0 with fail
  refine wp_region_upc (S := fun u => Blk u B [.slice a s.F.length c, .int .i64 s.e.kind, .string s.e.id, .int .i64 s.e.sig, .int .i64 s.e.n, .bool s.bad] 71) [12] (by kernel_rfl) (by exact HB.out.later (belDrew (Below.refl _ _))) (fun hHeld => ?_)
  refine UpC.take (i := 0) (oi := ?oi_uc1) (v := ?v_uc1) ?hi_uc1 (by kernel_rfl) ?hf_uc1 ?hr_uc1 (by kernel_rfl) ?hQ_uc1 (Or.inl ⟨?hw_uc1, ?hy_uc1⟩) (by assumption) ?rest_uc1
  case hi_uc1 => ((simp only [List.getElem?_toArray, List.getElem?_cons_succ, List.getElem?_cons_zero]); rfl)
  case hf_uc1 => kernel_rfl
  case hr_uc1 => kernel_rfl
  case hQ_uc1 => exact fun _ _ _ h => h
  case hw_uc1 => rfl
  case hy_uc1 => ((intro w hSw; (try dsimp only at hSw); go_simp); all_goals (with_reducible rfl))
  try simp only [Act.put, List.setIfInBounds_toArray, List.set_cons_zero, List.set_cons_succ]
  refine UpC.take (i := 1) (oi := ?oi_uc2) (v := ?v_uc2) ?hi_uc2 (by kernel_rfl) ?hf_uc2 ?hr_uc2 (by kernel_rfl) ?hQ_uc2 (Or.inl ⟨?hw_uc2, ?hy_uc2⟩) (by assumption) ?rest_uc2
  case hi_uc2 => ((simp only [List.getElem?_toArray, List.getElem?_cons_succ, List.getElem?_cons_zero]); rfl)
  case hf_uc2 => kernel_rfl
  case hr_uc2 => kernel_rfl
  case hQ_uc2 => exact fun _ _ _ h => h
  case hw_uc2 => rfl
  case hy_uc2 => ((intro w hSw; (try dsimp only at hSw); go_simp); all_goals (with_reducible rfl))
  try simp only [Act.put, List.setIfInBounds_toArray, List.set_cons_zero, List.set_cons_succ]
  refine UpC.take (i := 2) (oi := ?oi_uc3) (v := ?v_uc3) ?hi_uc3 (by kernel_rfl) ?hf_uc3 ?hr_uc3 (by kernel_rfl) ?hQ_uc3 (Or.inl ⟨?hw_uc3, ?hy_uc3⟩) (by assumption) ?rest_uc3
  case hi_uc3 => ((simp only [List.getElem?_toArray, List.getElem?_cons_succ, List.getElem?_cons_zero]); rfl)
  case hf_uc3 => kernel_rfl
  case hr_uc3 => kernel_rfl
  case hQ_uc3 => exact fun _ _ _ h => h
  case hw_uc3 => rfl
  case hy_uc3 => ((intro w hSw; (try dsimp only at hSw); go_simp); all_goals (with_reducible rfl))
  try simp only [Act.put, List.setIfInBounds_toArray, List.set_cons_zero, List.set_cons_succ]
  refine UpC.take (i := 3) (oi := ?oi_uc4) (v := ?v_uc4) ?hi_uc4 (by kernel_rfl) ?hf_uc4 ?hr_uc4 (by kernel_rfl) ?hQ_uc4 (Or.inl ⟨?hw_uc4, ?hy_uc4⟩) (by assumption) ?rest_uc4
  case hi_uc4 => ((simp only [List.getElem?_toArray, List.getElem?_cons_succ, List.getElem?_cons_zero]); rfl)
  case hf_uc4 => kernel_rfl
  case hr_uc4 => kernel_rfl
  case hQ_uc4 => exact fun _ _ _ h => h
  case hw_uc4 => rfl
  case hy_uc4 => ((intro w hSw; (try dsimp only at hSw); go_simp); all_goals (with_reducible rfl))
  try simp only [Act.put, List.setIfInBounds_toArray, List.set_cons_zero, List.set_cons_succ]
  refine UpC.take (i := 4) (oi := ?oi_uc5) (v := ?v_uc5) ?hi_uc5 (by kernel_rfl) ?hf_uc5 ?hr_uc5 (by kernel_rfl) ?hQ_uc5 (Or.inl ⟨?hw_uc5, ?hy_uc5⟩) (by assumption) ?rest_uc5
  case hi_uc5 => ((simp only [List.getElem?_toArray, List.getElem?_cons_succ, List.getElem?_cons_zero]); rfl)
  case hf_uc5 => kernel_rfl
  case hr_uc5 => kernel_rfl
  case hQ_uc5 => exact fun _ _ _ h => h
  case hw_uc5 => rfl
  case hy_uc5 => ((intro w hSw; (try dsimp only at hSw); go_simp); all_goals (with_reducible rfl))
  try simp only [Act.put, List.setIfInBounds_toArray, List.set_cons_zero, List.set_cons_succ]
  refine UpC.take (i := 5) (oi := ?oi_uc6) (v := ?v_uc6) ?hi_uc6 (by kernel_rfl) ?hf_uc6 ?hr_uc6 (by kernel_rfl) ?hQ_uc6 (Or.inl ⟨?hw_uc6, ?hy_uc6⟩) (by assumption) ?rest_uc6
  case hi_uc6 => ((simp only [List.getElem?_toArray, List.getElem?_cons_succ, List.getElem?_cons_zero]); rfl)
  case hf_uc6 => kernel_rfl
  case hr_uc6 => kernel_rfl
  case hQ_uc6 => exact fun _ _ _ h => h
  case hw_uc6 => rfl
  case hy_uc6 => ((intro w hSw; (try dsimp only at hSw); have q2 := hSw.cell (j := 2) rfl; go_simp); all_goals (with_reducible rfl))
  try simp only [Act.put, List.setIfInBounds_toArray, List.set_cons_zero, List.set_cons_succ]
  refine UpC.take (i := 6) (oi := ?oi_uc7) (v := ?v_uc7) ?hi_uc7 (by kernel_rfl) ?hf_uc7 ?hr_uc7 (by kernel_rfl) ?hQ_uc7 (Or.inl ⟨?hw_uc7, ?hy_uc7⟩) (by assumption) ?rest_uc7
  case hi_uc7 => ((simp only [List.getElem?_toArray, List.getElem?_cons_succ, List.getElem?_cons_zero]); rfl)
  case hf_uc7 => kernel_rfl
  case hr_uc7 => kernel_rfl
  case hQ_uc7 => exact fun _ _ _ h => h
  case hw_uc7 => rfl
  case hy_uc7 => ((intro w hSw; (try dsimp only at hSw); go_simp); all_goals (with_reducible rfl))
  try simp only [Act.put, List.setIfInBounds_toArray, List.set_cons_zero, List.set_cons_succ]
  refine UpC.take (i := 7) (oi := ?oi_uc8) (v := ?v_uc8) ?hi_uc8 (by kernel_rfl) ?hf_uc8 ?hr_uc8 (by kernel_rfl) ?hQ_uc8 (Or.inl ⟨?hw_uc8, ?hy_uc8⟩) (by assumption) ?rest_uc8
  case hi_uc8 => ((simp only [List.getElem?_toArray, List.getElem?_cons_succ, List.getElem?_cons_zero]); rfl)
  case hf_uc8 => kernel_rfl
  case hr_uc8 => kernel_rfl
  case hQ_uc8 => exact fun _ _ _ h => h
  case hw_uc8 => rfl
  case hy_uc8 => ((intro w hSw; (try dsimp only at hSw); go_simp); all_goals (with_reducible rfl))
  try simp only [Act.put, List.setIfInBounds_toArray, List.set_cons_zero, List.set_cons_succ]
  refine UpC.take (i := 8) (oi := ?oi_uc9) (v := ?v_uc9) ?hi_uc9 (by kernel_rfl) ?hf_uc9 ?hr_uc9 (by kernel_rfl) ?hQ_uc9 (Or.inl ⟨?hw_uc9, ?hy_uc9⟩) (by assumption) ?rest_uc9
  case hi_uc9 => ((simp only [List.getElem?_toArray, List.getElem?_cons_succ, List.getElem?_cons_zero]); rfl)
  case hf_uc9 => kernel_rfl
  case hr_uc9 => kernel_rfl
  case hQ_uc9 => exact fun _ _ _ h => h
  case hw_uc9 => rfl
  case hy_uc9 => ((intro w hSw; (try dsimp only at hSw); go_simp); all_goals (with_reducible rfl))
  try simp only [Act.put, List.setIfInBounds_toArray, List.set_cons_zero, List.set_cons_succ]
  refine UpC.take (i := 9) (oi := ?oi_uc10) (v := ?v_uc10) ?hi_uc10 (by kernel_rfl) ?hf_uc10 ?hr_uc10 (by kernel_rfl) ?hQ_uc10 (Or.inl ⟨?hw_uc10, ?hy_uc10⟩) (by assumption) ?rest_uc10
  case hi_uc10 => ((simp only [List.getElem?_toArray, List.getElem?_cons_succ, List.getElem?_cons_zero]); rfl)
  case hf_uc10 => kernel_rfl
  case hr_uc10 => kernel_rfl
  case hQ_uc10 => exact fun _ _ _ h => h
  case hw_uc10 => rfl
  case hy_uc10 => ((intro w hSw; (try dsimp only at hSw); go_simp); all_goals (with_reducible rfl))
  try simp only [Act.put, List.setIfInBounds_toArray, List.set_cons_zero, List.set_cons_succ]
  refine UpC.take (i := 10) (oi := ?oi_uc11) (v := ?v_uc11) ?hi_uc11 (by kernel_rfl) ?hf_uc11 ?hr_uc11 (by kernel_rfl) ?hQ_uc11 (Or.inl ⟨?hw_uc11, ?hy_uc11⟩) (by assumption) ?rest_uc11
  case hi_uc11 => ((simp only [List.getElem?_toArray, List.getElem?_cons_succ, List.getElem?_cons_zero]); rfl)
  case hf_uc11 => kernel_rfl
  case hr_uc11 => kernel_rfl
  case hQ_uc11 => exact fun _ _ _ h => h
  case hw_uc11 => rfl
  case hy_uc11 => ((intro w hSw; (try dsimp only at hSw); have q2 := hSw.cell (j := 2) rfl; go_simp); all_goals (with_reducible rfl))
  try simp only [Act.put, List.setIfInBounds_toArray, List.set_cons_zero, List.set_cons_succ]
  refine UpC.one (i := 11) (o := ?o_uc12) (by kernel_rfl) ?hi_uc12 (fun K hK => ?rest_uc12)
  case hi_uc12 => ((simp only [List.getElem?_toArray, List.getElem?_cons_succ, List.getElem?_cons_zero]); rfl)
  go_simp
  (go_at_call 61; (with_reducible refine (CW.out _).mono ?_); rintro e w' ⟨rfl, rfl⟩)
  try go_simp
  refine hK.out _ _ (fun _ _ => by exact hHeld) (fun hHeld0 => ?_)
  replace hHeld := hHeld0 (by decide) hHeld
  clear hK K hHeld0
  try simp only [Act.put, List.setIfInBounds_toArray, List.set_cons_zero, List.set_cons_succ]
  refine UpC.one (i := 12) (o := ?o_uc13) (by kernel_rfl) ?hi_uc13 (fun K hK => ?rest_uc13)
  case hi_uc13 => ((simp only [List.getElem?_toArray, List.getElem?_cons_succ, List.getElem?_cons_zero]); rfl)
  go_simp
  (go_at_call 45; (with_reducible refine (CP.out).mono ?_); rintro e w2 ⟨rfl, hw2, hb2⟩; have HW2 := Lib.hid hw2; have HB2 := Lib.hid (((belDrew (Below.refl w.heap.size w)).mono (Nat.le_trans hb (Nat.le_of_lt hz1))).trans hb2); clear hw2 hb2)
  try go_simp
  refine hK.out _ _ (fun q => absurd q (by decide)) (fun _ => ?_)
  clear hK K
  try simp only [Act.put, List.setIfInBounds_toArray, List.set_cons_zero, List.set_cons_succ]
  refine UpC.done (by kernel_rfl) ?_ _
  obtain ⟨a2, c2, hB2, _⟩ := HW2.out
  have b2 := hB2.cell (j := 2) rfl
  have bf := hB2.frozen
  clear hB2
  go_wp2
  go_end0
  have h := HW2.out.id0
  unfold WrV.idS
  rw [HWD.out]
  exact ⟨rfl, h, belLow HB2.out ⟨B, 2, none⟩ (.string ⟨#[]⟩) hb⟩
set_option maxRecDepth 100000 in
set_option maxHeartbeats 16000000 in
theorem lg_num (B base : Nat) (s : WrV) (w : World) (hW : WrAt w B base s) (hb : base ≤ B) (hl : s.F.length ≤ 9) (ht : ∀ u, Below base w u → Tab u) (hn : InI s.e.n) :
    Calls Tryd.prog 48 #[.pointer (some ⟨B, 0, none⟩)] w fun e w' => e = .returned (.tuple #[]) ∧ WrAt w' B base (s.num) ∧ Below base w w' := by
  obtain ⟨a, c, hB, hO⟩ := hW
  have HW := Lib.hid (show WrAt w B base s from ⟨a, c, hB, hO⟩)
  have HB := Lib.hid hB
  have HT := Lib.hid ht
  have HN := Lib.hid hn
  clear hB hO ht hn
  obtain ⟨nb, hnb⟩ : ∃ x, decide (0 ≤ s.e.n) = x := ⟨_, rfl⟩
  have hz1 := HB.out.lt
  go_enter Tryd.func48, Tryd.ntmps48
  go_upto_region 0 with fail
  refine wp_region_upc (S := fun u => Blk u B [.slice a s.F.length c, .int .i64 s.e.kind, .string s.e.id, .int .i64 s.e.sig, .int .i64 s.e.n, .bool s.bad] 71 ∧ Below w.heap.size w u) [13] (by kernel_rfl) (by exact ⟨HB.out.later (belDrew (Below.refl _ _)), belDrew (Below.refl _ _)⟩) (fun hHeld => ?_)
  refine UpC.take (i := 0) (oi := ?oi_uc14) (v := ?v_uc14) ?hi_uc14 (by kernel_rfl) ?hf_uc14 ?hr_uc14 (by kernel_rfl) ?hQ_uc14 (Or.inl ⟨?hw_uc14, ?hy_uc14⟩) (by assumption) ?rest_uc14
  case hi_uc14 => ((simp only [List.getElem?_toArray, List.getElem?_cons_succ, List.getElem?_cons_zero]); rfl)
  case hf_uc14 => kernel_rfl
  case hr_uc14 => kernel_rfl
  case hQ_uc14 => exact fun _ _ _ h => h
  case hw_uc14 => rfl
  case hy_uc14 => ((intro w hSw; (try dsimp only at hSw); go_simp); all_goals (with_reducible rfl))
  try simp only [Act.put, List.setIfInBounds_toArray, List.set_cons_zero, List.set_cons_succ]
  refine UpC.take (i := 1) (oi := ?oi_uc15) (v := ?v_uc15) ?hi_uc15 (by kernel_rfl) ?hf_uc15 ?hr_uc15 (by kernel_rfl) ?hQ_uc15 (Or.inl ⟨?hw_uc15, ?hy_uc15⟩) (by assumption) ?rest_uc15
  case hi_uc15 => ((simp only [List.getElem?_toArray, List.getElem?_cons_succ, List.getElem?_cons_zero]); rfl)
  case hf_uc15 => kernel_rfl
  case hr_uc15 => kernel_rfl
  case hQ_uc15 => exact fun _ _ _ h => h
  case hw_uc15 => rfl
  case hy_uc15 => ((intro w hSw; (try dsimp only at hSw); go_simp); all_goals (with_reducible rfl))
  try simp only [Act.put, List.setIfInBounds_toArray, List.set_cons_zero, List.set_cons_succ]
  refine UpC.take (i := 2) (oi := ?oi_uc16) (v := ?v_uc16) ?hi_uc16 (by kernel_rfl) ?hf_uc16 ?hr_uc16 (by kernel_rfl) ?hQ_uc16 (Or.inl ⟨?hw_uc16, ?hy_uc16⟩) (by assumption) ?rest_uc16
  case hi_uc16 => ((simp only [List.getElem?_toArray, List.getElem?_cons_succ, List.getElem?_cons_zero]); rfl)
  case hf_uc16 => kernel_rfl
  case hr_uc16 => kernel_rfl
  case hQ_uc16 => exact fun _ _ _ h => h
  case hw_uc16 => rfl
  case hy_uc16 => ((intro w hSw; (try dsimp only at hSw); go_simp); all_goals (with_reducible rfl))
  try simp only [Act.put, List.setIfInBounds_toArray, List.set_cons_zero, List.set_cons_succ]
  refine UpC.take (i := 3) (oi := ?oi_uc17) (v := ?v_uc17) ?hi_uc17 (by kernel_rfl) ?hf_uc17 ?hr_uc17 (by kernel_rfl) ?hQ_uc17 (Or.inl ⟨?hw_uc17, ?hy_uc17⟩) (by assumption) ?rest_uc17
  case hi_uc17 => ((simp only [List.getElem?_toArray, List.getElem?_cons_succ, List.getElem?_cons_zero]); rfl)
  case hf_uc17 => kernel_rfl
  case hr_uc17 => kernel_rfl
  case hQ_uc17 => exact fun _ _ _ h => h
  case hw_uc17 => rfl
  case hy_uc17 => ((intro w hSw; (try dsimp only at hSw); go_simp); all_goals (with_reducible rfl))
  try simp only [Act.put, List.setIfInBounds_toArray, List.set_cons_zero, List.set_cons_succ]
  refine UpC.take (i := 4) (oi := ?oi_uc18) (v := ?v_uc18) ?hi_uc18 (by kernel_rfl) ?hf_uc18 ?hr_uc18 (by kernel_rfl) ?hQ_uc18 (Or.inl ⟨?hw_uc18, ?hy_uc18⟩) (by assumption) ?rest_uc18
  case hi_uc18 => ((simp only [List.getElem?_toArray, List.getElem?_cons_succ, List.getElem?_cons_zero]); rfl)
  case hf_uc18 => kernel_rfl
  case hr_uc18 => kernel_rfl
  case hQ_uc18 => exact fun _ _ _ h => h
  case hw_uc18 => rfl
  case hy_uc18 => ((intro w hSw; (try dsimp only at hSw); go_simp); all_goals (with_reducible rfl))
  try simp only [Act.put, List.setIfInBounds_toArray, List.set_cons_zero, List.set_cons_succ]
  refine UpC.take (i := 5) (oi := ?oi_uc19) (v := ?v_uc19) ?hi_uc19 (by kernel_rfl) ?hf_uc19 ?hr_uc19 (by kernel_rfl) ?hQ_uc19 (Or.inl ⟨?hw_uc19, ?hy_uc19⟩) (by assumption) ?rest_uc19
  case hi_uc19 => ((simp only [List.getElem?_toArray, List.getElem?_cons_succ, List.getElem?_cons_zero]); rfl)
  case hf_uc19 => kernel_rfl
  case hr_uc19 => kernel_rfl
  case hQ_uc19 => exact fun _ _ _ h => h
  case hw_uc19 => rfl
  case hy_uc19 => ((intro w hSw; (try dsimp only at hSw); have q4 := hSw.1.cell (j := 4) rfl; go_simp); all_goals (with_reducible rfl))
  try simp only [Act.put, List.setIfInBounds_toArray, List.set_cons_zero, List.set_cons_succ]
  refine UpC.take (i := 7) (oi := ?oi_uc20) (v := ?v_uc20) ?hi_uc20 (by kernel_rfl) ?hf_uc20 ?hr_uc20 (by kernel_rfl) ?hQ_uc20 (Or.inl ⟨?hw_uc20, ?hy_uc20⟩) (by assumption) ?rest_uc20
  case hi_uc20 => ((simp only [List.getElem?_toArray, List.getElem?_cons_succ, List.getElem?_cons_zero]); rfl)
  case hf_uc20 => kernel_rfl
  case hr_uc20 => kernel_rfl
  case hQ_uc20 => exact fun _ _ _ h => h
  case hw_uc20 => rfl
  case hy_uc20 => ((intro w hSw; (try dsimp only at hSw); go_simp); all_goals (with_reducible rfl))
  try simp only [Act.put, List.setIfInBounds_toArray, List.set_cons_zero, List.set_cons_succ]
  refine UpC.take (i := 8) (oi := ?oi_uc21) (v := ?v_uc21) ?hi_uc21 (by kernel_rfl) ?hf_uc21 ?hr_uc21 (by kernel_rfl) ?hQ_uc21 (Or.inl ⟨?hw_uc21, ?hy_uc21⟩) (by assumption) ?rest_uc21
  case hi_uc21 => ((simp only [List.getElem?_toArray, List.getElem?_cons_succ, List.getElem?_cons_zero]); rfl)
  case hf_uc21 => kernel_rfl
  case hr_uc21 => kernel_rfl
  case hQ_uc21 => exact fun _ _ _ h => h
  case hw_uc21 => rfl
  case hy_uc21 => ((intro w hSw; (try dsimp only at hSw); go_simp); all_goals (with_reducible rfl))
  try simp only [Act.put, List.setIfInBounds_toArray, List.set_cons_zero, List.set_cons_succ]
  refine UpC.take (i := 9) (oi := ?oi_uc22) (v := ?v_uc22) ?hi_uc22 (by kernel_rfl) ?hf_uc22 ?hr_uc22 (by kernel_rfl) ?hQ_uc22 (Or.inl ⟨?hw_uc22, ?hy_uc22⟩) (by assumption) ?rest_uc22
  case hi_uc22 => ((simp only [List.getElem?_toArray, List.getElem?_cons_succ, List.getElem?_cons_zero]); rfl)
  case hf_uc22 => kernel_rfl
  case hr_uc22 => kernel_rfl
  case hQ_uc22 => exact fun _ _ _ h => h
  case hw_uc22 => rfl
  case hy_uc22 => ((intro w hSw; (try dsimp only at hSw); go_simp); all_goals (with_reducible rfl))
  try simp only [Act.put, List.setIfInBounds_toArray, List.set_cons_zero, List.set_cons_succ]
  refine UpC.take (i := 10) (oi := ?oi_uc23) (v := ?v_uc23) ?hi_uc23 (by kernel_rfl) ?hf_uc23 ?hr_uc23 (by kernel_rfl) ?hQ_uc23 (Or.inl ⟨?hw_uc23, ?hy_uc23⟩) (by assumption) ?rest_uc23
  case hi_uc23 => ((simp only [List.getElem?_toArray, List.getElem?_cons_succ, List.getElem?_cons_zero]); rfl)
  case hf_uc23 => kernel_rfl
  case hr_uc23 => kernel_rfl
  case hQ_uc23 => exact fun _ _ _ h => h
  case hw_uc23 => rfl
  case hy_uc23 => ((intro w hSw; (try dsimp only at hSw); go_simp); all_goals (with_reducible rfl))
  try simp only [Act.put, List.setIfInBounds_toArray, List.set_cons_zero, List.set_cons_succ]
  refine UpC.take (i := 11) (oi := ?oi_uc24) (v := ?v_uc24) ?hi_uc24 (by kernel_rfl) ?hf_uc24 ?hr_uc24 (by kernel_rfl) ?hQ_uc24 (Or.inl ⟨?hw_uc24, ?hy_uc24⟩) (by assumption) ?rest_uc24
  case hi_uc24 => ((simp only [List.getElem?_toArray, List.getElem?_cons_succ, List.getElem?_cons_zero]); rfl)
  case hf_uc24 => kernel_rfl
  case hr_uc24 => kernel_rfl
  case hQ_uc24 => exact fun _ _ _ h => h
  case hw_uc24 => rfl
  case hy_uc24 => ((intro w hSw; (try dsimp only at hSw); have q4 := hSw.1.cell (j := 4) rfl; go_simp); all_goals (with_reducible rfl))
  try simp only [Act.put, List.setIfInBounds_toArray, List.set_cons_zero, List.set_cons_succ]
  refine UpC.take (i := 12) (oi := ?oi_uc25) (v := ?v_uc25) ?hi_uc25 (by kernel_rfl) ?hf_uc25 ?hr_uc25 (by kernel_rfl) ?hQ_uc25 (Or.inl ⟨?hw_uc25, ?hy_uc25⟩) (by assumption) ?rest_uc25
  case hi_uc25 => ((simp only [List.getElem?_toArray, List.getElem?_cons_succ, List.getElem?_cons_zero]); rfl)
  case hf_uc25 => kernel_rfl
  case hr_uc25 => kernel_rfl
  case hQ_uc25 => exact fun _ _ _ h => h
  case hw_uc25 => rfl
  case hy_uc25 => ((intro w hSw; (try dsimp only at hSw); go_simp); all_goals (with_reducible rfl))
  try simp only [Act.put, List.setIfInBounds_toArray, List.set_cons_zero, List.set_cons_succ]
  refine UpC.one (i := 6) (o := ?o_uc26) (by kernel_rfl) ?hi_uc26 (fun K hK => ?rest_uc26)
  case hi_uc26 => ((simp only [List.getElem?_toArray, List.getElem?_cons_succ, List.getElem?_cons_zero]); rfl)
  go_simp
  (go_at_call 22; (with_reducible refine (itoaW s.e.n HN.out _ (HT.out _ (hHeld.2.mono (Nat.le_trans hb (Nat.le_of_lt hz1))))).mono ?_); rintro e w1 ⟨rfl, hb1⟩; have hb1a := belStep hHeld.2 hb1; have hb1b := hHeld.1.later hb1)
  try go_simp
  refine hK.out _ _ (fun _ _ => by exact ⟨hb1b, hb1a⟩) (fun hHeld0 => ?_)
  replace hHeld := hHeld0 (by decide) hHeld
  clear hK K hHeld0
  try simp only [Act.put, List.setIfInBounds_toArray, List.set_cons_zero, List.set_cons_succ]
  have CP := Lib.hid (lg_put B base s (bA (Lib.itoa s.e.n)) nb w1 (HW.out.later hHeld.2) hb (by omega))
  refine UpC.one (i := 13) (o := ?o_uc27) (by kernel_rfl) ?hi_uc27 (fun K hK => ?rest_uc27)
  case hi_uc27 => ((simp only [List.getElem?_toArray, List.getElem?_cons_succ, List.getElem?_cons_zero]); rfl)
  go_simp
  (go_at_call 45; (with_reducible refine (CP.out).mono ?_); rintro e w2 ⟨rfl, hw2, hb2⟩; have HW2 := Lib.hid hw2; have HB2 := Lib.hid ((hHeld.2.mono (Nat.le_trans hb (Nat.le_of_lt hz1))).trans hb2); clear hw2 hb2)
  try go_simp
  refine hK.out _ _ (fun q => absurd q (by decide)) (fun _ => ?_)
  clear hK K
  try simp only [Act.put, List.setIfInBounds_toArray, List.set_cons_zero, List.set_cons_succ]
  refine UpC.done (by kernel_rfl) ?_ _
  obtain ⟨a2, c2, hB2, _⟩ := HW2.out
  have b4 := hB2.cell (j := 4) rfl
  have bf := hB2.frozen
  clear hB2
  go_wp2
  go_end0
  have h := HW2.out.n0
  unfold WrV.num
  rw [hnb]
  exact ⟨rfl, h, belLow HB2.out ⟨B, 4, none⟩ (.int .i64 0) hb⟩
set_option maxRecDepth 100000 in
set_option maxHeartbeats 16000000 in
theorem lg_sig (B base : Nat) (s : WrV) (w : World) (hW : WrAt w B base s) (hb : base ≤ B) (hl : s.F.length ≤ 9) :
    Calls Tryd.prog 49 #[.pointer (some ⟨B, 0, none⟩)] w fun e w' => e = .returned (.tuple #[]) ∧ WrAt w' B base (s.sgn) ∧ Below base w w' := by
  obtain ⟨a, c, hB, hO⟩ := hW
  have HW := Lib.hid (show WrAt w B base s from ⟨a, c, hB, hO⟩)
  have HB := Lib.hid hB
  clear hB hO
  have hz1 := HB.out.lt
  by_cases h1 : s.e.sig < 0
  · have t1 : decide (s.e.sig < 0) = true := decide_eq_true h1
    have b3 := HB.out.cell (j := 3) rfl
    have b5 := HB.out.cell (j := 5) rfl
    have bf := HB.out.frozen
    go_enter Tryd.func49, Tryd.ntmps49
    go_wp2
    refine bodyPost_ret (results_none rfl _ _ _) rfl ?_
    have h := HW.out.badT
    unfold WrV.sgn
    rw [if_pos (by omega)]
    exact ⟨rfl, h, belLow (Below.refl _ _) ⟨B, 5, none⟩ (.bool true) hb⟩
  · have t1 : decide (s.e.sig < 0) = false := decide_eq_false h1
    by_cases h3 : 3 ≤ s.e.sig
    · have t2 : decide ((3 : Int) ≤ s.e.sig) = true := decide_eq_true h3
      have b3 := HB.out.cell (j := 3) rfl
      have b5 := HB.out.cell (j := 5) rfl
      have bf := HB.out.frozen
      go_enter Tryd.func49, Tryd.ntmps49
      go_wp2
      refine bodyPost_ret (results_none rfl _ _ _) rfl ?_
      have h := HW.out.badT
      unfold WrV.sgn
      rw [if_pos (by omega)]
      exact ⟨rfl, h, belLow (Below.refl _ _) ⟨B, 5, none⟩ (.bool true) hb⟩
    · have t2 : decide ((3 : Int) ≤ s.e.sig) = false := decide_eq_false h3
      have hidx := fun u => idx3S (k := s.e.sig) (by omega) u
      have HIX := Lib.hid hidx
      clear hidx
      have b3 := HB.out.cell (j := 3) rfl
      have b5 := HB.out.cell (j := 5) rfl
      have bf := HB.out.frozen
      go_enter Tryd.func49, Tryd.ntmps49
      go_upto_region 2 with fail
      clear b3 b5 bf
      refine wp_region_upc (S := fun u => Blk u B [.slice a s.F.length c, .int .i64 s.e.kind, .string s.e.id, .int .i64 s.e.sig, .int .i64 s.e.n, .bool s.bad] 71 ∧ Below w.heap.size w u) [8] (by kernel_rfl) (by exact ⟨HB.out.later (belDrew (Below.refl _ _)), belDrew (Below.refl _ _)⟩) (fun hHeld => ?_)
      refine UpC.take (i := 0) (oi := ?oi_uc28) (v := ?v_uc28) ?hi_uc28 (by kernel_rfl) ?hf_uc28 ?hr_uc28 (by kernel_rfl) ?hQ_uc28 (Or.inl ⟨?hw_uc28, ?hy_uc28⟩) (by assumption) ?rest_uc28
      case hi_uc28 => ((simp only [List.getElem?_toArray, List.getElem?_cons_succ, List.getElem?_cons_zero]); rfl)
      case hf_uc28 => kernel_rfl
      case hr_uc28 => kernel_rfl
      case hQ_uc28 => exact fun _ _ _ h => h
      case hw_uc28 => rfl
      case hy_uc28 => ((intro w hSw; (try dsimp only at hSw); go_simp); all_goals (with_reducible rfl))
      try simp only [Act.put, List.setIfInBounds_toArray, List.set_cons_zero, List.set_cons_succ]
      refine UpC.take (i := 2) (oi := ?oi_uc29) (v := ?v_uc29) ?hi_uc29 (by kernel_rfl) ?hf_uc29 ?hr_uc29 (by kernel_rfl) ?hQ_uc29 (Or.inl ⟨?hw_uc29, ?hy_uc29⟩) (by assumption) ?rest_uc29
      case hi_uc29 => ((simp only [List.getElem?_toArray, List.getElem?_cons_succ, List.getElem?_cons_zero]); rfl)
      case hf_uc29 => kernel_rfl
      case hr_uc29 => kernel_rfl
      case hQ_uc29 => exact fun _ _ _ h => h
      case hw_uc29 => rfl
      case hy_uc29 => ((intro w hSw; (try dsimp only at hSw); go_simp); all_goals (with_reducible rfl))
      try simp only [Act.put, List.setIfInBounds_toArray, List.set_cons_zero, List.set_cons_succ]
      refine UpC.take (i := 3) (oi := ?oi_uc30) (v := ?v_uc30) ?hi_uc30 (by kernel_rfl) ?hf_uc30 ?hr_uc30 (by kernel_rfl) ?hQ_uc30 (Or.inl ⟨?hw_uc30, ?hy_uc30⟩) (by assumption) ?rest_uc30
      case hi_uc30 => ((simp only [List.getElem?_toArray, List.getElem?_cons_succ, List.getElem?_cons_zero]); rfl)
      case hf_uc30 => kernel_rfl
      case hr_uc30 => kernel_rfl
      case hQ_uc30 => exact fun _ _ _ h => h
      case hw_uc30 => rfl
      case hy_uc30 => ((intro w hSw; (try dsimp only at hSw); go_simp); all_goals (with_reducible rfl))
      try simp only [Act.put, List.setIfInBounds_toArray, List.set_cons_zero, List.set_cons_succ]
      refine UpC.take (i := 4) (oi := ?oi_uc31) (v := ?v_uc31) ?hi_uc31 (by kernel_rfl) ?hf_uc31 ?hr_uc31 (by kernel_rfl) ?hQ_uc31 (Or.inl ⟨?hw_uc31, ?hy_uc31⟩) (by assumption) ?rest_uc31
      case hi_uc31 => ((simp only [List.getElem?_toArray, List.getElem?_cons_succ, List.getElem?_cons_zero]); rfl)
      case hf_uc31 => kernel_rfl
      case hr_uc31 => kernel_rfl
      case hQ_uc31 => exact fun _ _ _ h => h
      case hw_uc31 => rfl
      case hy_uc31 => ((intro w hSw; (try dsimp only at hSw); go_simp); all_goals (with_reducible rfl))
      try simp only [Act.put, List.setIfInBounds_toArray, List.set_cons_zero, List.set_cons_succ]
      refine UpC.take (i := 5) (oi := ?oi_uc32) (v := ?v_uc32) ?hi_uc32 (by kernel_rfl) ?hf_uc32 ?hr_uc32 (by kernel_rfl) ?hQ_uc32 (Or.inl ⟨?hw_uc32, ?hy_uc32⟩) (by assumption) ?rest_uc32
      case hi_uc32 => ((simp only [List.getElem?_toArray, List.getElem?_cons_succ, List.getElem?_cons_zero]); rfl)
      case hf_uc32 => kernel_rfl
      case hr_uc32 => kernel_rfl
      case hQ_uc32 => exact fun _ _ _ h => h
      case hw_uc32 => rfl
      case hy_uc32 => ((intro w hSw; (try dsimp only at hSw); go_simp); all_goals (with_reducible rfl))
      try simp only [Act.put, List.setIfInBounds_toArray, List.set_cons_zero, List.set_cons_succ]
      refine UpC.take (i := 6) (oi := ?oi_uc33) (v := ?v_uc33) ?hi_uc33 (by kernel_rfl) ?hf_uc33 ?hr_uc33 (by kernel_rfl) ?hQ_uc33 (Or.inl ⟨?hw_uc33, ?hy_uc33⟩) (by assumption) ?rest_uc33
      case hi_uc33 => ((simp only [List.getElem?_toArray, List.getElem?_cons_succ, List.getElem?_cons_zero]); rfl)
      case hf_uc33 => kernel_rfl
      case hr_uc33 => kernel_rfl
      case hQ_uc33 => exact fun _ _ _ h => h
      case hw_uc33 => rfl
      case hy_uc33 => ((intro w hSw; (try dsimp only at hSw); have q3 := hSw.1.cell (j := 3) rfl; go_simp); all_goals (with_reducible rfl))
      try simp only [Act.put, List.setIfInBounds_toArray, List.set_cons_zero, List.set_cons_succ]
      refine UpC.one (i := 1) (o := ?o_uc34) (by kernel_rfl) ?hi_uc34 (fun K hK => ?rest_uc34)
      case hi_uc34 => ((simp only [List.getElem?_toArray, List.getElem?_cons_succ, List.getElem?_cons_zero]); rfl)
      go_simp
      (go_at_call 60; (with_reducible refine (lg_signals _).mono ?_); rintro e w1 ⟨rfl, hb1⟩; have hb1a := belStep hHeld.2 hb1; have hb1b := hHeld.1.later hb1)
      try go_simp
      refine hK.out _ _ (fun _ _ => by exact ⟨hb1b, hb1a⟩) (fun hHeld0 => ?_)
      replace hHeld := hHeld0 (by decide) hHeld
      clear hK K hHeld0
      try simp only [Act.put, List.setIfInBounds_toArray, List.set_cons_zero, List.set_cons_succ]
      refine UpC.take (i := 7) (oi := ?oi_uc35) (v := ?v_uc35) ?hi_uc35 (by kernel_rfl) ?hf_uc35 ?hr_uc35 (by kernel_rfl) ?hQ_uc35 (Or.inl ⟨?hw_uc35, ?hy_uc35⟩) (by assumption) ?rest_uc35
      case hi_uc35 => ((simp only [List.getElem?_toArray, List.getElem?_cons_succ, List.getElem?_cons_zero]); rfl)
      case hf_uc35 => kernel_rfl
      case hr_uc35 => kernel_rfl
      case hQ_uc35 => exact fun _ _ _ h => h
      case hw_uc35 => rfl
      case hy_uc35 => ((intro w hSw; (try dsimp only at hSw); have hix := HIX.out w; go_simp); all_goals (with_reducible rfl))
      try simp only [Act.put, List.setIfInBounds_toArray, List.set_cons_zero, List.set_cons_succ]
      have CP := Lib.hid (lg_put B base s (bA (sgE s.e.sig.toNat)) true w1 (HW.out.later hHeld.2) hb (by omega))
      refine UpC.one (i := 8) (o := ?o_uc36) (by kernel_rfl) ?hi_uc36 (fun K hK => ?rest_uc36)
      case hi_uc36 => ((simp only [List.getElem?_toArray, List.getElem?_cons_succ, List.getElem?_cons_zero]); rfl)
      go_simp
      (go_at_call 45; (with_reducible refine (CP.out).mono ?_); rintro e w2 ⟨rfl, hw2, hb2⟩; have HW2 := Lib.hid hw2; have HB2 := Lib.hid ((hHeld.2.mono (Nat.le_trans hb (Nat.le_of_lt hz1))).trans hb2); clear hw2 hb2)
      try go_simp
      refine hK.out _ _ (fun q => absurd q (by decide)) (fun _ => ?_)
      clear hK K
      try simp only [Act.put, List.setIfInBounds_toArray, List.set_cons_zero, List.set_cons_succ]
      refine UpC.done (by kernel_rfl) ?_ _
      obtain ⟨a2, c2, hB2, _⟩ := HW2.out
      have b3 := hB2.cell (j := 3) rfl
      have bf := hB2.frozen
      clear hB2
      go_wp2
      go_end0
      have h := HW2.out.sig0
      unfold WrV.sgn
      rw [if_neg (by omega)]
      exact ⟨rfl, h, belLow HB2.out ⟨B, 3, none⟩ (.int .i64 0) hb⟩
end Go.Proofs.YtekakalhknjdaaaDoor
