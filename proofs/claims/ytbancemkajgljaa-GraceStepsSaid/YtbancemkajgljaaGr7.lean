/- The reference's Begin, Met, Step, Hold: contracts. -/
import Derived.Test.YtbancemkajgljaaGr6
namespace Go.Proofs.Ytbancemkajgljaa
open Go.RowKit
set_option linter.unusedVariables false
set_option linter.unusedSimpArgs false

set_option maxRecDepth 100000 in
set_option maxHeartbeats 8000000 in
theorem ref_Begin (c : CfgV) (w : World) (hc : Good c w) : Calls Try.prog 14 #[.agg #[.int .i64 c.k0, .int .i64 c.k1, .int .i64 c.k2, .int .i64 c.a0, .int .i64 c.a1, .int .i64 c.a2, .slice c.ta c.tl c.tc, .int .i64 c.per, .int .i64 c.ret, .int .i64 c.age, .int .i64 c.dead]] w fun e w' => ∃ v, e = .returned v ∧ OwnG (Value.int .i64) w' w.heap.size 3 v (List.replicate c.tl (-1)) ∧ Below w.heap.size w w' := by
  have hw : Below w.heap.size w w := Below.refl _ _
  have hbel := hw
  have hfew := hc.few
  obtain ⟨hbd1, hbd2⟩ := hc.bd
  have HC := Lib.hid hc
  clear hc
  go_enter Try.func14, Try.ntmps14
  go_upto_region 1 with fail
  have cc0 : (w.alloc (.cells #[.int .i64 c.k0, .int .i64 c.k1, .int .i64 c.k2, .int .i64 c.a0, .int .i64 c.a1, .int .i64 c.a2, .slice c.ta c.tl c.tc, .int .i64 c.per, .int .i64 c.ret, .int .i64 c.age, .int .i64 c.dead] 25)).cell? ⟨w.heap.size, 0, none⟩ = some (.int .i64 c.k0) := by first | (simp; done) | (rw [World.cell?_alloc_at _ _ _ _ (by simp)]; rfl) | (rw [World.cell?_alloc_past _ _ _ (by simp <;> omega), World.cell?_alloc_at _ _ _ _ (by simp)]; rfl) | (rw [World.cell?_alloc_past _ _ _ (by simp <;> omega), World.cell?_alloc_past _ _ _ (by simp <;> omega), World.cell?_alloc_at _ _ _ _ (by simp)]; rfl)
  have cc1 : (w.alloc (.cells #[.int .i64 c.k0, .int .i64 c.k1, .int .i64 c.k2, .int .i64 c.a0, .int .i64 c.a1, .int .i64 c.a2, .slice c.ta c.tl c.tc, .int .i64 c.per, .int .i64 c.ret, .int .i64 c.age, .int .i64 c.dead] 25)).cell? ⟨w.heap.size, 1, none⟩ = some (.int .i64 c.k1) := by first | (simp; done) | (rw [World.cell?_alloc_at _ _ _ _ (by simp)]; rfl) | (rw [World.cell?_alloc_past _ _ _ (by simp <;> omega), World.cell?_alloc_at _ _ _ _ (by simp)]; rfl) | (rw [World.cell?_alloc_past _ _ _ (by simp <;> omega), World.cell?_alloc_past _ _ _ (by simp <;> omega), World.cell?_alloc_at _ _ _ _ (by simp)]; rfl)
  have cc2 : (w.alloc (.cells #[.int .i64 c.k0, .int .i64 c.k1, .int .i64 c.k2, .int .i64 c.a0, .int .i64 c.a1, .int .i64 c.a2, .slice c.ta c.tl c.tc, .int .i64 c.per, .int .i64 c.ret, .int .i64 c.age, .int .i64 c.dead] 25)).cell? ⟨w.heap.size, 2, none⟩ = some (.int .i64 c.k2) := by first | (simp; done) | (rw [World.cell?_alloc_at _ _ _ _ (by simp)]; rfl) | (rw [World.cell?_alloc_past _ _ _ (by simp <;> omega), World.cell?_alloc_at _ _ _ _ (by simp)]; rfl) | (rw [World.cell?_alloc_past _ _ _ (by simp <;> omega), World.cell?_alloc_past _ _ _ (by simp <;> omega), World.cell?_alloc_at _ _ _ _ (by simp)]; rfl)
  have cc3 : (w.alloc (.cells #[.int .i64 c.k0, .int .i64 c.k1, .int .i64 c.k2, .int .i64 c.a0, .int .i64 c.a1, .int .i64 c.a2, .slice c.ta c.tl c.tc, .int .i64 c.per, .int .i64 c.ret, .int .i64 c.age, .int .i64 c.dead] 25)).cell? ⟨w.heap.size, 3, none⟩ = some (.int .i64 c.a0) := by first | (simp; done) | (rw [World.cell?_alloc_at _ _ _ _ (by simp)]; rfl) | (rw [World.cell?_alloc_past _ _ _ (by simp <;> omega), World.cell?_alloc_at _ _ _ _ (by simp)]; rfl) | (rw [World.cell?_alloc_past _ _ _ (by simp <;> omega), World.cell?_alloc_past _ _ _ (by simp <;> omega), World.cell?_alloc_at _ _ _ _ (by simp)]; rfl)
  have cc4 : (w.alloc (.cells #[.int .i64 c.k0, .int .i64 c.k1, .int .i64 c.k2, .int .i64 c.a0, .int .i64 c.a1, .int .i64 c.a2, .slice c.ta c.tl c.tc, .int .i64 c.per, .int .i64 c.ret, .int .i64 c.age, .int .i64 c.dead] 25)).cell? ⟨w.heap.size, 4, none⟩ = some (.int .i64 c.a1) := by first | (simp; done) | (rw [World.cell?_alloc_at _ _ _ _ (by simp)]; rfl) | (rw [World.cell?_alloc_past _ _ _ (by simp <;> omega), World.cell?_alloc_at _ _ _ _ (by simp)]; rfl) | (rw [World.cell?_alloc_past _ _ _ (by simp <;> omega), World.cell?_alloc_past _ _ _ (by simp <;> omega), World.cell?_alloc_at _ _ _ _ (by simp)]; rfl)
  have cc5 : (w.alloc (.cells #[.int .i64 c.k0, .int .i64 c.k1, .int .i64 c.k2, .int .i64 c.a0, .int .i64 c.a1, .int .i64 c.a2, .slice c.ta c.tl c.tc, .int .i64 c.per, .int .i64 c.ret, .int .i64 c.age, .int .i64 c.dead] 25)).cell? ⟨w.heap.size, 5, none⟩ = some (.int .i64 c.a2) := by first | (simp; done) | (rw [World.cell?_alloc_at _ _ _ _ (by simp)]; rfl) | (rw [World.cell?_alloc_past _ _ _ (by simp <;> omega), World.cell?_alloc_at _ _ _ _ (by simp)]; rfl) | (rw [World.cell?_alloc_past _ _ _ (by simp <;> omega), World.cell?_alloc_past _ _ _ (by simp <;> omega), World.cell?_alloc_at _ _ _ _ (by simp)]; rfl)
  have cc6 : (w.alloc (.cells #[.int .i64 c.k0, .int .i64 c.k1, .int .i64 c.k2, .int .i64 c.a0, .int .i64 c.a1, .int .i64 c.a2, .slice c.ta c.tl c.tc, .int .i64 c.per, .int .i64 c.ret, .int .i64 c.age, .int .i64 c.dead] 25)).cell? ⟨w.heap.size, 6, none⟩ = some (.slice c.ta c.tl c.tc) := by first | (simp; done) | (rw [World.cell?_alloc_at _ _ _ _ (by simp)]; rfl) | (rw [World.cell?_alloc_past _ _ _ (by simp <;> omega), World.cell?_alloc_at _ _ _ _ (by simp)]; rfl) | (rw [World.cell?_alloc_past _ _ _ (by simp <;> omega), World.cell?_alloc_past _ _ _ (by simp <;> omega), World.cell?_alloc_at _ _ _ _ (by simp)]; rfl)
  have cc7 : (w.alloc (.cells #[.int .i64 c.k0, .int .i64 c.k1, .int .i64 c.k2, .int .i64 c.a0, .int .i64 c.a1, .int .i64 c.a2, .slice c.ta c.tl c.tc, .int .i64 c.per, .int .i64 c.ret, .int .i64 c.age, .int .i64 c.dead] 25)).cell? ⟨w.heap.size, 7, none⟩ = some (.int .i64 c.per) := by first | (simp; done) | (rw [World.cell?_alloc_at _ _ _ _ (by simp)]; rfl) | (rw [World.cell?_alloc_past _ _ _ (by simp <;> omega), World.cell?_alloc_at _ _ _ _ (by simp)]; rfl) | (rw [World.cell?_alloc_past _ _ _ (by simp <;> omega), World.cell?_alloc_past _ _ _ (by simp <;> omega), World.cell?_alloc_at _ _ _ _ (by simp)]; rfl)
  have cc8 : (w.alloc (.cells #[.int .i64 c.k0, .int .i64 c.k1, .int .i64 c.k2, .int .i64 c.a0, .int .i64 c.a1, .int .i64 c.a2, .slice c.ta c.tl c.tc, .int .i64 c.per, .int .i64 c.ret, .int .i64 c.age, .int .i64 c.dead] 25)).cell? ⟨w.heap.size, 8, none⟩ = some (.int .i64 c.ret) := by first | (simp; done) | (rw [World.cell?_alloc_at _ _ _ _ (by simp)]; rfl) | (rw [World.cell?_alloc_past _ _ _ (by simp <;> omega), World.cell?_alloc_at _ _ _ _ (by simp)]; rfl) | (rw [World.cell?_alloc_past _ _ _ (by simp <;> omega), World.cell?_alloc_past _ _ _ (by simp <;> omega), World.cell?_alloc_at _ _ _ _ (by simp)]; rfl)
  have cc9 : (w.alloc (.cells #[.int .i64 c.k0, .int .i64 c.k1, .int .i64 c.k2, .int .i64 c.a0, .int .i64 c.a1, .int .i64 c.a2, .slice c.ta c.tl c.tc, .int .i64 c.per, .int .i64 c.ret, .int .i64 c.age, .int .i64 c.dead] 25)).cell? ⟨w.heap.size, 9, none⟩ = some (.int .i64 c.age) := by first | (simp; done) | (rw [World.cell?_alloc_at _ _ _ _ (by simp)]; rfl) | (rw [World.cell?_alloc_past _ _ _ (by simp <;> omega), World.cell?_alloc_at _ _ _ _ (by simp)]; rfl) | (rw [World.cell?_alloc_past _ _ _ (by simp <;> omega), World.cell?_alloc_past _ _ _ (by simp <;> omega), World.cell?_alloc_at _ _ _ _ (by simp)]; rfl)
  have cc10 : (w.alloc (.cells #[.int .i64 c.k0, .int .i64 c.k1, .int .i64 c.k2, .int .i64 c.a0, .int .i64 c.a1, .int .i64 c.a2, .slice c.ta c.tl c.tc, .int .i64 c.per, .int .i64 c.ret, .int .i64 c.age, .int .i64 c.dead] 25)).cell? ⟨w.heap.size, 10, none⟩ = some (.int .i64 c.dead) := by first | (simp; done) | (rw [World.cell?_alloc_at _ _ _ _ (by simp)]; rfl) | (rw [World.cell?_alloc_past _ _ _ (by simp <;> omega), World.cell?_alloc_at _ _ _ _ (by simp)]; rfl) | (rw [World.cell?_alloc_past _ _ _ (by simp <;> omega), World.cell?_alloc_past _ _ _ (by simp <;> omega), World.cell?_alloc_at _ _ _ _ (by simp)]; rfl)
  have hb2 := (by repeat (first | exact hbel | refine belAlloc ?_ _ | refine belDrew ?_ | refine belSet ?_ _ _ (by simp)) : Below w.heap.size w (w.alloc (.cells #[.int .i64 c.k0, .int .i64 c.k1, .int .i64 c.k2, .int .i64 c.a0, .int .i64 c.a1, .int .i64 c.a2, .slice c.ta c.tl c.tc, .int .i64 c.per, .int .i64 c.ret, .int .i64 c.age, .int .i64 c.dead] 25)))
  replace hw := belStep hw hb2
  clear hb2 hbel
  generalize w.alloc (.cells #[.int .i64 c.k0, .int .i64 c.k1, .int .i64 c.k2, .int .i64 c.a0, .int .i64 c.a1, .int .i64 c.a2, .slice c.ta c.tl c.tc, .int .i64 c.per, .int .i64 c.ret, .int .i64 c.age, .int .i64 c.dead] 25) = W1 at *
  replace cc0 := keep cc0
  replace cc1 := keep cc1
  replace cc2 := keep cc2
  replace cc3 := keep cc3
  replace cc4 := keep cc4
  replace cc5 := keep cc5
  replace cc6 := keep cc6
  replace cc7 := keep cc7
  replace cc8 := keep cc8
  replace cc9 := keep cc9
  replace cc10 := keep cc10
  have hbel : Below W1.heap.size W1 W1 := Below.refl _ _
  skip
  have hs1 : w.heap.size ≤ W1.heap.size := hw.size
  have HCW := Lib.hid (HC.out.later hw)
  have HSZ := Lib.hid hs1
  have HW := Lib.hid hw
  clear hs1 hw
  go_wp2
  clear hbel
  have HXL := Lib.hid (show (List.replicate c.tl (-1 : Int)).length = c.tl by simp)
  go_loopw [3, 4] (fun v i wr => ∃ k : Nat, k ≤ c.tl ∧ i = .int .i64 k ∧ OwnG (Value.int .i64) wr W1.heap.size 3 v ((List.replicate c.tl (-1 : Int)).take k) ∧ Below W1.heap.size W1 wr) (fun _ i _ => c.tl - (intOf i).toNat)
  case atStart => exact ⟨0, by omega, rfl, by simpa using OwnG.nil, Below.refl _ _⟩
  case round =>
    obtain ⟨k, hk, rfl, ho, hbel⟩ := hrel
    have HO := Lib.hid ho
    have HB := Lib.hid hbel
    clear ho
    by_cases hlt : k < c.tl
    · have hki : (k : Int) < (c.tl : Int) := by omega
      have hlk := Lib.hid (show ((List.replicate c.tl (-1 : Int)).take k).length = k by rw [List.length_take, HXL.out]; omega)
      have HU := Lib.hid (show (List.replicate c.tl (-1 : Int))[k]? = some (-1) by simp [hlt])
      have HO3 := HO
      go_wp2_with (first | (at_builtin; refine wpList_app_g (f := (Value.int .i64)) rfl _ _ 26 rfl W1.heap.size 3 (.int .i64 0) 8 Try.underlying26 info_int rfl _ _ rfl (HO3.out.alloc (.cells #[.int .i64 (-1)] 3)) _ _ rfl (by simp; rfl) rfl (by rw [hlk.out]; unfold maxLen; omega) (by rw [hlk.out]; omega) (by have := hbel.size; simp; omega) ?_; intro v4 w4 ho4 hb4; have HB4 := Lib.hid ((hbel.alloc hbel.size (.cells #[.int .i64 (-1)] 3) : Below W1.heap.size W1 _).trans hb4); have HO4 := Lib.hid ho4; clear ho4 hb4))
      go_roundw
      case rel => exact ⟨k + 1, by omega, by push_cast; rfl, by rw [List.take_add_one, HU.out]; exact HO4.out, HB4.out⟩
      case measure => simp [intOf] <;> omega
    · obtain rfl : k = c.tl := by omega
      have hki : ¬ (c.tl : Int) < (c.tl : Int) := by omega
      go_wp2
      go_ret
      refine ⟨_, rfl, ?_, HW.out.trans (HB.out.mono HSZ.out)⟩
      have := HO.out
      rw [List.take_of_length_le (by rw [HXL.out]; exact Nat.le_refl _)] at this
      exact this.mono HSZ.out
set_option maxRecDepth 100000 in
set_option maxHeartbeats 8000000 in
theorem ref_MetL (c : CfgV) (v0 v1 v2 : Int) (w : World) (hc : Good c w) (hv : InI v0 ∧ InI v1 ∧ InI v2) : Calls Try.prog 17 #[.agg #[.int .i64 c.k0, .int .i64 c.k1, .int .i64 c.k2, .int .i64 c.a0, .int .i64 c.a1, .int .i64 c.a2, .slice c.ta c.tl c.tc, .int .i64 c.per, .int .i64 c.ret, .int .i64 c.age, .int .i64 c.dead], .agg #[.int .i64 v0, .int .i64 v1, .int .i64 v2]] w fun e w' => ∃ v, e = .returned v ∧ OwnG Value.bool w' w.heap.size 4 v (c.L.map (fun t => met3 c t v0 v1 v2)) ∧ Below w.heap.size w w' := by
  have hw : Below w.heap.size w w := Below.refl _ _
  have hbel := hw
  have hfew := hc.few
  obtain ⟨hbd1, hbd2⟩ := hc.bd
  have HXL := Lib.hid (show (c.L.map (fun t => met3 c t v0 v1 v2)).length = c.tl by rw [List.length_map, hc.len])
  have CO := Lib.hid (fun i t u (h : Below w.heap.size w u) (hi : c.L[i]? = some t) (hr : t.right = true) => gr_One c i t v0 v1 v2 u (hc.took.later h) hi hr hv)
  clear hv
  have HC := Lib.hid hc
  clear hc
  go_enter Try.func17, Try.ntmps17
  go_upto_region 1 with fail
  have cc0 : ((w.alloc (.cells #[.int .i64 c.k0, .int .i64 c.k1, .int .i64 c.k2, .int .i64 c.a0, .int .i64 c.a1, .int .i64 c.a2, .slice c.ta c.tl c.tc, .int .i64 c.per, .int .i64 c.ret, .int .i64 c.age, .int .i64 c.dead] 25)).alloc (.cells #[.int .i64 v0, .int .i64 v1, .int .i64 v2] 22)).cell? ⟨w.heap.size, 0, none⟩ = some (.int .i64 c.k0) := by first | (simp; done) | (rw [World.cell?_alloc_at _ _ _ _ (by simp)]; rfl) | (rw [World.cell?_alloc_past _ _ _ (by simp <;> omega), World.cell?_alloc_at _ _ _ _ (by simp)]; rfl) | (rw [World.cell?_alloc_past _ _ _ (by simp <;> omega), World.cell?_alloc_past _ _ _ (by simp <;> omega), World.cell?_alloc_at _ _ _ _ (by simp)]; rfl)
  have cc1 : ((w.alloc (.cells #[.int .i64 c.k0, .int .i64 c.k1, .int .i64 c.k2, .int .i64 c.a0, .int .i64 c.a1, .int .i64 c.a2, .slice c.ta c.tl c.tc, .int .i64 c.per, .int .i64 c.ret, .int .i64 c.age, .int .i64 c.dead] 25)).alloc (.cells #[.int .i64 v0, .int .i64 v1, .int .i64 v2] 22)).cell? ⟨w.heap.size, 1, none⟩ = some (.int .i64 c.k1) := by first | (simp; done) | (rw [World.cell?_alloc_at _ _ _ _ (by simp)]; rfl) | (rw [World.cell?_alloc_past _ _ _ (by simp <;> omega), World.cell?_alloc_at _ _ _ _ (by simp)]; rfl) | (rw [World.cell?_alloc_past _ _ _ (by simp <;> omega), World.cell?_alloc_past _ _ _ (by simp <;> omega), World.cell?_alloc_at _ _ _ _ (by simp)]; rfl)
  have cc2 : ((w.alloc (.cells #[.int .i64 c.k0, .int .i64 c.k1, .int .i64 c.k2, .int .i64 c.a0, .int .i64 c.a1, .int .i64 c.a2, .slice c.ta c.tl c.tc, .int .i64 c.per, .int .i64 c.ret, .int .i64 c.age, .int .i64 c.dead] 25)).alloc (.cells #[.int .i64 v0, .int .i64 v1, .int .i64 v2] 22)).cell? ⟨w.heap.size, 2, none⟩ = some (.int .i64 c.k2) := by first | (simp; done) | (rw [World.cell?_alloc_at _ _ _ _ (by simp)]; rfl) | (rw [World.cell?_alloc_past _ _ _ (by simp <;> omega), World.cell?_alloc_at _ _ _ _ (by simp)]; rfl) | (rw [World.cell?_alloc_past _ _ _ (by simp <;> omega), World.cell?_alloc_past _ _ _ (by simp <;> omega), World.cell?_alloc_at _ _ _ _ (by simp)]; rfl)
  have cc3 : ((w.alloc (.cells #[.int .i64 c.k0, .int .i64 c.k1, .int .i64 c.k2, .int .i64 c.a0, .int .i64 c.a1, .int .i64 c.a2, .slice c.ta c.tl c.tc, .int .i64 c.per, .int .i64 c.ret, .int .i64 c.age, .int .i64 c.dead] 25)).alloc (.cells #[.int .i64 v0, .int .i64 v1, .int .i64 v2] 22)).cell? ⟨w.heap.size, 3, none⟩ = some (.int .i64 c.a0) := by first | (simp; done) | (rw [World.cell?_alloc_at _ _ _ _ (by simp)]; rfl) | (rw [World.cell?_alloc_past _ _ _ (by simp <;> omega), World.cell?_alloc_at _ _ _ _ (by simp)]; rfl) | (rw [World.cell?_alloc_past _ _ _ (by simp <;> omega), World.cell?_alloc_past _ _ _ (by simp <;> omega), World.cell?_alloc_at _ _ _ _ (by simp)]; rfl)
  have cc4 : ((w.alloc (.cells #[.int .i64 c.k0, .int .i64 c.k1, .int .i64 c.k2, .int .i64 c.a0, .int .i64 c.a1, .int .i64 c.a2, .slice c.ta c.tl c.tc, .int .i64 c.per, .int .i64 c.ret, .int .i64 c.age, .int .i64 c.dead] 25)).alloc (.cells #[.int .i64 v0, .int .i64 v1, .int .i64 v2] 22)).cell? ⟨w.heap.size, 4, none⟩ = some (.int .i64 c.a1) := by first | (simp; done) | (rw [World.cell?_alloc_at _ _ _ _ (by simp)]; rfl) | (rw [World.cell?_alloc_past _ _ _ (by simp <;> omega), World.cell?_alloc_at _ _ _ _ (by simp)]; rfl) | (rw [World.cell?_alloc_past _ _ _ (by simp <;> omega), World.cell?_alloc_past _ _ _ (by simp <;> omega), World.cell?_alloc_at _ _ _ _ (by simp)]; rfl)
  have cc5 : ((w.alloc (.cells #[.int .i64 c.k0, .int .i64 c.k1, .int .i64 c.k2, .int .i64 c.a0, .int .i64 c.a1, .int .i64 c.a2, .slice c.ta c.tl c.tc, .int .i64 c.per, .int .i64 c.ret, .int .i64 c.age, .int .i64 c.dead] 25)).alloc (.cells #[.int .i64 v0, .int .i64 v1, .int .i64 v2] 22)).cell? ⟨w.heap.size, 5, none⟩ = some (.int .i64 c.a2) := by first | (simp; done) | (rw [World.cell?_alloc_at _ _ _ _ (by simp)]; rfl) | (rw [World.cell?_alloc_past _ _ _ (by simp <;> omega), World.cell?_alloc_at _ _ _ _ (by simp)]; rfl) | (rw [World.cell?_alloc_past _ _ _ (by simp <;> omega), World.cell?_alloc_past _ _ _ (by simp <;> omega), World.cell?_alloc_at _ _ _ _ (by simp)]; rfl)
  have cc6 : ((w.alloc (.cells #[.int .i64 c.k0, .int .i64 c.k1, .int .i64 c.k2, .int .i64 c.a0, .int .i64 c.a1, .int .i64 c.a2, .slice c.ta c.tl c.tc, .int .i64 c.per, .int .i64 c.ret, .int .i64 c.age, .int .i64 c.dead] 25)).alloc (.cells #[.int .i64 v0, .int .i64 v1, .int .i64 v2] 22)).cell? ⟨w.heap.size, 6, none⟩ = some (.slice c.ta c.tl c.tc) := by first | (simp; done) | (rw [World.cell?_alloc_at _ _ _ _ (by simp)]; rfl) | (rw [World.cell?_alloc_past _ _ _ (by simp <;> omega), World.cell?_alloc_at _ _ _ _ (by simp)]; rfl) | (rw [World.cell?_alloc_past _ _ _ (by simp <;> omega), World.cell?_alloc_past _ _ _ (by simp <;> omega), World.cell?_alloc_at _ _ _ _ (by simp)]; rfl)
  have cc7 : ((w.alloc (.cells #[.int .i64 c.k0, .int .i64 c.k1, .int .i64 c.k2, .int .i64 c.a0, .int .i64 c.a1, .int .i64 c.a2, .slice c.ta c.tl c.tc, .int .i64 c.per, .int .i64 c.ret, .int .i64 c.age, .int .i64 c.dead] 25)).alloc (.cells #[.int .i64 v0, .int .i64 v1, .int .i64 v2] 22)).cell? ⟨w.heap.size, 7, none⟩ = some (.int .i64 c.per) := by first | (simp; done) | (rw [World.cell?_alloc_at _ _ _ _ (by simp)]; rfl) | (rw [World.cell?_alloc_past _ _ _ (by simp <;> omega), World.cell?_alloc_at _ _ _ _ (by simp)]; rfl) | (rw [World.cell?_alloc_past _ _ _ (by simp <;> omega), World.cell?_alloc_past _ _ _ (by simp <;> omega), World.cell?_alloc_at _ _ _ _ (by simp)]; rfl)
  have cc8 : ((w.alloc (.cells #[.int .i64 c.k0, .int .i64 c.k1, .int .i64 c.k2, .int .i64 c.a0, .int .i64 c.a1, .int .i64 c.a2, .slice c.ta c.tl c.tc, .int .i64 c.per, .int .i64 c.ret, .int .i64 c.age, .int .i64 c.dead] 25)).alloc (.cells #[.int .i64 v0, .int .i64 v1, .int .i64 v2] 22)).cell? ⟨w.heap.size, 8, none⟩ = some (.int .i64 c.ret) := by first | (simp; done) | (rw [World.cell?_alloc_at _ _ _ _ (by simp)]; rfl) | (rw [World.cell?_alloc_past _ _ _ (by simp <;> omega), World.cell?_alloc_at _ _ _ _ (by simp)]; rfl) | (rw [World.cell?_alloc_past _ _ _ (by simp <;> omega), World.cell?_alloc_past _ _ _ (by simp <;> omega), World.cell?_alloc_at _ _ _ _ (by simp)]; rfl)
  have cc9 : ((w.alloc (.cells #[.int .i64 c.k0, .int .i64 c.k1, .int .i64 c.k2, .int .i64 c.a0, .int .i64 c.a1, .int .i64 c.a2, .slice c.ta c.tl c.tc, .int .i64 c.per, .int .i64 c.ret, .int .i64 c.age, .int .i64 c.dead] 25)).alloc (.cells #[.int .i64 v0, .int .i64 v1, .int .i64 v2] 22)).cell? ⟨w.heap.size, 9, none⟩ = some (.int .i64 c.age) := by first | (simp; done) | (rw [World.cell?_alloc_at _ _ _ _ (by simp)]; rfl) | (rw [World.cell?_alloc_past _ _ _ (by simp <;> omega), World.cell?_alloc_at _ _ _ _ (by simp)]; rfl) | (rw [World.cell?_alloc_past _ _ _ (by simp <;> omega), World.cell?_alloc_past _ _ _ (by simp <;> omega), World.cell?_alloc_at _ _ _ _ (by simp)]; rfl)
  have cc10 : ((w.alloc (.cells #[.int .i64 c.k0, .int .i64 c.k1, .int .i64 c.k2, .int .i64 c.a0, .int .i64 c.a1, .int .i64 c.a2, .slice c.ta c.tl c.tc, .int .i64 c.per, .int .i64 c.ret, .int .i64 c.age, .int .i64 c.dead] 25)).alloc (.cells #[.int .i64 v0, .int .i64 v1, .int .i64 v2] 22)).cell? ⟨w.heap.size, 10, none⟩ = some (.int .i64 c.dead) := by first | (simp; done) | (rw [World.cell?_alloc_at _ _ _ _ (by simp)]; rfl) | (rw [World.cell?_alloc_past _ _ _ (by simp <;> omega), World.cell?_alloc_at _ _ _ _ (by simp)]; rfl) | (rw [World.cell?_alloc_past _ _ _ (by simp <;> omega), World.cell?_alloc_past _ _ _ (by simp <;> omega), World.cell?_alloc_at _ _ _ _ (by simp)]; rfl)
  have vv0 : ((w.alloc (.cells #[.int .i64 c.k0, .int .i64 c.k1, .int .i64 c.k2, .int .i64 c.a0, .int .i64 c.a1, .int .i64 c.a2, .slice c.ta c.tl c.tc, .int .i64 c.per, .int .i64 c.ret, .int .i64 c.age, .int .i64 c.dead] 25)).alloc (.cells #[.int .i64 v0, .int .i64 v1, .int .i64 v2] 22)).cell? ⟨w.heap.size + 1, 0, none⟩ = some (.int .i64 v0) := by first | (simp; done) | (rw [World.cell?_alloc_at _ _ _ _ (by simp)]; rfl) | (rw [World.cell?_alloc_past _ _ _ (by simp <;> omega), World.cell?_alloc_at _ _ _ _ (by simp)]; rfl) | (rw [World.cell?_alloc_past _ _ _ (by simp <;> omega), World.cell?_alloc_past _ _ _ (by simp <;> omega), World.cell?_alloc_at _ _ _ _ (by simp)]; rfl)
  have vv1 : ((w.alloc (.cells #[.int .i64 c.k0, .int .i64 c.k1, .int .i64 c.k2, .int .i64 c.a0, .int .i64 c.a1, .int .i64 c.a2, .slice c.ta c.tl c.tc, .int .i64 c.per, .int .i64 c.ret, .int .i64 c.age, .int .i64 c.dead] 25)).alloc (.cells #[.int .i64 v0, .int .i64 v1, .int .i64 v2] 22)).cell? ⟨w.heap.size + 1, 1, none⟩ = some (.int .i64 v1) := by first | (simp; done) | (rw [World.cell?_alloc_at _ _ _ _ (by simp)]; rfl) | (rw [World.cell?_alloc_past _ _ _ (by simp <;> omega), World.cell?_alloc_at _ _ _ _ (by simp)]; rfl) | (rw [World.cell?_alloc_past _ _ _ (by simp <;> omega), World.cell?_alloc_past _ _ _ (by simp <;> omega), World.cell?_alloc_at _ _ _ _ (by simp)]; rfl)
  have vv2 : ((w.alloc (.cells #[.int .i64 c.k0, .int .i64 c.k1, .int .i64 c.k2, .int .i64 c.a0, .int .i64 c.a1, .int .i64 c.a2, .slice c.ta c.tl c.tc, .int .i64 c.per, .int .i64 c.ret, .int .i64 c.age, .int .i64 c.dead] 25)).alloc (.cells #[.int .i64 v0, .int .i64 v1, .int .i64 v2] 22)).cell? ⟨w.heap.size + 1, 2, none⟩ = some (.int .i64 v2) := by first | (simp; done) | (rw [World.cell?_alloc_at _ _ _ _ (by simp)]; rfl) | (rw [World.cell?_alloc_past _ _ _ (by simp <;> omega), World.cell?_alloc_at _ _ _ _ (by simp)]; rfl) | (rw [World.cell?_alloc_past _ _ _ (by simp <;> omega), World.cell?_alloc_past _ _ _ (by simp <;> omega), World.cell?_alloc_at _ _ _ _ (by simp)]; rfl)
  have hb2 := (by repeat (first | exact hbel | refine belAlloc ?_ _ | refine belDrew ?_ | refine belSet ?_ _ _ (by simp)) : Below w.heap.size w ((w.alloc (.cells #[.int .i64 c.k0, .int .i64 c.k1, .int .i64 c.k2, .int .i64 c.a0, .int .i64 c.a1, .int .i64 c.a2, .slice c.ta c.tl c.tc, .int .i64 c.per, .int .i64 c.ret, .int .i64 c.age, .int .i64 c.dead] 25)).alloc (.cells #[.int .i64 v0, .int .i64 v1, .int .i64 v2] 22)))
  replace hw := belStep hw hb2
  clear hb2 hbel
  generalize (w.alloc (.cells #[.int .i64 c.k0, .int .i64 c.k1, .int .i64 c.k2, .int .i64 c.a0, .int .i64 c.a1, .int .i64 c.a2, .slice c.ta c.tl c.tc, .int .i64 c.per, .int .i64 c.ret, .int .i64 c.age, .int .i64 c.dead] 25)).alloc (.cells #[.int .i64 v0, .int .i64 v1, .int .i64 v2] 22) = W1 at *
  replace cc0 := keep cc0
  replace cc1 := keep cc1
  replace cc2 := keep cc2
  replace cc3 := keep cc3
  replace cc4 := keep cc4
  replace cc5 := keep cc5
  replace cc6 := keep cc6
  replace cc7 := keep cc7
  replace cc8 := keep cc8
  replace cc9 := keep cc9
  replace cc10 := keep cc10
  replace vv0 := keep vv0
  replace vv1 := keep vv1
  replace vv2 := keep vv2
  have hbel : Below W1.heap.size W1 W1 := Below.refl _ _
  skip
  have hs1 : w.heap.size ≤ W1.heap.size := hw.size
  have HCW := Lib.hid (HC.out.later hw)
  have HSZ := Lib.hid hs1
  have HW := Lib.hid hw
  clear hs1 hw
  go_wp2
  clear hbel
  go_loopw [5, 6] (fun v i wr => ∃ k : Nat, k ≤ c.tl ∧ i = .int .i64 k ∧ OwnG Value.bool wr W1.heap.size 4 v ((c.L.map (fun t => met3 c t v0 v1 v2)).take k) ∧ Below W1.heap.size W1 wr) (fun _ i _ => c.tl - (intOf i).toNat)
  case atStart => exact ⟨0, by omega, rfl, by simpa using OwnG.nil, Below.refl _ _⟩
  case round =>
    obtain ⟨k, hk, rfl, ho, hbel⟩ := hrel
    have HO := Lib.hid ho
    have HB := Lib.hid hbel
    clear ho
    by_cases hlt : k < c.tl
    · have hki : (k : Int) < (c.tl : Int) := by omega
      have hlk := Lib.hid (show ((c.L.map (fun t => met3 c t v0 v1 v2)).take k).length = k by rw [List.length_take, HXL.out]; omega)
      obtain ⟨t, hti, htr, _⟩ := HCW.out.at hlt
      have HU := Lib.hid (show (c.L.map (fun t => met3 c t v0 v1 v2))[k]? = some (met3 c t v0 v1 v2) by rw [List.getElem?_map, hti]; rfl)
      have CM1 := Lib.hid (CO.out k t wr (HW.out.trans (HB.out.mono HSZ.out)) hti htr)
      clear hti htr
      generalize met3 c t v0 v1 v2 = mv at *
      go_wp2_with (first | (go_at_call 27; (with_reducible refine (CM1.out).mono ?_); rintro e w3 ⟨rfl, hb3⟩; have HO3 := Lib.hid (HO.out.later hb3); replace hbel := belStep hbel hb3; clear hb3) | (at_builtin; refine wpList_app_g (f := Value.bool) rfl _ _ 33 rfl W1.heap.size 4 (.bool false) 1 Try.underlying33 info_bool rfl _ _ rfl (HO3.out.alloc (.cells #[.bool mv] 4)) _ _ rfl (by simp; rfl) rfl (by rw [hlk.out]; unfold maxLen; omega) (by rw [hlk.out]; omega) (by have := hbel.size; simp; omega) ?_; intro v4 w4 ho4 hb4; have HB4 := Lib.hid ((hbel.alloc hbel.size (.cells #[.bool mv] 4) : Below W1.heap.size W1 _).trans hb4); have HO4 := Lib.hid ho4; clear ho4 hb4))
      go_roundw
      case rel => exact ⟨k + 1, by omega, by push_cast; rfl, by rw [List.take_add_one, HU.out]; exact HO4.out, HB4.out⟩
      case measure => simp [intOf] <;> omega
    · obtain rfl : k = c.tl := by omega
      have hki : ¬ (c.tl : Int) < (c.tl : Int) := by omega
      go_wp2
      go_ret
      refine ⟨_, rfl, ?_, HW.out.trans (HB.out.mono HSZ.out)⟩
      have := HO.out
      rw [List.take_of_length_le (by rw [HXL.out]; exact Nat.le_refl _)] at this
      exact this.mono HSZ.out
set_option maxRecDepth 100000 in
set_option maxHeartbeats 8000000 in
theorem ref_Step (c : CfgV) (sa : Option Addr) (sc : Nat) (S : List Int) (v0 v1 v2 r : Int) (w : World) (hc : Good c w) (hv : InI v0 ∧ InI v1 ∧ InI v2) (hS : Ints .i64 w sa c.tl sc S) (hSb : ∀ k, k < c.tl → -1 ≤ el S k) : Calls Try.prog 18 #[.agg #[.int .i64 c.k0, .int .i64 c.k1, .int .i64 c.k2, .int .i64 c.a0, .int .i64 c.a1, .int .i64 c.a2, .slice c.ta c.tl c.tc, .int .i64 c.per, .int .i64 c.ret, .int .i64 c.age, .int .i64 c.dead], .slice sa c.tl sc, .agg #[.int .i64 v0, .int .i64 v1, .int .i64 v2], .int .i64 r] w fun e w' => ∃ v, e = .returned v ∧ OwnG (Value.int .i64) w' w.heap.size 3 v (stepL c S v0 v1 v2 r) ∧ Below w.heap.size w w' := by
  have hw : Below w.heap.size w w := Below.refl _ _
  have hbel := hw
  have hfew := hc.few
  obtain ⟨hbd1, hbd2⟩ := hc.bd
  obtain ⟨hsl, hsc1, hsc2⟩ := hS.bounds
  have HSL := Lib.hid hsl
  have HS := Lib.hid hS
  have HSb := Lib.hid hSb
  clear hS hSb
  have HXL := Lib.hid (show (stepL c S v0 v1 v2 r).length = c.tl by rw [stepL_len (by rw [hsl, hc.len]), hc.len])
  have CO := Lib.hid (fun i t u (h : Below w.heap.size w u) (hi : c.L[i]? = some t) (hr : t.right = true) => gr_One c i t v0 v1 v2 u (hc.took.later h) hi hr hv)
  clear hv
  have HC := Lib.hid hc
  clear hc
  go_enter Try.func18, Try.ntmps18
  go_upto_region 1 with fail
  have cc0 : ((w.alloc (.cells #[.int .i64 c.k0, .int .i64 c.k1, .int .i64 c.k2, .int .i64 c.a0, .int .i64 c.a1, .int .i64 c.a2, .slice c.ta c.tl c.tc, .int .i64 c.per, .int .i64 c.ret, .int .i64 c.age, .int .i64 c.dead] 25)).alloc (.cells #[.int .i64 v0, .int .i64 v1, .int .i64 v2] 22)).cell? ⟨w.heap.size, 0, none⟩ = some (.int .i64 c.k0) := by first | (simp; done) | (rw [World.cell?_alloc_at _ _ _ _ (by simp)]; rfl) | (rw [World.cell?_alloc_past _ _ _ (by simp <;> omega), World.cell?_alloc_at _ _ _ _ (by simp)]; rfl) | (rw [World.cell?_alloc_past _ _ _ (by simp <;> omega), World.cell?_alloc_past _ _ _ (by simp <;> omega), World.cell?_alloc_at _ _ _ _ (by simp)]; rfl)
  have cc1 : ((w.alloc (.cells #[.int .i64 c.k0, .int .i64 c.k1, .int .i64 c.k2, .int .i64 c.a0, .int .i64 c.a1, .int .i64 c.a2, .slice c.ta c.tl c.tc, .int .i64 c.per, .int .i64 c.ret, .int .i64 c.age, .int .i64 c.dead] 25)).alloc (.cells #[.int .i64 v0, .int .i64 v1, .int .i64 v2] 22)).cell? ⟨w.heap.size, 1, none⟩ = some (.int .i64 c.k1) := by first | (simp; done) | (rw [World.cell?_alloc_at _ _ _ _ (by simp)]; rfl) | (rw [World.cell?_alloc_past _ _ _ (by simp <;> omega), World.cell?_alloc_at _ _ _ _ (by simp)]; rfl) | (rw [World.cell?_alloc_past _ _ _ (by simp <;> omega), World.cell?_alloc_past _ _ _ (by simp <;> omega), World.cell?_alloc_at _ _ _ _ (by simp)]; rfl)
  have cc2 : ((w.alloc (.cells #[.int .i64 c.k0, .int .i64 c.k1, .int .i64 c.k2, .int .i64 c.a0, .int .i64 c.a1, .int .i64 c.a2, .slice c.ta c.tl c.tc, .int .i64 c.per, .int .i64 c.ret, .int .i64 c.age, .int .i64 c.dead] 25)).alloc (.cells #[.int .i64 v0, .int .i64 v1, .int .i64 v2] 22)).cell? ⟨w.heap.size, 2, none⟩ = some (.int .i64 c.k2) := by first | (simp; done) | (rw [World.cell?_alloc_at _ _ _ _ (by simp)]; rfl) | (rw [World.cell?_alloc_past _ _ _ (by simp <;> omega), World.cell?_alloc_at _ _ _ _ (by simp)]; rfl) | (rw [World.cell?_alloc_past _ _ _ (by simp <;> omega), World.cell?_alloc_past _ _ _ (by simp <;> omega), World.cell?_alloc_at _ _ _ _ (by simp)]; rfl)
  have cc3 : ((w.alloc (.cells #[.int .i64 c.k0, .int .i64 c.k1, .int .i64 c.k2, .int .i64 c.a0, .int .i64 c.a1, .int .i64 c.a2, .slice c.ta c.tl c.tc, .int .i64 c.per, .int .i64 c.ret, .int .i64 c.age, .int .i64 c.dead] 25)).alloc (.cells #[.int .i64 v0, .int .i64 v1, .int .i64 v2] 22)).cell? ⟨w.heap.size, 3, none⟩ = some (.int .i64 c.a0) := by first | (simp; done) | (rw [World.cell?_alloc_at _ _ _ _ (by simp)]; rfl) | (rw [World.cell?_alloc_past _ _ _ (by simp <;> omega), World.cell?_alloc_at _ _ _ _ (by simp)]; rfl) | (rw [World.cell?_alloc_past _ _ _ (by simp <;> omega), World.cell?_alloc_past _ _ _ (by simp <;> omega), World.cell?_alloc_at _ _ _ _ (by simp)]; rfl)
  have cc4 : ((w.alloc (.cells #[.int .i64 c.k0, .int .i64 c.k1, .int .i64 c.k2, .int .i64 c.a0, .int .i64 c.a1, .int .i64 c.a2, .slice c.ta c.tl c.tc, .int .i64 c.per, .int .i64 c.ret, .int .i64 c.age, .int .i64 c.dead] 25)).alloc (.cells #[.int .i64 v0, .int .i64 v1, .int .i64 v2] 22)).cell? ⟨w.heap.size, 4, none⟩ = some (.int .i64 c.a1) := by first | (simp; done) | (rw [World.cell?_alloc_at _ _ _ _ (by simp)]; rfl) | (rw [World.cell?_alloc_past _ _ _ (by simp <;> omega), World.cell?_alloc_at _ _ _ _ (by simp)]; rfl) | (rw [World.cell?_alloc_past _ _ _ (by simp <;> omega), World.cell?_alloc_past _ _ _ (by simp <;> omega), World.cell?_alloc_at _ _ _ _ (by simp)]; rfl)
  have cc5 : ((w.alloc (.cells #[.int .i64 c.k0, .int .i64 c.k1, .int .i64 c.k2, .int .i64 c.a0, .int .i64 c.a1, .int .i64 c.a2, .slice c.ta c.tl c.tc, .int .i64 c.per, .int .i64 c.ret, .int .i64 c.age, .int .i64 c.dead] 25)).alloc (.cells #[.int .i64 v0, .int .i64 v1, .int .i64 v2] 22)).cell? ⟨w.heap.size, 5, none⟩ = some (.int .i64 c.a2) := by first | (simp; done) | (rw [World.cell?_alloc_at _ _ _ _ (by simp)]; rfl) | (rw [World.cell?_alloc_past _ _ _ (by simp <;> omega), World.cell?_alloc_at _ _ _ _ (by simp)]; rfl) | (rw [World.cell?_alloc_past _ _ _ (by simp <;> omega), World.cell?_alloc_past _ _ _ (by simp <;> omega), World.cell?_alloc_at _ _ _ _ (by simp)]; rfl)
  have cc6 : ((w.alloc (.cells #[.int .i64 c.k0, .int .i64 c.k1, .int .i64 c.k2, .int .i64 c.a0, .int .i64 c.a1, .int .i64 c.a2, .slice c.ta c.tl c.tc, .int .i64 c.per, .int .i64 c.ret, .int .i64 c.age, .int .i64 c.dead] 25)).alloc (.cells #[.int .i64 v0, .int .i64 v1, .int .i64 v2] 22)).cell? ⟨w.heap.size, 6, none⟩ = some (.slice c.ta c.tl c.tc) := by first | (simp; done) | (rw [World.cell?_alloc_at _ _ _ _ (by simp)]; rfl) | (rw [World.cell?_alloc_past _ _ _ (by simp <;> omega), World.cell?_alloc_at _ _ _ _ (by simp)]; rfl) | (rw [World.cell?_alloc_past _ _ _ (by simp <;> omega), World.cell?_alloc_past _ _ _ (by simp <;> omega), World.cell?_alloc_at _ _ _ _ (by simp)]; rfl)
  have cc7 : ((w.alloc (.cells #[.int .i64 c.k0, .int .i64 c.k1, .int .i64 c.k2, .int .i64 c.a0, .int .i64 c.a1, .int .i64 c.a2, .slice c.ta c.tl c.tc, .int .i64 c.per, .int .i64 c.ret, .int .i64 c.age, .int .i64 c.dead] 25)).alloc (.cells #[.int .i64 v0, .int .i64 v1, .int .i64 v2] 22)).cell? ⟨w.heap.size, 7, none⟩ = some (.int .i64 c.per) := by first | (simp; done) | (rw [World.cell?_alloc_at _ _ _ _ (by simp)]; rfl) | (rw [World.cell?_alloc_past _ _ _ (by simp <;> omega), World.cell?_alloc_at _ _ _ _ (by simp)]; rfl) | (rw [World.cell?_alloc_past _ _ _ (by simp <;> omega), World.cell?_alloc_past _ _ _ (by simp <;> omega), World.cell?_alloc_at _ _ _ _ (by simp)]; rfl)
  have cc8 : ((w.alloc (.cells #[.int .i64 c.k0, .int .i64 c.k1, .int .i64 c.k2, .int .i64 c.a0, .int .i64 c.a1, .int .i64 c.a2, .slice c.ta c.tl c.tc, .int .i64 c.per, .int .i64 c.ret, .int .i64 c.age, .int .i64 c.dead] 25)).alloc (.cells #[.int .i64 v0, .int .i64 v1, .int .i64 v2] 22)).cell? ⟨w.heap.size, 8, none⟩ = some (.int .i64 c.ret) := by first | (simp; done) | (rw [World.cell?_alloc_at _ _ _ _ (by simp)]; rfl) | (rw [World.cell?_alloc_past _ _ _ (by simp <;> omega), World.cell?_alloc_at _ _ _ _ (by simp)]; rfl) | (rw [World.cell?_alloc_past _ _ _ (by simp <;> omega), World.cell?_alloc_past _ _ _ (by simp <;> omega), World.cell?_alloc_at _ _ _ _ (by simp)]; rfl)
  have cc9 : ((w.alloc (.cells #[.int .i64 c.k0, .int .i64 c.k1, .int .i64 c.k2, .int .i64 c.a0, .int .i64 c.a1, .int .i64 c.a2, .slice c.ta c.tl c.tc, .int .i64 c.per, .int .i64 c.ret, .int .i64 c.age, .int .i64 c.dead] 25)).alloc (.cells #[.int .i64 v0, .int .i64 v1, .int .i64 v2] 22)).cell? ⟨w.heap.size, 9, none⟩ = some (.int .i64 c.age) := by first | (simp; done) | (rw [World.cell?_alloc_at _ _ _ _ (by simp)]; rfl) | (rw [World.cell?_alloc_past _ _ _ (by simp <;> omega), World.cell?_alloc_at _ _ _ _ (by simp)]; rfl) | (rw [World.cell?_alloc_past _ _ _ (by simp <;> omega), World.cell?_alloc_past _ _ _ (by simp <;> omega), World.cell?_alloc_at _ _ _ _ (by simp)]; rfl)
  have cc10 : ((w.alloc (.cells #[.int .i64 c.k0, .int .i64 c.k1, .int .i64 c.k2, .int .i64 c.a0, .int .i64 c.a1, .int .i64 c.a2, .slice c.ta c.tl c.tc, .int .i64 c.per, .int .i64 c.ret, .int .i64 c.age, .int .i64 c.dead] 25)).alloc (.cells #[.int .i64 v0, .int .i64 v1, .int .i64 v2] 22)).cell? ⟨w.heap.size, 10, none⟩ = some (.int .i64 c.dead) := by first | (simp; done) | (rw [World.cell?_alloc_at _ _ _ _ (by simp)]; rfl) | (rw [World.cell?_alloc_past _ _ _ (by simp <;> omega), World.cell?_alloc_at _ _ _ _ (by simp)]; rfl) | (rw [World.cell?_alloc_past _ _ _ (by simp <;> omega), World.cell?_alloc_past _ _ _ (by simp <;> omega), World.cell?_alloc_at _ _ _ _ (by simp)]; rfl)
  have vv0 : ((w.alloc (.cells #[.int .i64 c.k0, .int .i64 c.k1, .int .i64 c.k2, .int .i64 c.a0, .int .i64 c.a1, .int .i64 c.a2, .slice c.ta c.tl c.tc, .int .i64 c.per, .int .i64 c.ret, .int .i64 c.age, .int .i64 c.dead] 25)).alloc (.cells #[.int .i64 v0, .int .i64 v1, .int .i64 v2] 22)).cell? ⟨w.heap.size + 1, 0, none⟩ = some (.int .i64 v0) := by first | (simp; done) | (rw [World.cell?_alloc_at _ _ _ _ (by simp)]; rfl) | (rw [World.cell?_alloc_past _ _ _ (by simp <;> omega), World.cell?_alloc_at _ _ _ _ (by simp)]; rfl) | (rw [World.cell?_alloc_past _ _ _ (by simp <;> omega), World.cell?_alloc_past _ _ _ (by simp <;> omega), World.cell?_alloc_at _ _ _ _ (by simp)]; rfl)
  have vv1 : ((w.alloc (.cells #[.int .i64 c.k0, .int .i64 c.k1, .int .i64 c.k2, .int .i64 c.a0, .int .i64 c.a1, .int .i64 c.a2, .slice c.ta c.tl c.tc, .int .i64 c.per, .int .i64 c.ret, .int .i64 c.age, .int .i64 c.dead] 25)).alloc (.cells #[.int .i64 v0, .int .i64 v1, .int .i64 v2] 22)).cell? ⟨w.heap.size + 1, 1, none⟩ = some (.int .i64 v1) := by first | (simp; done) | (rw [World.cell?_alloc_at _ _ _ _ (by simp)]; rfl) | (rw [World.cell?_alloc_past _ _ _ (by simp <;> omega), World.cell?_alloc_at _ _ _ _ (by simp)]; rfl) | (rw [World.cell?_alloc_past _ _ _ (by simp <;> omega), World.cell?_alloc_past _ _ _ (by simp <;> omega), World.cell?_alloc_at _ _ _ _ (by simp)]; rfl)
  have vv2 : ((w.alloc (.cells #[.int .i64 c.k0, .int .i64 c.k1, .int .i64 c.k2, .int .i64 c.a0, .int .i64 c.a1, .int .i64 c.a2, .slice c.ta c.tl c.tc, .int .i64 c.per, .int .i64 c.ret, .int .i64 c.age, .int .i64 c.dead] 25)).alloc (.cells #[.int .i64 v0, .int .i64 v1, .int .i64 v2] 22)).cell? ⟨w.heap.size + 1, 2, none⟩ = some (.int .i64 v2) := by first | (simp; done) | (rw [World.cell?_alloc_at _ _ _ _ (by simp)]; rfl) | (rw [World.cell?_alloc_past _ _ _ (by simp <;> omega), World.cell?_alloc_at _ _ _ _ (by simp)]; rfl) | (rw [World.cell?_alloc_past _ _ _ (by simp <;> omega), World.cell?_alloc_past _ _ _ (by simp <;> omega), World.cell?_alloc_at _ _ _ _ (by simp)]; rfl)
  have hb2 := (by repeat (first | exact hbel | refine belAlloc ?_ _ | refine belDrew ?_ | refine belSet ?_ _ _ (by simp)) : Below w.heap.size w ((w.alloc (.cells #[.int .i64 c.k0, .int .i64 c.k1, .int .i64 c.k2, .int .i64 c.a0, .int .i64 c.a1, .int .i64 c.a2, .slice c.ta c.tl c.tc, .int .i64 c.per, .int .i64 c.ret, .int .i64 c.age, .int .i64 c.dead] 25)).alloc (.cells #[.int .i64 v0, .int .i64 v1, .int .i64 v2] 22)))
  replace hw := belStep hw hb2
  clear hb2 hbel
  generalize (w.alloc (.cells #[.int .i64 c.k0, .int .i64 c.k1, .int .i64 c.k2, .int .i64 c.a0, .int .i64 c.a1, .int .i64 c.a2, .slice c.ta c.tl c.tc, .int .i64 c.per, .int .i64 c.ret, .int .i64 c.age, .int .i64 c.dead] 25)).alloc (.cells #[.int .i64 v0, .int .i64 v1, .int .i64 v2] 22) = W1 at *
  replace cc0 := keep cc0
  replace cc1 := keep cc1
  replace cc2 := keep cc2
  replace cc3 := keep cc3
  replace cc4 := keep cc4
  replace cc5 := keep cc5
  replace cc6 := keep cc6
  replace cc7 := keep cc7
  replace cc8 := keep cc8
  replace cc9 := keep cc9
  replace cc10 := keep cc10
  replace vv0 := keep vv0
  replace vv1 := keep vv1
  replace vv2 := keep vv2
  have hbel : Below W1.heap.size W1 W1 := Below.refl _ _
  skip
  have hs1 : w.heap.size ≤ W1.heap.size := hw.size
  have HCW := Lib.hid (HC.out.later hw)
  have HSZ := Lib.hid hs1
  have HW := Lib.hid hw
  have HSW := Lib.hid (HS.out.later hw)
  clear hs1 hw HS
  go_wp2
  clear hbel
  go_loopw [9, 10] (fun v i wr => ∃ k : Nat, k ≤ c.tl ∧ i = .int .i64 k ∧ OwnG (Value.int .i64) wr W1.heap.size 3 v ((stepL c S v0 v1 v2 r).take k) ∧ Below W1.heap.size W1 wr) (fun _ i _ => c.tl - (intOf i).toNat)
  case atStart => exact ⟨0, by omega, rfl, by simpa using OwnG.nil, Below.refl _ _⟩
  case round =>
    obtain ⟨k, hk, rfl, ho, hbel⟩ := hrel
    have HO := Lib.hid ho
    have HB := Lib.hid hbel
    clear ho
    by_cases hlt : k < c.tl
    · have hki : (k : Int) < (c.tl : Int) := by omega
      have hlk := Lib.hid (show ((stepL c S v0 v1 v2 r).take k).length = k by rw [List.length_take, HXL.out]; omega)
      obtain ⟨t, hti, htr, _⟩ := HCW.out.at hlt
      obtain ⟨sb, so, rfl, hsb, hsx⟩ := HSW.out.opened (by omega)
      have s0 := keep (hsx k hlt)
      have hsb2 := HSb.out k hlt
      have hu := stepL_get (S := S) (v0 := v0) (v1 := v1) (v2 := v2) (r := r) hti (by rw [HSL.out]; exact hlt)
      have CM1 := Lib.hid (CO.out k t wr (HW.out.trans (HB.out.mono HSZ.out)) hti htr)
      clear hti htr hsx
      generalize el S k = s at *
      rcases Bool.eq_false_or_eq_true (met3 c t v0 v1 v2) with hm | hm
      · rw [hm] at CM1 hu
        clear hm
        unfold stepE at hu
        rw [if_pos rfl] at hu
        by_cases hs : s = -1
        · rw [if_pos hs] at hu
          subst hs
          have HU := Lib.hid hu
          clear hu hsb2
          go_wp2_with (first | (go_at_call 27; (with_reducible refine (CM1.out).mono ?_); rintro e w3 ⟨rfl, hb3⟩; have HO3 := Lib.hid (HO.out.later hb3); replace hbel := belStep hbel hb3; clear hb3) | (at_builtin; refine wpList_app_g (f := (Value.int .i64)) rfl _ _ 26 rfl W1.heap.size 3 (.int .i64 0) 8 Try.underlying26 info_int rfl _ _ rfl (HO3.out.alloc (.cells #[.int .i64 r] 3)) _ _ rfl (by simp; rfl) rfl (by rw [hlk.out]; unfold maxLen; omega) (by rw [hlk.out]; omega) (by have := hbel.size; simp; omega) ?_; intro v4 w4 ho4 hb4; have HB4 := Lib.hid ((hbel.alloc hbel.size (.cells #[.int .i64 r] 3) : Below W1.heap.size W1 _).trans hb4); have HO4 := Lib.hid ho4; clear ho4 hb4))
          go_roundw
          case rel => exact ⟨k + 1, by omega, by push_cast; rfl, by rw [List.take_add_one, HU.out]; exact HO4.out, HB4.out⟩
          case measure => simp [intOf] <;> omega
        · rw [if_neg hs] at hu
          have hs2 : 0 ≤ s := by omega
          have HU := Lib.hid hu
          clear hu hs hsb2
          go_wp2_with (first | (go_at_call 27; (with_reducible refine (CM1.out).mono ?_); rintro e w3 ⟨rfl, hb3⟩; have HO3 := Lib.hid (HO.out.later hb3); replace hbel := belStep hbel hb3; clear hb3) | (at_builtin; refine wpList_app_g (f := (Value.int .i64)) rfl _ _ 26 rfl W1.heap.size 3 (.int .i64 0) 8 Try.underlying26 info_int rfl _ _ rfl (HO3.out.alloc (.cells #[.int .i64 s] 3)) _ _ rfl (by simp; rfl) rfl (by rw [hlk.out]; unfold maxLen; omega) (by rw [hlk.out]; omega) (by have := hbel.size; simp; omega) ?_; intro v4 w4 ho4 hb4; have HB4 := Lib.hid ((hbel.alloc hbel.size (.cells #[.int .i64 s] 3) : Below W1.heap.size W1 _).trans hb4); have HO4 := Lib.hid ho4; clear ho4 hb4))
          go_roundw
          case rel => exact ⟨k + 1, by omega, by push_cast; rfl, by rw [List.take_add_one, HU.out]; exact HO4.out, HB4.out⟩
          case measure => simp [intOf] <;> omega
      · rw [hm] at CM1 hu
        clear hm
        unfold stepE at hu
        rw [if_neg (by simp)] at hu
        have HU := Lib.hid hu
        clear hu
        go_wp2_with (first | (go_at_call 27; (with_reducible refine (CM1.out).mono ?_); rintro e w3 ⟨rfl, hb3⟩; have HO3 := Lib.hid (HO.out.later hb3); replace hbel := belStep hbel hb3; clear hb3) | (at_builtin; refine wpList_app_g (f := (Value.int .i64)) rfl _ _ 26 rfl W1.heap.size 3 (.int .i64 0) 8 Try.underlying26 info_int rfl _ _ rfl (HO3.out.alloc (.cells #[.int .i64 (-1)] 3)) _ _ rfl (by simp; rfl) rfl (by rw [hlk.out]; unfold maxLen; omega) (by rw [hlk.out]; omega) (by have := hbel.size; simp; omega) ?_; intro v4 w4 ho4 hb4; have HB4 := Lib.hid ((hbel.alloc hbel.size (.cells #[.int .i64 (-1)] 3) : Below W1.heap.size W1 _).trans hb4); have HO4 := Lib.hid ho4; clear ho4 hb4))
        go_roundw
        case rel => exact ⟨k + 1, by omega, by push_cast; rfl, by rw [List.take_add_one, HU.out]; exact HO4.out, HB4.out⟩
        case measure => simp [intOf] <;> omega
    · obtain rfl : k = c.tl := by omega
      have hki : ¬ (c.tl : Int) < (c.tl : Int) := by omega
      go_wp2
      go_ret
      refine ⟨_, rfl, ?_, HW.out.trans (HB.out.mono HSZ.out)⟩
      have := HO.out
      rw [List.take_of_length_le (by rw [HXL.out]; exact Nat.le_refl _)] at this
      exact this.mono HSZ.out
set_option maxRecDepth 100000 in
set_option maxHeartbeats 8000000 in
theorem ref_Hold (c : CfgV) (sa : Option Addr) (sc : Nat) (S : List Int) (r : Int) (w : World) (hc : Good c w) (hS : Ints .i64 w sa c.tl sc S) (hr : 0 ≤ r ∧ r ≤ 4611686018427387904) (hSb : ∀ k, k < c.tl → -1 ≤ el S k ∧ el S k ≤ 4611686018427387904) : Calls Try.prog 20 #[.agg #[.int .i64 c.k0, .int .i64 c.k1, .int .i64 c.k2, .int .i64 c.a0, .int .i64 c.a1, .int .i64 c.a2, .slice c.ta c.tl c.tc, .int .i64 c.per, .int .i64 c.ret, .int .i64 c.age, .int .i64 c.dead], .slice sa c.tl sc, .int .i64 r] w fun e w' => ∃ v, e = .returned v ∧ OwnG Value.bool w' w.heap.size 4 v (holdL c S r) ∧ Below w.heap.size w w' := by
  have hw : Below w.heap.size w w := Below.refl _ _
  have hbel := hw
  have hfew := hc.few
  obtain ⟨hbd1, hbd2⟩ := hc.bd
  obtain ⟨hsl, hsc1, hsc2⟩ := hS.bounds
  have HSL := Lib.hid hsl
  have HS := Lib.hid hS
  have HSb := Lib.hid hSb
  clear hS hSb
  have HXL := Lib.hid (show (holdL c S r).length = c.tl by rw [holdL_len (by rw [hsl, hc.len]), hc.len])
  have HR := Lib.hid hr
  clear hr
  have HC := Lib.hid hc
  clear hc
  go_enter Try.func20, Try.ntmps20
  go_upto_region 1 with fail
  have cc0 : (w.alloc (.cells #[.int .i64 c.k0, .int .i64 c.k1, .int .i64 c.k2, .int .i64 c.a0, .int .i64 c.a1, .int .i64 c.a2, .slice c.ta c.tl c.tc, .int .i64 c.per, .int .i64 c.ret, .int .i64 c.age, .int .i64 c.dead] 25)).cell? ⟨w.heap.size, 0, none⟩ = some (.int .i64 c.k0) := by first | (simp; done) | (rw [World.cell?_alloc_at _ _ _ _ (by simp)]; rfl) | (rw [World.cell?_alloc_past _ _ _ (by simp <;> omega), World.cell?_alloc_at _ _ _ _ (by simp)]; rfl) | (rw [World.cell?_alloc_past _ _ _ (by simp <;> omega), World.cell?_alloc_past _ _ _ (by simp <;> omega), World.cell?_alloc_at _ _ _ _ (by simp)]; rfl)
  have cc1 : (w.alloc (.cells #[.int .i64 c.k0, .int .i64 c.k1, .int .i64 c.k2, .int .i64 c.a0, .int .i64 c.a1, .int .i64 c.a2, .slice c.ta c.tl c.tc, .int .i64 c.per, .int .i64 c.ret, .int .i64 c.age, .int .i64 c.dead] 25)).cell? ⟨w.heap.size, 1, none⟩ = some (.int .i64 c.k1) := by first | (simp; done) | (rw [World.cell?_alloc_at _ _ _ _ (by simp)]; rfl) | (rw [World.cell?_alloc_past _ _ _ (by simp <;> omega), World.cell?_alloc_at _ _ _ _ (by simp)]; rfl) | (rw [World.cell?_alloc_past _ _ _ (by simp <;> omega), World.cell?_alloc_past _ _ _ (by simp <;> omega), World.cell?_alloc_at _ _ _ _ (by simp)]; rfl)
  have cc2 : (w.alloc (.cells #[.int .i64 c.k0, .int .i64 c.k1, .int .i64 c.k2, .int .i64 c.a0, .int .i64 c.a1, .int .i64 c.a2, .slice c.ta c.tl c.tc, .int .i64 c.per, .int .i64 c.ret, .int .i64 c.age, .int .i64 c.dead] 25)).cell? ⟨w.heap.size, 2, none⟩ = some (.int .i64 c.k2) := by first | (simp; done) | (rw [World.cell?_alloc_at _ _ _ _ (by simp)]; rfl) | (rw [World.cell?_alloc_past _ _ _ (by simp <;> omega), World.cell?_alloc_at _ _ _ _ (by simp)]; rfl) | (rw [World.cell?_alloc_past _ _ _ (by simp <;> omega), World.cell?_alloc_past _ _ _ (by simp <;> omega), World.cell?_alloc_at _ _ _ _ (by simp)]; rfl)
  have cc3 : (w.alloc (.cells #[.int .i64 c.k0, .int .i64 c.k1, .int .i64 c.k2, .int .i64 c.a0, .int .i64 c.a1, .int .i64 c.a2, .slice c.ta c.tl c.tc, .int .i64 c.per, .int .i64 c.ret, .int .i64 c.age, .int .i64 c.dead] 25)).cell? ⟨w.heap.size, 3, none⟩ = some (.int .i64 c.a0) := by first | (simp; done) | (rw [World.cell?_alloc_at _ _ _ _ (by simp)]; rfl) | (rw [World.cell?_alloc_past _ _ _ (by simp <;> omega), World.cell?_alloc_at _ _ _ _ (by simp)]; rfl) | (rw [World.cell?_alloc_past _ _ _ (by simp <;> omega), World.cell?_alloc_past _ _ _ (by simp <;> omega), World.cell?_alloc_at _ _ _ _ (by simp)]; rfl)
  have cc4 : (w.alloc (.cells #[.int .i64 c.k0, .int .i64 c.k1, .int .i64 c.k2, .int .i64 c.a0, .int .i64 c.a1, .int .i64 c.a2, .slice c.ta c.tl c.tc, .int .i64 c.per, .int .i64 c.ret, .int .i64 c.age, .int .i64 c.dead] 25)).cell? ⟨w.heap.size, 4, none⟩ = some (.int .i64 c.a1) := by first | (simp; done) | (rw [World.cell?_alloc_at _ _ _ _ (by simp)]; rfl) | (rw [World.cell?_alloc_past _ _ _ (by simp <;> omega), World.cell?_alloc_at _ _ _ _ (by simp)]; rfl) | (rw [World.cell?_alloc_past _ _ _ (by simp <;> omega), World.cell?_alloc_past _ _ _ (by simp <;> omega), World.cell?_alloc_at _ _ _ _ (by simp)]; rfl)
  have cc5 : (w.alloc (.cells #[.int .i64 c.k0, .int .i64 c.k1, .int .i64 c.k2, .int .i64 c.a0, .int .i64 c.a1, .int .i64 c.a2, .slice c.ta c.tl c.tc, .int .i64 c.per, .int .i64 c.ret, .int .i64 c.age, .int .i64 c.dead] 25)).cell? ⟨w.heap.size, 5, none⟩ = some (.int .i64 c.a2) := by first | (simp; done) | (rw [World.cell?_alloc_at _ _ _ _ (by simp)]; rfl) | (rw [World.cell?_alloc_past _ _ _ (by simp <;> omega), World.cell?_alloc_at _ _ _ _ (by simp)]; rfl) | (rw [World.cell?_alloc_past _ _ _ (by simp <;> omega), World.cell?_alloc_past _ _ _ (by simp <;> omega), World.cell?_alloc_at _ _ _ _ (by simp)]; rfl)
  have cc6 : (w.alloc (.cells #[.int .i64 c.k0, .int .i64 c.k1, .int .i64 c.k2, .int .i64 c.a0, .int .i64 c.a1, .int .i64 c.a2, .slice c.ta c.tl c.tc, .int .i64 c.per, .int .i64 c.ret, .int .i64 c.age, .int .i64 c.dead] 25)).cell? ⟨w.heap.size, 6, none⟩ = some (.slice c.ta c.tl c.tc) := by first | (simp; done) | (rw [World.cell?_alloc_at _ _ _ _ (by simp)]; rfl) | (rw [World.cell?_alloc_past _ _ _ (by simp <;> omega), World.cell?_alloc_at _ _ _ _ (by simp)]; rfl) | (rw [World.cell?_alloc_past _ _ _ (by simp <;> omega), World.cell?_alloc_past _ _ _ (by simp <;> omega), World.cell?_alloc_at _ _ _ _ (by simp)]; rfl)
  have cc7 : (w.alloc (.cells #[.int .i64 c.k0, .int .i64 c.k1, .int .i64 c.k2, .int .i64 c.a0, .int .i64 c.a1, .int .i64 c.a2, .slice c.ta c.tl c.tc, .int .i64 c.per, .int .i64 c.ret, .int .i64 c.age, .int .i64 c.dead] 25)).cell? ⟨w.heap.size, 7, none⟩ = some (.int .i64 c.per) := by first | (simp; done) | (rw [World.cell?_alloc_at _ _ _ _ (by simp)]; rfl) | (rw [World.cell?_alloc_past _ _ _ (by simp <;> omega), World.cell?_alloc_at _ _ _ _ (by simp)]; rfl) | (rw [World.cell?_alloc_past _ _ _ (by simp <;> omega), World.cell?_alloc_past _ _ _ (by simp <;> omega), World.cell?_alloc_at _ _ _ _ (by simp)]; rfl)
  have cc8 : (w.alloc (.cells #[.int .i64 c.k0, .int .i64 c.k1, .int .i64 c.k2, .int .i64 c.a0, .int .i64 c.a1, .int .i64 c.a2, .slice c.ta c.tl c.tc, .int .i64 c.per, .int .i64 c.ret, .int .i64 c.age, .int .i64 c.dead] 25)).cell? ⟨w.heap.size, 8, none⟩ = some (.int .i64 c.ret) := by first | (simp; done) | (rw [World.cell?_alloc_at _ _ _ _ (by simp)]; rfl) | (rw [World.cell?_alloc_past _ _ _ (by simp <;> omega), World.cell?_alloc_at _ _ _ _ (by simp)]; rfl) | (rw [World.cell?_alloc_past _ _ _ (by simp <;> omega), World.cell?_alloc_past _ _ _ (by simp <;> omega), World.cell?_alloc_at _ _ _ _ (by simp)]; rfl)
  have cc9 : (w.alloc (.cells #[.int .i64 c.k0, .int .i64 c.k1, .int .i64 c.k2, .int .i64 c.a0, .int .i64 c.a1, .int .i64 c.a2, .slice c.ta c.tl c.tc, .int .i64 c.per, .int .i64 c.ret, .int .i64 c.age, .int .i64 c.dead] 25)).cell? ⟨w.heap.size, 9, none⟩ = some (.int .i64 c.age) := by first | (simp; done) | (rw [World.cell?_alloc_at _ _ _ _ (by simp)]; rfl) | (rw [World.cell?_alloc_past _ _ _ (by simp <;> omega), World.cell?_alloc_at _ _ _ _ (by simp)]; rfl) | (rw [World.cell?_alloc_past _ _ _ (by simp <;> omega), World.cell?_alloc_past _ _ _ (by simp <;> omega), World.cell?_alloc_at _ _ _ _ (by simp)]; rfl)
  have cc10 : (w.alloc (.cells #[.int .i64 c.k0, .int .i64 c.k1, .int .i64 c.k2, .int .i64 c.a0, .int .i64 c.a1, .int .i64 c.a2, .slice c.ta c.tl c.tc, .int .i64 c.per, .int .i64 c.ret, .int .i64 c.age, .int .i64 c.dead] 25)).cell? ⟨w.heap.size, 10, none⟩ = some (.int .i64 c.dead) := by first | (simp; done) | (rw [World.cell?_alloc_at _ _ _ _ (by simp)]; rfl) | (rw [World.cell?_alloc_past _ _ _ (by simp <;> omega), World.cell?_alloc_at _ _ _ _ (by simp)]; rfl) | (rw [World.cell?_alloc_past _ _ _ (by simp <;> omega), World.cell?_alloc_past _ _ _ (by simp <;> omega), World.cell?_alloc_at _ _ _ _ (by simp)]; rfl)
  have hb2 := (by repeat (first | exact hbel | refine belAlloc ?_ _ | refine belDrew ?_ | refine belSet ?_ _ _ (by simp)) : Below w.heap.size w (w.alloc (.cells #[.int .i64 c.k0, .int .i64 c.k1, .int .i64 c.k2, .int .i64 c.a0, .int .i64 c.a1, .int .i64 c.a2, .slice c.ta c.tl c.tc, .int .i64 c.per, .int .i64 c.ret, .int .i64 c.age, .int .i64 c.dead] 25)))
  replace hw := belStep hw hb2
  clear hb2 hbel
  generalize w.alloc (.cells #[.int .i64 c.k0, .int .i64 c.k1, .int .i64 c.k2, .int .i64 c.a0, .int .i64 c.a1, .int .i64 c.a2, .slice c.ta c.tl c.tc, .int .i64 c.per, .int .i64 c.ret, .int .i64 c.age, .int .i64 c.dead] 25) = W1 at *
  replace cc0 := keep cc0
  replace cc1 := keep cc1
  replace cc2 := keep cc2
  replace cc3 := keep cc3
  replace cc4 := keep cc4
  replace cc5 := keep cc5
  replace cc6 := keep cc6
  replace cc7 := keep cc7
  replace cc8 := keep cc8
  replace cc9 := keep cc9
  replace cc10 := keep cc10
  have hbel : Below W1.heap.size W1 W1 := Below.refl _ _
  skip
  have hs1 : w.heap.size ≤ W1.heap.size := hw.size
  have HCW := Lib.hid (HC.out.later hw)
  have HSZ := Lib.hid hs1
  have HW := Lib.hid hw
  have HSW := Lib.hid (HS.out.later hw)
  clear hs1 hw HS
  go_wp2
  clear hbel
  go_loopw [7, 8] (fun v i wr => ∃ k : Nat, k ≤ c.tl ∧ i = .int .i64 k ∧ OwnG Value.bool wr W1.heap.size 4 v ((holdL c S r).take k) ∧ Below W1.heap.size W1 wr) (fun _ i _ => c.tl - (intOf i).toNat)
  case atStart => exact ⟨0, by omega, rfl, by simpa using OwnG.nil, Below.refl _ _⟩
  case round =>
    obtain ⟨k, hk, rfl, ho, hbel⟩ := hrel
    have HO := Lib.hid ho
    have HB := Lib.hid hbel
    clear ho
    by_cases hlt : k < c.tl
    · have hki : (k : Int) < (c.tl : Int) := by omega
      have hlk := Lib.hid (show ((holdL c S r).take k).length = k by rw [List.length_take, HXL.out]; omega)
      obtain ⟨t, hti, htr, hto, b, off, hta, hbb, x0, x1, x2, x3, x4⟩ := (HCW.out.later HB.out).at hlt
      obtain ⟨sb, so, rfl, hsb, hsx⟩ := (HSW.out.later HB.out).opened (by omega)
      have s0 := hsx k hlt
      have hsb2 := HSb.out k hlt
      have hu := holdL_get (S := S) (r := r) hti (by rw [HSL.out]; exact hlt)
      have hgr := (ThrV.facts htr).2.2
      have hcl := cc6 _ hbel
      simp only [hta] at hcl ⊢
      generalize el S k = s at *
      obtain ⟨tg, tp, tm, ts, tgr⟩ := t
      simp only at x0 x1 x2 x3 x4 hgr
      clear hti htr hto hsx
      have hw : Below wr.heap.size wr wr := Below.refl _ _
      replace x0 := keep x0
      replace x1 := keep x1
      replace x2 := keep x2
      replace x3 := keep x3
      replace x4 := keep x4
      replace s0 := keep s0
      replace hcl := keep hcl
      clear cc6
      replace hbel := hw
      unfold holdE at hu
      by_cases hs : s = -1
      · rw [if_pos hs] at hu
        have HU := Lib.hid hu
        subst hs
        clear hu
        rcases hgr with ⟨rfl, g1, g2⟩ | ⟨rfl, g1⟩
        · have hws : IntKind.i64.wrap (-1 + tgr) = -1 + tgr := by simp only [IntKind.wrap_i64]; omega
          rcases Int.lt_or_le r (-1 + tgr) with hd | hd
          · clear hsb2
            go_upto_region 6 with fail
            have tt0 : (wr.alloc (.cells #[.int .i64 tg, .int .i64 tp, .int .i64 tm, .bool true, .int .i64 tgr] 47)).cell? ⟨wr.heap.size, 0, none⟩ = some (.int .i64 tg) := by first | (simp; done) | (rw [World.cell?_alloc_at _ _ _ _ (by simp)]; rfl) | (rw [World.cell?_alloc_past _ _ _ (by simp <;> omega), World.cell?_alloc_at _ _ _ _ (by simp)]; rfl) | (rw [World.cell?_alloc_past _ _ _ (by simp <;> omega), World.cell?_alloc_past _ _ _ (by simp <;> omega), World.cell?_alloc_at _ _ _ _ (by simp)]; rfl)
            have tt1 : (wr.alloc (.cells #[.int .i64 tg, .int .i64 tp, .int .i64 tm, .bool true, .int .i64 tgr] 47)).cell? ⟨wr.heap.size, 1, none⟩ = some (.int .i64 tp) := by first | (simp; done) | (rw [World.cell?_alloc_at _ _ _ _ (by simp)]; rfl) | (rw [World.cell?_alloc_past _ _ _ (by simp <;> omega), World.cell?_alloc_at _ _ _ _ (by simp)]; rfl) | (rw [World.cell?_alloc_past _ _ _ (by simp <;> omega), World.cell?_alloc_past _ _ _ (by simp <;> omega), World.cell?_alloc_at _ _ _ _ (by simp)]; rfl)
            have tt2 : (wr.alloc (.cells #[.int .i64 tg, .int .i64 tp, .int .i64 tm, .bool true, .int .i64 tgr] 47)).cell? ⟨wr.heap.size, 2, none⟩ = some (.int .i64 tm) := by first | (simp; done) | (rw [World.cell?_alloc_at _ _ _ _ (by simp)]; rfl) | (rw [World.cell?_alloc_past _ _ _ (by simp <;> omega), World.cell?_alloc_at _ _ _ _ (by simp)]; rfl) | (rw [World.cell?_alloc_past _ _ _ (by simp <;> omega), World.cell?_alloc_past _ _ _ (by simp <;> omega), World.cell?_alloc_at _ _ _ _ (by simp)]; rfl)
            have tt3 : (wr.alloc (.cells #[.int .i64 tg, .int .i64 tp, .int .i64 tm, .bool true, .int .i64 tgr] 47)).cell? ⟨wr.heap.size, 3, none⟩ = some (.bool true) := by first | (simp; done) | (rw [World.cell?_alloc_at _ _ _ _ (by simp)]; rfl) | (rw [World.cell?_alloc_past _ _ _ (by simp <;> omega), World.cell?_alloc_at _ _ _ _ (by simp)]; rfl) | (rw [World.cell?_alloc_past _ _ _ (by simp <;> omega), World.cell?_alloc_past _ _ _ (by simp <;> omega), World.cell?_alloc_at _ _ _ _ (by simp)]; rfl)
            have tt4 : (wr.alloc (.cells #[.int .i64 tg, .int .i64 tp, .int .i64 tm, .bool true, .int .i64 tgr] 47)).cell? ⟨wr.heap.size, 4, none⟩ = some (.int .i64 tgr) := by first | (simp; done) | (rw [World.cell?_alloc_at _ _ _ _ (by simp)]; rfl) | (rw [World.cell?_alloc_past _ _ _ (by simp <;> omega), World.cell?_alloc_at _ _ _ _ (by simp)]; rfl) | (rw [World.cell?_alloc_past _ _ _ (by simp <;> omega), World.cell?_alloc_past _ _ _ (by simp <;> omega), World.cell?_alloc_at _ _ _ _ (by simp)]; rfl)
            have hb2 := (by repeat (first | exact hbel | refine belAlloc ?_ _ | refine belDrew ?_ | refine belSet ?_ _ _ (by simp)) : Below wr.heap.size wr (wr.alloc (.cells #[.int .i64 tg, .int .i64 tp, .int .i64 tm, .bool true, .int .i64 tgr] 47)))
            replace s0 := keepOnP s0 hb2
            replace hcl := keepOnP hcl hb2
            replace hw := belStep hw hb2
            clear hb2 hbel
            generalize wr.alloc (.cells #[.int .i64 tg, .int .i64 tp, .int .i64 tm, .bool true, .int .i64 tgr] 47) = W3 at *
            replace tt0 := keep tt0
            replace tt1 := keep tt1
            replace tt2 := keep tt2
            replace tt3 := keep tt3
            replace tt4 := keep tt4
            have hbel : Below W3.heap.size W3 W3 := Below.refl _ _
            skip
            go_upto_region 7 with fail
            have kk := fun d os => belStep hbel (below_regrown _ d os)
            refine wp_region_quiet_below (by kernel_rfl) (by kernel_rfl) ?_
            repeat ((with_reducible refine wpQuiet_step (fun K hK => ?_)); go_simp; (try (rw [if_neg]; rotate_left; · decide)); first | ((with_reducible refine hK _ ?_); clear hK K) | (apply Exists.intro; refine ⟨fun _ => ?_, hK _ ?_⟩; (fail); clear hK K))
            refine wpQuiet_nil (fun w1 hw1 => ?_)
            replace hbel := belStep hbel (bel_of_class hw1)
            clear hw1 kk
            have hwB : Below wr.heap.size wr w1 := belStep hw hbel
            have HO3 := Lib.hid (HO.out.later hwB)
            replace hbel := belStep HB.out hwB
            go_wp2_with (first | (at_builtin; refine wpList_app_g (f := Value.bool) rfl _ _ 33 rfl W1.heap.size 4 (.bool false) 1 Try.underlying33 info_bool rfl _ _ rfl (HO3.out.alloc (.cells #[.bool false] 4)) _ _ rfl (by simp; rfl) rfl (by rw [hlk.out]; unfold maxLen; omega) (by rw [hlk.out]; omega) (by have := hbel.size; simp; omega) ?_; intro v4 w4 ho4 hb4; have HB4 := Lib.hid ((hbel.alloc hbel.size (.cells #[.bool false] 4) : Below W1.heap.size W1 _).trans hb4); have HO4 := Lib.hid ho4; clear ho4 hb4))
            go_roundw
            case rel => exact ⟨k + 1, by omega, by push_cast; rfl, by rw [List.take_add_one, HU.out]; exact HO4.out, HB4.out⟩
            case measure => simp [intOf] <;> omega
          · have hd2 : ¬ r < -1 + tgr := by omega
            clear hsb2
            go_upto_region 6 with fail
            have tt0 : (wr.alloc (.cells #[.int .i64 tg, .int .i64 tp, .int .i64 tm, .bool true, .int .i64 tgr] 47)).cell? ⟨wr.heap.size, 0, none⟩ = some (.int .i64 tg) := by first | (simp; done) | (rw [World.cell?_alloc_at _ _ _ _ (by simp)]; rfl) | (rw [World.cell?_alloc_past _ _ _ (by simp <;> omega), World.cell?_alloc_at _ _ _ _ (by simp)]; rfl) | (rw [World.cell?_alloc_past _ _ _ (by simp <;> omega), World.cell?_alloc_past _ _ _ (by simp <;> omega), World.cell?_alloc_at _ _ _ _ (by simp)]; rfl)
            have tt1 : (wr.alloc (.cells #[.int .i64 tg, .int .i64 tp, .int .i64 tm, .bool true, .int .i64 tgr] 47)).cell? ⟨wr.heap.size, 1, none⟩ = some (.int .i64 tp) := by first | (simp; done) | (rw [World.cell?_alloc_at _ _ _ _ (by simp)]; rfl) | (rw [World.cell?_alloc_past _ _ _ (by simp <;> omega), World.cell?_alloc_at _ _ _ _ (by simp)]; rfl) | (rw [World.cell?_alloc_past _ _ _ (by simp <;> omega), World.cell?_alloc_past _ _ _ (by simp <;> omega), World.cell?_alloc_at _ _ _ _ (by simp)]; rfl)
            have tt2 : (wr.alloc (.cells #[.int .i64 tg, .int .i64 tp, .int .i64 tm, .bool true, .int .i64 tgr] 47)).cell? ⟨wr.heap.size, 2, none⟩ = some (.int .i64 tm) := by first | (simp; done) | (rw [World.cell?_alloc_at _ _ _ _ (by simp)]; rfl) | (rw [World.cell?_alloc_past _ _ _ (by simp <;> omega), World.cell?_alloc_at _ _ _ _ (by simp)]; rfl) | (rw [World.cell?_alloc_past _ _ _ (by simp <;> omega), World.cell?_alloc_past _ _ _ (by simp <;> omega), World.cell?_alloc_at _ _ _ _ (by simp)]; rfl)
            have tt3 : (wr.alloc (.cells #[.int .i64 tg, .int .i64 tp, .int .i64 tm, .bool true, .int .i64 tgr] 47)).cell? ⟨wr.heap.size, 3, none⟩ = some (.bool true) := by first | (simp; done) | (rw [World.cell?_alloc_at _ _ _ _ (by simp)]; rfl) | (rw [World.cell?_alloc_past _ _ _ (by simp <;> omega), World.cell?_alloc_at _ _ _ _ (by simp)]; rfl) | (rw [World.cell?_alloc_past _ _ _ (by simp <;> omega), World.cell?_alloc_past _ _ _ (by simp <;> omega), World.cell?_alloc_at _ _ _ _ (by simp)]; rfl)
            have tt4 : (wr.alloc (.cells #[.int .i64 tg, .int .i64 tp, .int .i64 tm, .bool true, .int .i64 tgr] 47)).cell? ⟨wr.heap.size, 4, none⟩ = some (.int .i64 tgr) := by first | (simp; done) | (rw [World.cell?_alloc_at _ _ _ _ (by simp)]; rfl) | (rw [World.cell?_alloc_past _ _ _ (by simp <;> omega), World.cell?_alloc_at _ _ _ _ (by simp)]; rfl) | (rw [World.cell?_alloc_past _ _ _ (by simp <;> omega), World.cell?_alloc_past _ _ _ (by simp <;> omega), World.cell?_alloc_at _ _ _ _ (by simp)]; rfl)
            have hb2 := (by repeat (first | exact hbel | refine belAlloc ?_ _ | refine belDrew ?_ | refine belSet ?_ _ _ (by simp)) : Below wr.heap.size wr (wr.alloc (.cells #[.int .i64 tg, .int .i64 tp, .int .i64 tm, .bool true, .int .i64 tgr] 47)))
            replace s0 := keepOnP s0 hb2
            replace hcl := keepOnP hcl hb2
            replace hw := belStep hw hb2
            clear hb2 hbel
            generalize wr.alloc (.cells #[.int .i64 tg, .int .i64 tp, .int .i64 tm, .bool true, .int .i64 tgr] 47) = W3 at *
            replace tt0 := keep tt0
            replace tt1 := keep tt1
            replace tt2 := keep tt2
            replace tt3 := keep tt3
            replace tt4 := keep tt4
            have hbel : Below W3.heap.size W3 W3 := Below.refl _ _
            skip
            go_upto_region 7 with fail
            have kk := fun d os => belStep hbel (below_regrown _ d os)
            refine wp_region_quiet_below (by kernel_rfl) (by kernel_rfl) ?_
            repeat ((with_reducible refine wpQuiet_step (fun K hK => ?_)); go_simp; (try (rw [if_neg]; rotate_left; · decide)); first | ((with_reducible refine hK _ ?_); clear hK K) | (apply Exists.intro; refine ⟨fun _ => ?_, hK _ ?_⟩; (fail); clear hK K))
            refine wpQuiet_nil (fun w1 hw1 => ?_)
            replace hbel := belStep hbel (bel_of_class hw1)
            clear hw1 kk
            have hwB : Below wr.heap.size wr w1 := belStep hw hbel
            have HO3 := Lib.hid (HO.out.later hwB)
            replace hbel := belStep HB.out hwB
            go_wp2_with (first | (at_builtin; refine wpList_app_g (f := Value.bool) rfl _ _ 33 rfl W1.heap.size 4 (.bool false) 1 Try.underlying33 info_bool rfl _ _ rfl (HO3.out.alloc (.cells #[.bool false] 4)) _ _ rfl (by simp; rfl) rfl (by rw [hlk.out]; unfold maxLen; omega) (by rw [hlk.out]; omega) (by have := hbel.size; simp; omega) ?_; intro v4 w4 ho4 hb4; have HB4 := Lib.hid ((hbel.alloc hbel.size (.cells #[.bool false] 4) : Below W1.heap.size W1 _).trans hb4); have HO4 := Lib.hid ho4; clear ho4 hb4))
            go_roundw
            case rel => exact ⟨k + 1, by omega, by push_cast; rfl, by rw [List.take_add_one, HU.out]; exact HO4.out, HB4.out⟩
            case measure => simp [intOf] <;> omega
        · clear g1
          clear hsb2
          go_upto_region 6 with fail
          have tt0 : (wr.alloc (.cells #[.int .i64 tg, .int .i64 tp, .int .i64 tm, .bool false, .int .i64 tgr] 47)).cell? ⟨wr.heap.size, 0, none⟩ = some (.int .i64 tg) := by first | (simp; done) | (rw [World.cell?_alloc_at _ _ _ _ (by simp)]; rfl) | (rw [World.cell?_alloc_past _ _ _ (by simp <;> omega), World.cell?_alloc_at _ _ _ _ (by simp)]; rfl) | (rw [World.cell?_alloc_past _ _ _ (by simp <;> omega), World.cell?_alloc_past _ _ _ (by simp <;> omega), World.cell?_alloc_at _ _ _ _ (by simp)]; rfl)
          have tt1 : (wr.alloc (.cells #[.int .i64 tg, .int .i64 tp, .int .i64 tm, .bool false, .int .i64 tgr] 47)).cell? ⟨wr.heap.size, 1, none⟩ = some (.int .i64 tp) := by first | (simp; done) | (rw [World.cell?_alloc_at _ _ _ _ (by simp)]; rfl) | (rw [World.cell?_alloc_past _ _ _ (by simp <;> omega), World.cell?_alloc_at _ _ _ _ (by simp)]; rfl) | (rw [World.cell?_alloc_past _ _ _ (by simp <;> omega), World.cell?_alloc_past _ _ _ (by simp <;> omega), World.cell?_alloc_at _ _ _ _ (by simp)]; rfl)
          have tt2 : (wr.alloc (.cells #[.int .i64 tg, .int .i64 tp, .int .i64 tm, .bool false, .int .i64 tgr] 47)).cell? ⟨wr.heap.size, 2, none⟩ = some (.int .i64 tm) := by first | (simp; done) | (rw [World.cell?_alloc_at _ _ _ _ (by simp)]; rfl) | (rw [World.cell?_alloc_past _ _ _ (by simp <;> omega), World.cell?_alloc_at _ _ _ _ (by simp)]; rfl) | (rw [World.cell?_alloc_past _ _ _ (by simp <;> omega), World.cell?_alloc_past _ _ _ (by simp <;> omega), World.cell?_alloc_at _ _ _ _ (by simp)]; rfl)
          have tt3 : (wr.alloc (.cells #[.int .i64 tg, .int .i64 tp, .int .i64 tm, .bool false, .int .i64 tgr] 47)).cell? ⟨wr.heap.size, 3, none⟩ = some (.bool false) := by first | (simp; done) | (rw [World.cell?_alloc_at _ _ _ _ (by simp)]; rfl) | (rw [World.cell?_alloc_past _ _ _ (by simp <;> omega), World.cell?_alloc_at _ _ _ _ (by simp)]; rfl) | (rw [World.cell?_alloc_past _ _ _ (by simp <;> omega), World.cell?_alloc_past _ _ _ (by simp <;> omega), World.cell?_alloc_at _ _ _ _ (by simp)]; rfl)
          have tt4 : (wr.alloc (.cells #[.int .i64 tg, .int .i64 tp, .int .i64 tm, .bool false, .int .i64 tgr] 47)).cell? ⟨wr.heap.size, 4, none⟩ = some (.int .i64 tgr) := by first | (simp; done) | (rw [World.cell?_alloc_at _ _ _ _ (by simp)]; rfl) | (rw [World.cell?_alloc_past _ _ _ (by simp <;> omega), World.cell?_alloc_at _ _ _ _ (by simp)]; rfl) | (rw [World.cell?_alloc_past _ _ _ (by simp <;> omega), World.cell?_alloc_past _ _ _ (by simp <;> omega), World.cell?_alloc_at _ _ _ _ (by simp)]; rfl)
          have hb2 := (by repeat (first | exact hbel | refine belAlloc ?_ _ | refine belDrew ?_ | refine belSet ?_ _ _ (by simp)) : Below wr.heap.size wr (wr.alloc (.cells #[.int .i64 tg, .int .i64 tp, .int .i64 tm, .bool false, .int .i64 tgr] 47)))
          replace s0 := keepOnP s0 hb2
          replace hcl := keepOnP hcl hb2
          replace hw := belStep hw hb2
          clear hb2 hbel
          generalize wr.alloc (.cells #[.int .i64 tg, .int .i64 tp, .int .i64 tm, .bool false, .int .i64 tgr] 47) = W3 at *
          replace tt0 := keep tt0
          replace tt1 := keep tt1
          replace tt2 := keep tt2
          replace tt3 := keep tt3
          replace tt4 := keep tt4
          have hbel : Below W3.heap.size W3 W3 := Below.refl _ _
          skip
          go_upto_region 7 with fail
          have kk := fun d os => belStep hbel (below_regrown _ d os)
          refine wp_region_quiet_below (by kernel_rfl) (by kernel_rfl) ?_
          repeat ((with_reducible refine wpQuiet_step (fun K hK => ?_)); go_simp; (try (rw [if_neg]; rotate_left; · decide)); first | ((with_reducible refine hK _ ?_); clear hK K) | (apply Exists.intro; refine ⟨fun _ => ?_, hK _ ?_⟩; (fail); clear hK K))
          refine wpQuiet_nil (fun w1 hw1 => ?_)
          replace hbel := belStep hbel (bel_of_class hw1)
          clear hw1 kk
          have hwB : Below wr.heap.size wr w1 := belStep hw hbel
          have HO3 := Lib.hid (HO.out.later hwB)
          replace hbel := belStep HB.out hwB
          go_wp2_with (first | (at_builtin; refine wpList_app_g (f := Value.bool) rfl _ _ 33 rfl W1.heap.size 4 (.bool false) 1 Try.underlying33 info_bool rfl _ _ rfl (HO3.out.alloc (.cells #[.bool false] 4)) _ _ rfl (by simp; rfl) rfl (by rw [hlk.out]; unfold maxLen; omega) (by rw [hlk.out]; omega) (by have := hbel.size; simp; omega) ?_; intro v4 w4 ho4 hb4; have HB4 := Lib.hid ((hbel.alloc hbel.size (.cells #[.bool false] 4) : Below W1.heap.size W1 _).trans hb4); have HO4 := Lib.hid ho4; clear ho4 hb4))
          go_roundw
          case rel => exact ⟨k + 1, by omega, by push_cast; rfl, by rw [List.take_add_one, HU.out]; exact HO4.out, HB4.out⟩
          case measure => simp [intOf] <;> omega
      · rw [if_neg hs] at hu
        have hs2 : 0 ≤ s := by omega
        clear hs
        rcases hgr with ⟨rfl, g1, g2⟩ | ⟨rfl, g1⟩
        · have hws : IntKind.i64.wrap (s + tgr) = s + tgr := by simp only [IntKind.wrap_i64]; omega
          simp only [Bool.not_true, Bool.false_or] at hu
          by_cases hd : tgr ≤ r - s
          · rw [decide_eq_true hd] at hu
            have HU := Lib.hid hu
            have hd2 : ¬ r < s + tgr := by omega
            clear hu hd
            clear hsb2
            go_upto_region 6 with fail
            have tt0 : (wr.alloc (.cells #[.int .i64 tg, .int .i64 tp, .int .i64 tm, .bool true, .int .i64 tgr] 47)).cell? ⟨wr.heap.size, 0, none⟩ = some (.int .i64 tg) := by first | (simp; done) | (rw [World.cell?_alloc_at _ _ _ _ (by simp)]; rfl) | (rw [World.cell?_alloc_past _ _ _ (by simp <;> omega), World.cell?_alloc_at _ _ _ _ (by simp)]; rfl) | (rw [World.cell?_alloc_past _ _ _ (by simp <;> omega), World.cell?_alloc_past _ _ _ (by simp <;> omega), World.cell?_alloc_at _ _ _ _ (by simp)]; rfl)
            have tt1 : (wr.alloc (.cells #[.int .i64 tg, .int .i64 tp, .int .i64 tm, .bool true, .int .i64 tgr] 47)).cell? ⟨wr.heap.size, 1, none⟩ = some (.int .i64 tp) := by first | (simp; done) | (rw [World.cell?_alloc_at _ _ _ _ (by simp)]; rfl) | (rw [World.cell?_alloc_past _ _ _ (by simp <;> omega), World.cell?_alloc_at _ _ _ _ (by simp)]; rfl) | (rw [World.cell?_alloc_past _ _ _ (by simp <;> omega), World.cell?_alloc_past _ _ _ (by simp <;> omega), World.cell?_alloc_at _ _ _ _ (by simp)]; rfl)
            have tt2 : (wr.alloc (.cells #[.int .i64 tg, .int .i64 tp, .int .i64 tm, .bool true, .int .i64 tgr] 47)).cell? ⟨wr.heap.size, 2, none⟩ = some (.int .i64 tm) := by first | (simp; done) | (rw [World.cell?_alloc_at _ _ _ _ (by simp)]; rfl) | (rw [World.cell?_alloc_past _ _ _ (by simp <;> omega), World.cell?_alloc_at _ _ _ _ (by simp)]; rfl) | (rw [World.cell?_alloc_past _ _ _ (by simp <;> omega), World.cell?_alloc_past _ _ _ (by simp <;> omega), World.cell?_alloc_at _ _ _ _ (by simp)]; rfl)
            have tt3 : (wr.alloc (.cells #[.int .i64 tg, .int .i64 tp, .int .i64 tm, .bool true, .int .i64 tgr] 47)).cell? ⟨wr.heap.size, 3, none⟩ = some (.bool true) := by first | (simp; done) | (rw [World.cell?_alloc_at _ _ _ _ (by simp)]; rfl) | (rw [World.cell?_alloc_past _ _ _ (by simp <;> omega), World.cell?_alloc_at _ _ _ _ (by simp)]; rfl) | (rw [World.cell?_alloc_past _ _ _ (by simp <;> omega), World.cell?_alloc_past _ _ _ (by simp <;> omega), World.cell?_alloc_at _ _ _ _ (by simp)]; rfl)
            have tt4 : (wr.alloc (.cells #[.int .i64 tg, .int .i64 tp, .int .i64 tm, .bool true, .int .i64 tgr] 47)).cell? ⟨wr.heap.size, 4, none⟩ = some (.int .i64 tgr) := by first | (simp; done) | (rw [World.cell?_alloc_at _ _ _ _ (by simp)]; rfl) | (rw [World.cell?_alloc_past _ _ _ (by simp <;> omega), World.cell?_alloc_at _ _ _ _ (by simp)]; rfl) | (rw [World.cell?_alloc_past _ _ _ (by simp <;> omega), World.cell?_alloc_past _ _ _ (by simp <;> omega), World.cell?_alloc_at _ _ _ _ (by simp)]; rfl)
            have hb2 := (by repeat (first | exact hbel | refine belAlloc ?_ _ | refine belDrew ?_ | refine belSet ?_ _ _ (by simp)) : Below wr.heap.size wr (wr.alloc (.cells #[.int .i64 tg, .int .i64 tp, .int .i64 tm, .bool true, .int .i64 tgr] 47)))
            replace s0 := keepOnP s0 hb2
            replace hcl := keepOnP hcl hb2
            replace hw := belStep hw hb2
            clear hb2 hbel
            generalize wr.alloc (.cells #[.int .i64 tg, .int .i64 tp, .int .i64 tm, .bool true, .int .i64 tgr] 47) = W3 at *
            replace tt0 := keep tt0
            replace tt1 := keep tt1
            replace tt2 := keep tt2
            replace tt3 := keep tt3
            replace tt4 := keep tt4
            have hbel : Below W3.heap.size W3 W3 := Below.refl _ _
            skip
            go_upto_region 7 with fail
            have kk := fun d os => belStep hbel (below_regrown _ d os)
            refine wp_region_quiet_below (by kernel_rfl) (by kernel_rfl) ?_
            repeat ((with_reducible refine wpQuiet_step (fun K hK => ?_)); go_simp; (try (rw [if_neg]; rotate_left; · decide)); first | ((with_reducible refine hK _ ?_); clear hK K) | (apply Exists.intro; refine ⟨fun _ => ?_, hK _ ?_⟩; (fail); clear hK K))
            refine wpQuiet_nil (fun w1 hw1 => ?_)
            replace hbel := belStep hbel (bel_of_class hw1)
            clear hw1 kk
            have hwB : Below wr.heap.size wr w1 := belStep hw hbel
            have HO3 := Lib.hid (HO.out.later hwB)
            replace hbel := belStep HB.out hwB
            go_wp2_with (first | (at_builtin; refine wpList_app_g (f := Value.bool) rfl _ _ 33 rfl W1.heap.size 4 (.bool false) 1 Try.underlying33 info_bool rfl _ _ rfl (HO3.out.alloc (.cells #[.bool true] 4)) _ _ rfl (by simp; rfl) rfl (by rw [hlk.out]; unfold maxLen; omega) (by rw [hlk.out]; omega) (by have := hbel.size; simp; omega) ?_; intro v4 w4 ho4 hb4; have HB4 := Lib.hid ((hbel.alloc hbel.size (.cells #[.bool true] 4) : Below W1.heap.size W1 _).trans hb4); have HO4 := Lib.hid ho4; clear ho4 hb4))
            go_roundw
            case rel => exact ⟨k + 1, by omega, by push_cast; rfl, by rw [List.take_add_one, HU.out]; exact HO4.out, HB4.out⟩
            case measure => simp [intOf] <;> omega
          · rw [decide_eq_false hd] at hu
            have HU := Lib.hid hu
            have hd2 : r < s + tgr := by omega
            clear hu hd
            clear hsb2
            go_upto_region 6 with fail
            have tt0 : (wr.alloc (.cells #[.int .i64 tg, .int .i64 tp, .int .i64 tm, .bool true, .int .i64 tgr] 47)).cell? ⟨wr.heap.size, 0, none⟩ = some (.int .i64 tg) := by first | (simp; done) | (rw [World.cell?_alloc_at _ _ _ _ (by simp)]; rfl) | (rw [World.cell?_alloc_past _ _ _ (by simp <;> omega), World.cell?_alloc_at _ _ _ _ (by simp)]; rfl) | (rw [World.cell?_alloc_past _ _ _ (by simp <;> omega), World.cell?_alloc_past _ _ _ (by simp <;> omega), World.cell?_alloc_at _ _ _ _ (by simp)]; rfl)
            have tt1 : (wr.alloc (.cells #[.int .i64 tg, .int .i64 tp, .int .i64 tm, .bool true, .int .i64 tgr] 47)).cell? ⟨wr.heap.size, 1, none⟩ = some (.int .i64 tp) := by first | (simp; done) | (rw [World.cell?_alloc_at _ _ _ _ (by simp)]; rfl) | (rw [World.cell?_alloc_past _ _ _ (by simp <;> omega), World.cell?_alloc_at _ _ _ _ (by simp)]; rfl) | (rw [World.cell?_alloc_past _ _ _ (by simp <;> omega), World.cell?_alloc_past _ _ _ (by simp <;> omega), World.cell?_alloc_at _ _ _ _ (by simp)]; rfl)
            have tt2 : (wr.alloc (.cells #[.int .i64 tg, .int .i64 tp, .int .i64 tm, .bool true, .int .i64 tgr] 47)).cell? ⟨wr.heap.size, 2, none⟩ = some (.int .i64 tm) := by first | (simp; done) | (rw [World.cell?_alloc_at _ _ _ _ (by simp)]; rfl) | (rw [World.cell?_alloc_past _ _ _ (by simp <;> omega), World.cell?_alloc_at _ _ _ _ (by simp)]; rfl) | (rw [World.cell?_alloc_past _ _ _ (by simp <;> omega), World.cell?_alloc_past _ _ _ (by simp <;> omega), World.cell?_alloc_at _ _ _ _ (by simp)]; rfl)
            have tt3 : (wr.alloc (.cells #[.int .i64 tg, .int .i64 tp, .int .i64 tm, .bool true, .int .i64 tgr] 47)).cell? ⟨wr.heap.size, 3, none⟩ = some (.bool true) := by first | (simp; done) | (rw [World.cell?_alloc_at _ _ _ _ (by simp)]; rfl) | (rw [World.cell?_alloc_past _ _ _ (by simp <;> omega), World.cell?_alloc_at _ _ _ _ (by simp)]; rfl) | (rw [World.cell?_alloc_past _ _ _ (by simp <;> omega), World.cell?_alloc_past _ _ _ (by simp <;> omega), World.cell?_alloc_at _ _ _ _ (by simp)]; rfl)
            have tt4 : (wr.alloc (.cells #[.int .i64 tg, .int .i64 tp, .int .i64 tm, .bool true, .int .i64 tgr] 47)).cell? ⟨wr.heap.size, 4, none⟩ = some (.int .i64 tgr) := by first | (simp; done) | (rw [World.cell?_alloc_at _ _ _ _ (by simp)]; rfl) | (rw [World.cell?_alloc_past _ _ _ (by simp <;> omega), World.cell?_alloc_at _ _ _ _ (by simp)]; rfl) | (rw [World.cell?_alloc_past _ _ _ (by simp <;> omega), World.cell?_alloc_past _ _ _ (by simp <;> omega), World.cell?_alloc_at _ _ _ _ (by simp)]; rfl)
            have hb2 := (by repeat (first | exact hbel | refine belAlloc ?_ _ | refine belDrew ?_ | refine belSet ?_ _ _ (by simp)) : Below wr.heap.size wr (wr.alloc (.cells #[.int .i64 tg, .int .i64 tp, .int .i64 tm, .bool true, .int .i64 tgr] 47)))
            replace s0 := keepOnP s0 hb2
            replace hcl := keepOnP hcl hb2
            replace hw := belStep hw hb2
            clear hb2 hbel
            generalize wr.alloc (.cells #[.int .i64 tg, .int .i64 tp, .int .i64 tm, .bool true, .int .i64 tgr] 47) = W3 at *
            replace tt0 := keep tt0
            replace tt1 := keep tt1
            replace tt2 := keep tt2
            replace tt3 := keep tt3
            replace tt4 := keep tt4
            have hbel : Below W3.heap.size W3 W3 := Below.refl _ _
            skip
            go_upto_region 7 with fail
            have kk := fun d os => belStep hbel (below_regrown _ d os)
            refine wp_region_quiet_below (by kernel_rfl) (by kernel_rfl) ?_
            repeat ((with_reducible refine wpQuiet_step (fun K hK => ?_)); go_simp; (try (rw [if_neg]; rotate_left; · decide)); first | ((with_reducible refine hK _ ?_); clear hK K) | (apply Exists.intro; refine ⟨fun _ => ?_, hK _ ?_⟩; (fail); clear hK K))
            refine wpQuiet_nil (fun w1 hw1 => ?_)
            replace hbel := belStep hbel (bel_of_class hw1)
            clear hw1 kk
            have hwB : Below wr.heap.size wr w1 := belStep hw hbel
            have HO3 := Lib.hid (HO.out.later hwB)
            replace hbel := belStep HB.out hwB
            go_wp2_with (first | (at_builtin; refine wpList_app_g (f := Value.bool) rfl _ _ 33 rfl W1.heap.size 4 (.bool false) 1 Try.underlying33 info_bool rfl _ _ rfl (HO3.out.alloc (.cells #[.bool false] 4)) _ _ rfl (by simp; rfl) rfl (by rw [hlk.out]; unfold maxLen; omega) (by rw [hlk.out]; omega) (by have := hbel.size; simp; omega) ?_; intro v4 w4 ho4 hb4; have HB4 := Lib.hid ((hbel.alloc hbel.size (.cells #[.bool false] 4) : Below W1.heap.size W1 _).trans hb4); have HO4 := Lib.hid ho4; clear ho4 hb4))
            go_roundw
            case rel => exact ⟨k + 1, by omega, by push_cast; rfl, by rw [List.take_add_one, HU.out]; exact HO4.out, HB4.out⟩
            case measure => simp [intOf] <;> omega
        · simp only [Bool.not_false, Bool.true_or] at hu
          have HU := Lib.hid hu
          clear hu g1
          clear hsb2
          go_upto_region 6 with fail
          have tt0 : (wr.alloc (.cells #[.int .i64 tg, .int .i64 tp, .int .i64 tm, .bool false, .int .i64 tgr] 47)).cell? ⟨wr.heap.size, 0, none⟩ = some (.int .i64 tg) := by first | (simp; done) | (rw [World.cell?_alloc_at _ _ _ _ (by simp)]; rfl) | (rw [World.cell?_alloc_past _ _ _ (by simp <;> omega), World.cell?_alloc_at _ _ _ _ (by simp)]; rfl) | (rw [World.cell?_alloc_past _ _ _ (by simp <;> omega), World.cell?_alloc_past _ _ _ (by simp <;> omega), World.cell?_alloc_at _ _ _ _ (by simp)]; rfl)
          have tt1 : (wr.alloc (.cells #[.int .i64 tg, .int .i64 tp, .int .i64 tm, .bool false, .int .i64 tgr] 47)).cell? ⟨wr.heap.size, 1, none⟩ = some (.int .i64 tp) := by first | (simp; done) | (rw [World.cell?_alloc_at _ _ _ _ (by simp)]; rfl) | (rw [World.cell?_alloc_past _ _ _ (by simp <;> omega), World.cell?_alloc_at _ _ _ _ (by simp)]; rfl) | (rw [World.cell?_alloc_past _ _ _ (by simp <;> omega), World.cell?_alloc_past _ _ _ (by simp <;> omega), World.cell?_alloc_at _ _ _ _ (by simp)]; rfl)
          have tt2 : (wr.alloc (.cells #[.int .i64 tg, .int .i64 tp, .int .i64 tm, .bool false, .int .i64 tgr] 47)).cell? ⟨wr.heap.size, 2, none⟩ = some (.int .i64 tm) := by first | (simp; done) | (rw [World.cell?_alloc_at _ _ _ _ (by simp)]; rfl) | (rw [World.cell?_alloc_past _ _ _ (by simp <;> omega), World.cell?_alloc_at _ _ _ _ (by simp)]; rfl) | (rw [World.cell?_alloc_past _ _ _ (by simp <;> omega), World.cell?_alloc_past _ _ _ (by simp <;> omega), World.cell?_alloc_at _ _ _ _ (by simp)]; rfl)
          have tt3 : (wr.alloc (.cells #[.int .i64 tg, .int .i64 tp, .int .i64 tm, .bool false, .int .i64 tgr] 47)).cell? ⟨wr.heap.size, 3, none⟩ = some (.bool false) := by first | (simp; done) | (rw [World.cell?_alloc_at _ _ _ _ (by simp)]; rfl) | (rw [World.cell?_alloc_past _ _ _ (by simp <;> omega), World.cell?_alloc_at _ _ _ _ (by simp)]; rfl) | (rw [World.cell?_alloc_past _ _ _ (by simp <;> omega), World.cell?_alloc_past _ _ _ (by simp <;> omega), World.cell?_alloc_at _ _ _ _ (by simp)]; rfl)
          have tt4 : (wr.alloc (.cells #[.int .i64 tg, .int .i64 tp, .int .i64 tm, .bool false, .int .i64 tgr] 47)).cell? ⟨wr.heap.size, 4, none⟩ = some (.int .i64 tgr) := by first | (simp; done) | (rw [World.cell?_alloc_at _ _ _ _ (by simp)]; rfl) | (rw [World.cell?_alloc_past _ _ _ (by simp <;> omega), World.cell?_alloc_at _ _ _ _ (by simp)]; rfl) | (rw [World.cell?_alloc_past _ _ _ (by simp <;> omega), World.cell?_alloc_past _ _ _ (by simp <;> omega), World.cell?_alloc_at _ _ _ _ (by simp)]; rfl)
          have hb2 := (by repeat (first | exact hbel | refine belAlloc ?_ _ | refine belDrew ?_ | refine belSet ?_ _ _ (by simp)) : Below wr.heap.size wr (wr.alloc (.cells #[.int .i64 tg, .int .i64 tp, .int .i64 tm, .bool false, .int .i64 tgr] 47)))
          replace s0 := keepOnP s0 hb2
          replace hcl := keepOnP hcl hb2
          replace hw := belStep hw hb2
          clear hb2 hbel
          generalize wr.alloc (.cells #[.int .i64 tg, .int .i64 tp, .int .i64 tm, .bool false, .int .i64 tgr] 47) = W3 at *
          replace tt0 := keep tt0
          replace tt1 := keep tt1
          replace tt2 := keep tt2
          replace tt3 := keep tt3
          replace tt4 := keep tt4
          have hbel : Below W3.heap.size W3 W3 := Below.refl _ _
          skip
          go_upto_region 7 with fail
          have kk := fun d os => belStep hbel (below_regrown _ d os)
          refine wp_region_quiet_below (by kernel_rfl) (by kernel_rfl) ?_
          repeat ((with_reducible refine wpQuiet_step (fun K hK => ?_)); go_simp; (try (rw [if_neg]; rotate_left; · decide)); first | ((with_reducible refine hK _ ?_); clear hK K) | (apply Exists.intro; refine ⟨fun _ => ?_, hK _ ?_⟩; (fail); clear hK K))
          refine wpQuiet_nil (fun w1 hw1 => ?_)
          replace hbel := belStep hbel (bel_of_class hw1)
          clear hw1 kk
          have hwB : Below wr.heap.size wr w1 := belStep hw hbel
          have HO3 := Lib.hid (HO.out.later hwB)
          replace hbel := belStep HB.out hwB
          go_wp2_with (first | (at_builtin; refine wpList_app_g (f := Value.bool) rfl _ _ 33 rfl W1.heap.size 4 (.bool false) 1 Try.underlying33 info_bool rfl _ _ rfl (HO3.out.alloc (.cells #[.bool true] 4)) _ _ rfl (by simp; rfl) rfl (by rw [hlk.out]; unfold maxLen; omega) (by rw [hlk.out]; omega) (by have := hbel.size; simp; omega) ?_; intro v4 w4 ho4 hb4; have HB4 := Lib.hid ((hbel.alloc hbel.size (.cells #[.bool true] 4) : Below W1.heap.size W1 _).trans hb4); have HO4 := Lib.hid ho4; clear ho4 hb4))
          go_roundw
          case rel => exact ⟨k + 1, by omega, by push_cast; rfl, by rw [List.take_add_one, HU.out]; exact HO4.out, HB4.out⟩
          case measure => simp [intOf] <;> omega
    · obtain rfl : k = c.tl := by omega
      have hki : ¬ (c.tl : Int) < (c.tl : Int) := by omega
      go_wp2
      go_ret
      refine ⟨_, rfl, ?_, HW.out.trans (HB.out.mono HSZ.out)⟩
      have := HO.out
      rw [List.take_of_length_le (by rw [HXL.out]; exact Nat.le_refl _)] at this
      exact this.mono HSZ.out
end Go.Proofs.Ytbancemkajgljaa
