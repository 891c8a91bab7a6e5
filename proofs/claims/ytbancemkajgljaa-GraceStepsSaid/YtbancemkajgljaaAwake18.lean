/- The fixed answers of layer 18's statements. -/
import Derived.Test.YtbancemkajgljaaGr10
namespace Go.Proofs.Ytbancemkajgljaa
open Go.RowKit
set_option linter.unusedVariables false
set_option linter.unusedSimpArgs false

def tS0 : ThrV := ⟨0, 10, 0, false, 0⟩
def tS1 : ThrV := ⟨1, 0, 20, true, 2⟩
def cS (g : Nat) : CfgV := ⟨100, 50, 10, 9, 9, 9, some ⟨g, 0, none⟩, 2, 2, 1, 0, 1, 0, [tS0, tS1]⟩
theorem good_S (g : Nat) (w : World) (hb : Blk w g [.int .i64 0, .int .i64 10, .int .i64 0, .bool false, .int .i64 0, .int .i64 1, .int .i64 0, .int .i64 20, .bool true, .int .i64 2] 47) : Good (cS g) w := by
  refine ⟨⟨?_, ?_, ?_, rfl, ?_, ?_⟩, by show 2 ≤ 12; omega, ?_⟩
  · show InI 100 ∧ InI 50 ∧ InI 10; unfold InI; omega
  · show InI 9 ∧ InI 9 ∧ InI 9; unfold InI; omega
  · show InI 1 ∧ InI 0 ∧ InI 1 ∧ InI 0; unfold InI; omega
  · refine ⟨rfl, by show 2 ≤ 2; omega, by show 2 ≤ maxLen; unfold maxLen; omega, (fun h => by cases h), .inr ⟨g, 0, rfl, fun i hi => ?_⟩⟩
    have hi' : i < 10 := hi
    rcases (show i = 0 ∨ i = 1 ∨ i = 2 ∨ i = 3 ∨ i = 4 ∨ i = 5 ∨ i = 6 ∨ i = 7 ∨ i = 8 ∨ i = 9 by omega) with rfl | rfl | rfl | rfl | rfl | rfl | rfl | rfl | rfl | rfl <;> exact hb.cell rfl
  · intro t ht
    have : t = tS0 ∨ t = tS1 := by simpa [cS] using ht
    rcases this with rfl | rfl
    · unfold ThrV.ok tS0 InI; dsimp only; omega
    · unfold ThrV.ok tS1 InI; dsimp only; omega
  · intro t ht
    have : t = tS0 ∨ t = tS1 := by simpa [cS] using ht
    rcases this with rfl | rfl <;> decide
theorem ints_ownG {w : World} {B : Nat} {e : TypeId} {k : IntKind} {a : Option Addr} {n cap : Nat} {l : List Int} (h : OwnG (Value.int k) w B e (.slice a n cap) l) (hw : ∀ x ∈ l, (Lit.int k x).wf = true) : Ints k w a n cap l := by
  obtain ⟨a', cap', e1, h1⟩ := h.row
  simp at e1
  obtain ⟨rfl, rfl, rfl⟩ := e1
  exact ⟨h1, hw⟩
theorem bools_ownG {w : World} {B : Nat} {e : TypeId} {a : Option Addr} {n cap : Nat} {l : List Bool} (h : OwnG Value.bool w B e (.slice a n cap) l) : Bools w a n cap l := by
  obtain ⟨a', cap', e1, h1⟩ := h.row
  simp at e1
  obtain ⟨rfl, rfl, rfl⟩ := e1
  exact h1
theorem eq3_bool (a b c d e f : Bool) (v : World) : (Op.equalIn 10000 38 (.agg #[.bool a, .bool b, .bool c]) (.agg #[.bool d, .bool e, .bool f])).run Try.prog v = .ok (a == d && (b == e && c == f)) v := by
  rw [Op.equalIn]
  simp [run_underlying Try.underlying38, go_sem]
  rw [show List.range' 0 3 = [0, 1, 2] from rfl]
  cases a <;> cases b <;> cases c <;> cases d <;> cases e <;> cases f <;> simp [List.forIn_cons, go_sem]
set_option maxRecDepth 100000 in
set_option maxHeartbeats 8000000 in
theorem some_ret (w W : World) (M g : Nat) (tm : Array Value) (R : Ending → World → Prop) (h2 : tm.getD 0 undef = .pointer (some ⟨M, 0, none⟩)) (hb : Blk W M [.int .i64 100, .int .i64 50, .int .i64 10, .int .i64 9, .int .i64 9, .int .i64 9, .slice (some ⟨g, 0, none⟩) 2 2, .int .i64 1, .int .i64 0, .int .i64 1, .int .i64 0] 25) (hR : R (.returned (.agg #[.int .i64 100, .int .i64 50, .int .i64 10, .int .i64 9, .int .i64 9, .int .i64 9, .slice (some ⟨g, 0, none⟩) 2 2, .int .i64 1, .int .i64 0, .int .i64 1, .int .i64 0])) W) :
    bodyPost Try.prog Try.f28 R Exit.ret { tmps := tm, defers := [] } W := by
  have z0 := hb.cell (j := 0) rfl
  have z1 := hb.cell (j := 1) rfl
  have z2 := hb.cell (j := 2) rfl
  have z3 := hb.cell (j := 3) rfl
  have z4 := hb.cell (j := 4) rfl
  have z5 := hb.cell (j := 5) rfl
  have z6 := hb.cell (j := 6) rfl
  have z7 := hb.cell (j := 7) rfl
  have z8 := hb.cell (j := 8) rfl
  have z9 := hb.cell (j := 9) rfl
  have z10 := hb.cell (j := 10) rfl
  refine bodyPost_ret (v := .agg #[.int .i64 100, .int .i64 50, .int .i64 10, .int .i64 9, .int .i64 9, .int .i64 9, .slice (some ⟨g, 0, none⟩) 2 2, .int .i64 1, .int .i64 0, .int .i64 1, .int .i64 0]) ?_ rfl hR
  simp only [Array.getD_eq_getD_getElem?] at h2
  simp [results, Try.results28, go_sem, h2, z0, z1, z2, z3, z4, z5, z6, z7, z8, z9, z10]
set_option maxRecDepth 100000 in
set_option maxHeartbeats 8000000 in
theorem law_some (w : World) : Calls Try.prog 28 #[] w fun e w' => ∃ g, e = .returned (.agg #[.int .i64 100, .int .i64 50, .int .i64 10, .int .i64 9, .int .i64 9, .int .i64 9, .slice (some ⟨g, 0, none⟩) 2 2, .int .i64 1, .int .i64 0, .int .i64 1, .int .i64 0]) ∧ Good (cS g) w' ∧ Below w.heap.size w w' := by
  go_enter Try.func28, Try.ntmps28
  go_wp2
  exact some_ret w _ w.heap.size (w.heap.size + 1) _ _ rfl ((Blk.new w [.int .i64 100, .int .i64 50, .int .i64 10, .int .i64 9, .int .i64 9, .int .i64 9, .slice (some ⟨w.heap.size + 1, 0, none⟩) 2 2, .int .i64 1, .int .i64 0, .int .i64 1, .int .i64 0]  25).later (belAlloc (Below.refl _ _) (.cells #[.int .i64 0, .int .i64 10, .int .i64 0, .bool false, .int .i64 0, .int .i64 1, .int .i64 0, .int .i64 20, .bool true, .int .i64 2] 47))) ⟨_, rfl, good_S _ _ (Blk.at (by simp)), belAlloc (belAlloc (Below.refl _ _) _) _⟩
set_option maxRecDepth 100000 in
set_option maxHeartbeats 8000000 in
theorem awake18 (w : World) : Calls Try.prog 9 #[] w fun e w' => e = .returned (.bool true) ∧ Below w.heap.size w w' := by
  have hw : Below w.heap.size w w := Below.refl _ _
  have hbel := hw
  go_enter Try.func9, Try.ntmps9
  go_upto_region 2 with (first | (go_at_call 28; (with_reducible refine (law_some _).mono ?_); rintro e w2 ⟨g, rfl, hG, hb2⟩; replace hbel := belStep hbel hb2; have HG := Lib.hid hG; clear hb2 hG))
  replace hw := belStep hw hbel
  clear hbel
  generalize w2 = W0 at *
  have hbel : Below W0.heap.size W0 W0 := Below.refl _ _
  have hg : ∀ u, Below W0.heap.size W0 u → Good (cS g) u := fun u hu => HG.out.later hu
  clear HG
  have cc0 : (W0.alloc (.cells #[.int .i64 100, .int .i64 50, .int .i64 10, .int .i64 9, .int .i64 9, .int .i64 9, .slice (some ⟨g, 0, none⟩) 2 2, .int .i64 1, .int .i64 0, .int .i64 1, .int .i64 0] 25)).cell? ⟨W0.heap.size, 0, none⟩ = some (.int .i64 100) := by first | (simp; done) | (rw [World.cell?_alloc_at _ _ _ _ (by simp)]; rfl) | (rw [World.cell?_alloc_past _ _ _ (by simp <;> omega), World.cell?_alloc_at _ _ _ _ (by simp)]; rfl) | (rw [World.cell?_alloc_past _ _ _ (by simp <;> omega), World.cell?_alloc_past _ _ _ (by simp <;> omega), World.cell?_alloc_at _ _ _ _ (by simp)]; rfl)
  have cc1 : (W0.alloc (.cells #[.int .i64 100, .int .i64 50, .int .i64 10, .int .i64 9, .int .i64 9, .int .i64 9, .slice (some ⟨g, 0, none⟩) 2 2, .int .i64 1, .int .i64 0, .int .i64 1, .int .i64 0] 25)).cell? ⟨W0.heap.size, 1, none⟩ = some (.int .i64 50) := by first | (simp; done) | (rw [World.cell?_alloc_at _ _ _ _ (by simp)]; rfl) | (rw [World.cell?_alloc_past _ _ _ (by simp <;> omega), World.cell?_alloc_at _ _ _ _ (by simp)]; rfl) | (rw [World.cell?_alloc_past _ _ _ (by simp <;> omega), World.cell?_alloc_past _ _ _ (by simp <;> omega), World.cell?_alloc_at _ _ _ _ (by simp)]; rfl)
  have cc2 : (W0.alloc (.cells #[.int .i64 100, .int .i64 50, .int .i64 10, .int .i64 9, .int .i64 9, .int .i64 9, .slice (some ⟨g, 0, none⟩) 2 2, .int .i64 1, .int .i64 0, .int .i64 1, .int .i64 0] 25)).cell? ⟨W0.heap.size, 2, none⟩ = some (.int .i64 10) := by first | (simp; done) | (rw [World.cell?_alloc_at _ _ _ _ (by simp)]; rfl) | (rw [World.cell?_alloc_past _ _ _ (by simp <;> omega), World.cell?_alloc_at _ _ _ _ (by simp)]; rfl) | (rw [World.cell?_alloc_past _ _ _ (by simp <;> omega), World.cell?_alloc_past _ _ _ (by simp <;> omega), World.cell?_alloc_at _ _ _ _ (by simp)]; rfl)
  have cc3 : (W0.alloc (.cells #[.int .i64 100, .int .i64 50, .int .i64 10, .int .i64 9, .int .i64 9, .int .i64 9, .slice (some ⟨g, 0, none⟩) 2 2, .int .i64 1, .int .i64 0, .int .i64 1, .int .i64 0] 25)).cell? ⟨W0.heap.size, 3, none⟩ = some (.int .i64 9) := by first | (simp; done) | (rw [World.cell?_alloc_at _ _ _ _ (by simp)]; rfl) | (rw [World.cell?_alloc_past _ _ _ (by simp <;> omega), World.cell?_alloc_at _ _ _ _ (by simp)]; rfl) | (rw [World.cell?_alloc_past _ _ _ (by simp <;> omega), World.cell?_alloc_past _ _ _ (by simp <;> omega), World.cell?_alloc_at _ _ _ _ (by simp)]; rfl)
  have cc4 : (W0.alloc (.cells #[.int .i64 100, .int .i64 50, .int .i64 10, .int .i64 9, .int .i64 9, .int .i64 9, .slice (some ⟨g, 0, none⟩) 2 2, .int .i64 1, .int .i64 0, .int .i64 1, .int .i64 0] 25)).cell? ⟨W0.heap.size, 4, none⟩ = some (.int .i64 9) := by first | (simp; done) | (rw [World.cell?_alloc_at _ _ _ _ (by simp)]; rfl) | (rw [World.cell?_alloc_past _ _ _ (by simp <;> omega), World.cell?_alloc_at _ _ _ _ (by simp)]; rfl) | (rw [World.cell?_alloc_past _ _ _ (by simp <;> omega), World.cell?_alloc_past _ _ _ (by simp <;> omega), World.cell?_alloc_at _ _ _ _ (by simp)]; rfl)
  have cc5 : (W0.alloc (.cells #[.int .i64 100, .int .i64 50, .int .i64 10, .int .i64 9, .int .i64 9, .int .i64 9, .slice (some ⟨g, 0, none⟩) 2 2, .int .i64 1, .int .i64 0, .int .i64 1, .int .i64 0] 25)).cell? ⟨W0.heap.size, 5, none⟩ = some (.int .i64 9) := by first | (simp; done) | (rw [World.cell?_alloc_at _ _ _ _ (by simp)]; rfl) | (rw [World.cell?_alloc_past _ _ _ (by simp <;> omega), World.cell?_alloc_at _ _ _ _ (by simp)]; rfl) | (rw [World.cell?_alloc_past _ _ _ (by simp <;> omega), World.cell?_alloc_past _ _ _ (by simp <;> omega), World.cell?_alloc_at _ _ _ _ (by simp)]; rfl)
  have cc6 : (W0.alloc (.cells #[.int .i64 100, .int .i64 50, .int .i64 10, .int .i64 9, .int .i64 9, .int .i64 9, .slice (some ⟨g, 0, none⟩) 2 2, .int .i64 1, .int .i64 0, .int .i64 1, .int .i64 0] 25)).cell? ⟨W0.heap.size, 6, none⟩ = some (.slice (some ⟨g, 0, none⟩) 2 2) := by first | (simp; done) | (rw [World.cell?_alloc_at _ _ _ _ (by simp)]; rfl) | (rw [World.cell?_alloc_past _ _ _ (by simp <;> omega), World.cell?_alloc_at _ _ _ _ (by simp)]; rfl) | (rw [World.cell?_alloc_past _ _ _ (by simp <;> omega), World.cell?_alloc_past _ _ _ (by simp <;> omega), World.cell?_alloc_at _ _ _ _ (by simp)]; rfl)
  have cc7 : (W0.alloc (.cells #[.int .i64 100, .int .i64 50, .int .i64 10, .int .i64 9, .int .i64 9, .int .i64 9, .slice (some ⟨g, 0, none⟩) 2 2, .int .i64 1, .int .i64 0, .int .i64 1, .int .i64 0] 25)).cell? ⟨W0.heap.size, 7, none⟩ = some (.int .i64 1) := by first | (simp; done) | (rw [World.cell?_alloc_at _ _ _ _ (by simp)]; rfl) | (rw [World.cell?_alloc_past _ _ _ (by simp <;> omega), World.cell?_alloc_at _ _ _ _ (by simp)]; rfl) | (rw [World.cell?_alloc_past _ _ _ (by simp <;> omega), World.cell?_alloc_past _ _ _ (by simp <;> omega), World.cell?_alloc_at _ _ _ _ (by simp)]; rfl)
  have cc8 : (W0.alloc (.cells #[.int .i64 100, .int .i64 50, .int .i64 10, .int .i64 9, .int .i64 9, .int .i64 9, .slice (some ⟨g, 0, none⟩) 2 2, .int .i64 1, .int .i64 0, .int .i64 1, .int .i64 0] 25)).cell? ⟨W0.heap.size, 8, none⟩ = some (.int .i64 0) := by first | (simp; done) | (rw [World.cell?_alloc_at _ _ _ _ (by simp)]; rfl) | (rw [World.cell?_alloc_past _ _ _ (by simp <;> omega), World.cell?_alloc_at _ _ _ _ (by simp)]; rfl) | (rw [World.cell?_alloc_past _ _ _ (by simp <;> omega), World.cell?_alloc_past _ _ _ (by simp <;> omega), World.cell?_alloc_at _ _ _ _ (by simp)]; rfl)
  have cc9 : (W0.alloc (.cells #[.int .i64 100, .int .i64 50, .int .i64 10, .int .i64 9, .int .i64 9, .int .i64 9, .slice (some ⟨g, 0, none⟩) 2 2, .int .i64 1, .int .i64 0, .int .i64 1, .int .i64 0] 25)).cell? ⟨W0.heap.size, 9, none⟩ = some (.int .i64 1) := by first | (simp; done) | (rw [World.cell?_alloc_at _ _ _ _ (by simp)]; rfl) | (rw [World.cell?_alloc_past _ _ _ (by simp <;> omega), World.cell?_alloc_at _ _ _ _ (by simp)]; rfl) | (rw [World.cell?_alloc_past _ _ _ (by simp <;> omega), World.cell?_alloc_past _ _ _ (by simp <;> omega), World.cell?_alloc_at _ _ _ _ (by simp)]; rfl)
  have cc10 : (W0.alloc (.cells #[.int .i64 100, .int .i64 50, .int .i64 10, .int .i64 9, .int .i64 9, .int .i64 9, .slice (some ⟨g, 0, none⟩) 2 2, .int .i64 1, .int .i64 0, .int .i64 1, .int .i64 0] 25)).cell? ⟨W0.heap.size, 10, none⟩ = some (.int .i64 0) := by first | (simp; done) | (rw [World.cell?_alloc_at _ _ _ _ (by simp)]; rfl) | (rw [World.cell?_alloc_past _ _ _ (by simp <;> omega), World.cell?_alloc_at _ _ _ _ (by simp)]; rfl) | (rw [World.cell?_alloc_past _ _ _ (by simp <;> omega), World.cell?_alloc_past _ _ _ (by simp <;> omega), World.cell?_alloc_at _ _ _ _ (by simp)]; rfl)
  have hb2 := (by repeat (first | exact hbel | refine belAlloc ?_ _ | refine belDrew ?_ | refine belSet ?_ _ _ (by simp)) : Below W0.heap.size W0 (W0.alloc (.cells #[.int .i64 100, .int .i64 50, .int .i64 10, .int .i64 9, .int .i64 9, .int .i64 9, .slice (some ⟨g, 0, none⟩) 2 2, .int .i64 1, .int .i64 0, .int .i64 1, .int .i64 0] 25)))
  replace hg := keepOnP hg hb2
  replace hw := belStep hw hb2
  clear hb2 hbel
  generalize W0.alloc (.cells #[.int .i64 100, .int .i64 50, .int .i64 10, .int .i64 9, .int .i64 9, .int .i64 9, .slice (some ⟨g, 0, none⟩) 2 2, .int .i64 1, .int .i64 0, .int .i64 1, .int .i64 0] 25) = W1 at *
  replace cc0 := keep cc0
  replace cc1 := keep cc1
  replace cc2 := keep cc2
  replace cc3 := keep cc3
  replace cc4 := keep cc4
  replace cc5 := keep cc5
  replace cc6 := keep cc6
  replace cc7 := keep cc7
  replace cc8 := keep cc8
  replace cc9 := keep cc9
  replace cc10 := keep cc10
  have hbel : Below W1.heap.size W1 W1 := Below.refl _ _
  skip
  have HG := Lib.hid hg
  have HW := Lib.hid hw
  clear hg hw
  have B1 := Lib.hid (show ∀ u, Below W1.heap.size W1 u → Calls Try.prog 13 #[.agg #[.int .i64 100, .int .i64 50, .int .i64 10, .int .i64 9, .int .i64 9, .int .i64 9, .slice (some ⟨g, 0, none⟩) 2 2, .int .i64 1, .int .i64 0, .int .i64 1, .int .i64 0]] u fun e w' => ∃ q, e = .returned (.slice (some ⟨q, 0, none⟩) 2 2) ∧ OwnG (Value.int .i64) w' u.heap.size 3 (.slice (some ⟨q, 0, none⟩) 2 2) [-1, -1] ∧ u.heap.size ≤ q ∧ Below u.heap.size u w' from fun u hu => gr_Begin (cS g) u (HG.out u hu))
  have S1 := Lib.hid (show ∀ u q, Below W1.heap.size W1 u → Ints .i64 u (some ⟨q, 0, none⟩) 2 2 [-1, -1] → Calls Try.prog 11 #[.agg #[.int .i64 100, .int .i64 50, .int .i64 10, .int .i64 9, .int .i64 9, .int .i64 9, .slice (some ⟨g, 0, none⟩) 2 2, .int .i64 1, .int .i64 0, .int .i64 1, .int .i64 0], .slice (some ⟨q, 0, none⟩) 2 2, .agg #[.int .i64 9, .int .i64 19, .int .i64 9], .int .i64 5] u fun e w' => ∃ q, e = .returned (.slice (some ⟨q, 0, none⟩) 2 2) ∧ OwnG (Value.int .i64) w' u.heap.size 3 (.slice (some ⟨q, 0, none⟩) 2 2) [5, 5] ∧ u.heap.size ≤ q ∧ Below u.heap.size u w' from fun u q hu hi => gr_Step (cS g) (some ⟨q, 0, none⟩) 2 [-1, -1] 9 19 9 5 u (HG.out u hu) (by unfold InI; omega) hi)
  have bd55 : ∀ k, k < 2 → -1 ≤ el [5, 5] k ∧ el [5, 5] k ≤ 4611686018427387904 := fun k hk => by
    rcases (show k = 0 ∨ k = 1 by omega) with rfl | rfl <;> decide
  have BD := Lib.hid bd55
  clear bd55
  have D5 := Lib.hid (show ∀ u q, Below W1.heap.size W1 u → Ints .i64 u (some ⟨q, 0, none⟩) 2 2 [5, 5] → Calls Try.prog 19 #[.agg #[.int .i64 100, .int .i64 50, .int .i64 10, .int .i64 9, .int .i64 9, .int .i64 9, .slice (some ⟨g, 0, none⟩) 2 2, .int .i64 1, .int .i64 0, .int .i64 1, .int .i64 0], .slice (some ⟨q, 0, none⟩) 2 2, .int .i64 5] u fun e w' => ∃ q, e = .returned (.slice (some ⟨q, 0, none⟩) 2 2) ∧ OwnG Value.bool w' u.heap.size 4 (.slice (some ⟨q, 0, none⟩) 2 2) [true, false] ∧ u.heap.size ≤ q ∧ Below u.heap.size u w' from fun u q hu hi => gr_Hold (cS g) (some ⟨q, 0, none⟩) 2 [5, 5] 5 u (HG.out u hu) hi (by omega) BD.out)
  have D7 := Lib.hid (show ∀ u q, Below W1.heap.size W1 u → Ints .i64 u (some ⟨q, 0, none⟩) 2 2 [5, 5] → Calls Try.prog 19 #[.agg #[.int .i64 100, .int .i64 50, .int .i64 10, .int .i64 9, .int .i64 9, .int .i64 9, .slice (some ⟨g, 0, none⟩) 2 2, .int .i64 1, .int .i64 0, .int .i64 1, .int .i64 0], .slice (some ⟨q, 0, none⟩) 2 2, .int .i64 7] u fun e w' => ∃ q, e = .returned (.slice (some ⟨q, 0, none⟩) 2 2) ∧ OwnG Value.bool w' u.heap.size 4 (.slice (some ⟨q, 0, none⟩) 2 2) [true, true] ∧ u.heap.size ≤ q ∧ Below u.heap.size u w' from fun u q hu hi => gr_Hold (cS g) (some ⟨q, 0, none⟩) 2 [5, 5] 7 u (HG.out u hu) hi (by omega) BD.out)
  have M1 := Lib.hid (show ∀ u, Below W1.heap.size W1 u → Calls Try.prog 16 #[.agg #[.int .i64 100, .int .i64 50, .int .i64 10, .int .i64 9, .int .i64 9, .int .i64 9, .slice (some ⟨g, 0, none⟩) 2 2, .int .i64 1, .int .i64 0, .int .i64 1, .int .i64 0], .agg #[.int .i64 10, .int .i64 19, .int .i64 9]] u fun e w' => ∃ q, e = .returned (.slice (some ⟨q, 0, none⟩) 2 2) ∧ OwnG Value.bool w' u.heap.size 4 (.slice (some ⟨q, 0, none⟩) 2 2) [false, true] ∧ u.heap.size ≤ q ∧ Below u.heap.size u w' from fun u hu => gr_Met (cS g) 10 19 9 u (HG.out u hu) (by unfold InI; omega))
  have Q1 := Lib.hid (show ∀ u q, Below W1.heap.size W1 u → Bools u (some ⟨q, 0, none⟩) 2 2 [true, false] → Calls Try.prog 22 #[.agg #[.int .i64 100, .int .i64 50, .int .i64 10, .int .i64 9, .int .i64 9, .int .i64 9, .slice (some ⟨g, 0, none⟩) 2 2, .int .i64 1, .int .i64 0, .int .i64 1, .int .i64 0], .slice (some ⟨q, 0, none⟩) 2 2] u fun e w' => e = .returned (.agg #[.bool true, .bool false, .bool false]) ∧ Below u.heap.size u w' from fun u q hu hi => gr_Signals (cS g) (some ⟨q, 0, none⟩) 2 [true, false] u (HG.out u hu) hi)
  have E1 := Lib.hid (show ∀ u q, Below W1.heap.size W1 u → Bools u (some ⟨q, 0, none⟩) 2 2 [true, true] → Calls Try.prog 24 #[.agg #[.int .i64 100, .int .i64 50, .int .i64 10, .int .i64 9, .int .i64 9, .int .i64 9, .slice (some ⟨g, 0, none⟩) 2 2, .int .i64 1, .int .i64 0, .int .i64 1, .int .i64 0], .slice (some ⟨q, 0, none⟩) 2 2, .int .i64 1] u fun e w' => e = .returned (.int .i64 20) ∧ Below u.heap.size u w' from fun u q hu hi => gr_Edge (cS g) (some ⟨q, 0, none⟩) 2 [true, true] 1 u (HG.out u hu) hi (by omega) (by show (1 : Int) ≤ 100 ∧ (1 : Int) ≤ 50 ∧ (1 : Int) ≤ 10; omega))
  have E0 := Lib.hid (show ∀ u q, Below W1.heap.size W1 u → Bools u (some ⟨q, 0, none⟩) 2 2 [true, true] → Calls Try.prog 24 #[.agg #[.int .i64 100, .int .i64 50, .int .i64 10, .int .i64 9, .int .i64 9, .int .i64 9, .slice (some ⟨g, 0, none⟩) 2 2, .int .i64 1, .int .i64 0, .int .i64 1, .int .i64 0], .slice (some ⟨q, 0, none⟩) 2 2, .int .i64 0] u fun e w' => e = .returned (.int .i64 10) ∧ Below u.heap.size u w' from fun u q hu hi => gr_Edge (cS g) (some ⟨q, 0, none⟩) 2 [true, true] 0 u (HG.out u hu) hi (by omega) (by show (1 : Int) ≤ 100 ∧ (1 : Int) ≤ 50 ∧ (1 : Int) ≤ 10; omega))
  have WF1 : ∀ x ∈ [(-1 : Int), -1], (Lit.int .i64 x).wf = true := by decide
  have WF5 : ∀ x ∈ [(5 : Int), 5], (Lit.int .i64 x).wf = true := by decide
  have HF1 := Lib.hid WF1
  have HF5 := Lib.hid WF5
  have H3 := eq3_bool true false false true false false
  clear WF1 WF5 HG
  go_wp2_with (first
    | (go_at_call 13; (with_reducible refine (B1.out _ hbel).mono ?_); rintro e w3 ⟨q3, rfl, ho3, hq3, hb3⟩; have p30 := ho3.cellAt rfl (i := 0) rfl; have p31 := ho3.cellAt rfl (i := 1) rfl; have I3 := Lib.hid (ints_ownG ho3 HF1.out); replace hbel := belStep hbel hb3; have W3 := Lib.hid (Below.refl w3.heap.size w3); clear ho3 hq3 hb3)
    | (go_at_call 11; (with_reducible refine (S1.out _ _ hbel I3.out).mono ?_); rintro e w4 ⟨q4, rfl, ho4, hq4, hb4⟩; have p40 := ho4.cellAt rfl (i := 0) rfl; have p41 := ho4.cellAt rfl (i := 1) rfl; have I4 := Lib.hid (ints_ownG ho4 HF5.out); have W4 := Lib.hid hb4; replace p30 := cell_later hb4 p30; replace p31 := cell_later hb4 p31; replace hbel := belStep hbel hb4; clear ho4 hq4 hb4)
    | (go_at_call 19; (with_reducible refine (D5.out _ _ hbel I4.out).mono ?_); rintro e w5 ⟨q5, rfl, ho5, hq5, hb5⟩; have p50 := ho5.cellAt rfl (i := 0) rfl; have p51 := ho5.cellAt rfl (i := 1) rfl; have I5 := Lib.hid (bools_ownG ho5); replace I4 := Lib.hid (I4.out.later hb5); replace p30 := cell_later hb5 p30; replace p31 := cell_later hb5 p31; replace p40 := cell_later hb5 p40; replace p41 := cell_later hb5 p41; replace hbel := belStep hbel hb5; clear ho5 hq5 hb5)
    | (go_at_call 19; (with_reducible refine (D7.out _ _ hbel I4.out).mono ?_); rintro e w6 ⟨q6, rfl, ho6, hq6, hb6⟩; have p60 := ho6.cellAt rfl (i := 0) rfl; have p61 := ho6.cellAt rfl (i := 1) rfl; have I6 := Lib.hid (bools_ownG ho6); replace I5 := Lib.hid (Bools.later I5.out hb6); replace p30 := cell_later hb6 p30; replace p31 := cell_later hb6 p31; replace p40 := cell_later hb6 p40; replace p41 := cell_later hb6 p41; replace p50 := cell_later hb6 p50; replace p51 := cell_later hb6 p51; replace hbel := belStep hbel hb6; clear ho6 hq6 hb6)
    | (go_at_call 16; (with_reducible refine (M1.out _ hbel).mono ?_); rintro e w7 ⟨q7, rfl, ho7, hq7, hb7⟩; have p70 := keep (ho7.cellAt rfl (i := 0) rfl); have p71 := keep (ho7.cellAt rfl (i := 1) rfl); replace I5 := Lib.hid (Bools.later I5.out hb7); replace I6 := Lib.hid (Bools.later I6.out hb7); replace p30 := keep (cell_later hb7 p30); replace p31 := keep (cell_later hb7 p31); replace p40 := keep (cell_later hb7 p40); replace p41 := keep (cell_later hb7 p41); replace p50 := keep (cell_later hb7 p50); replace p51 := keep (cell_later hb7 p51); replace p60 := keep (cell_later hb7 p60); replace p61 := keep (cell_later hb7 p61); replace hbel := belStep hbel hb7; have hbel2 := Below.refl w7.heap.size w7; clear ho7 hq7 hb7)
    | (go_at_call 22; (with_reducible refine (Q1.out _ _ hbel (Bools.later I5.out hbel2)).mono ?_); rintro e w8 ⟨rfl, hb8⟩; replace hbel := belStep hbel hb8; replace hbel2 := belStep hbel2 hb8; clear hb8)
    | (go_at_call 24; (with_reducible refine (E1.out _ _ hbel (Bools.later I6.out hbel2)).mono ?_); rintro e w9 ⟨rfl, hb9⟩; replace hbel := belStep hbel hb9; replace hbel2 := belStep hbel2 hb9; clear hb9)
    | (go_at_call 24; (with_reducible refine (E0.out _ _ hbel (Bools.later I6.out hbel2)).mono ?_); rintro e w10 ⟨rfl, hb10⟩; replace hbel := belStep hbel hb10; replace hbel2 := belStep hbel2 hb10; clear hb10))
  go_ret
  exact ⟨rfl, belStep HW.out hbel⟩
end Go.Proofs.Ytbancemkajgljaa
