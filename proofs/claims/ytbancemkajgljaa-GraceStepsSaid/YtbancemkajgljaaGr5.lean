/- bilgeref07.Right, bilgeref18.Fit: contracts. -/
import Derived.Test.YtbancemkajgljaaGr4
namespace Go.Proofs.Ytbancemkajgljaa
open Go.RowKit
set_option linter.unusedVariables false
set_option linter.unusedSimpArgs false

/-- A bool is answered, and where it is true, so is P. -/
def Tells (P : Prop) (e : Ending) : Prop := ∃ b, e = .returned (.bool b) ∧ (b = true → P)
theorem Tells.no {P : Prop} : Tells P (.returned (.bool false)) := ⟨false, rfl, fun h => by cases h⟩
theorem Tells.any {P : Prop} (h : P) (b : Bool) : Tells P (.returned (.bool b)) := ⟨b, rfl, fun _ => h⟩
/-- What Right tells of a config. -/
structure RightC (c : CfgV) : Prop where
  few : c.tl ≤ 12
  right : ∀ t ∈ c.L, t.right = true
  caps : 1 ≤ c.k0 ∧ 1 ≤ c.k1 ∧ 1 ≤ c.k2
theorem take_all {α : Type} {p : α → Prop} {L : List α} {n : Nat} (hn : L.length = n) (h : ∀ x ∈ L.take n, p x) : ∀ x ∈ L, p x := by
  rw [List.take_of_length_le (by omega)] at h; exact h
set_option maxRecDepth 100000 in
set_option maxHeartbeats 8000000 in
theorem ref7_Right (c : CfgV) (w : World) (hc : c.ok w) : Calls Try.prog 21 #[.agg #[.int .i64 c.k0, .int .i64 c.k1, .int .i64 c.k2, .int .i64 c.a0, .int .i64 c.a1, .int .i64 c.a2, .slice c.ta c.tl c.tc, .int .i64 c.per, .int .i64 c.ret, .int .i64 c.age, .int .i64 c.dead]] w fun e w' => Tells (RightC c) e ∧ Below w.heap.size w w' := by
  have hw : Below w.heap.size w w := Below.refl _ _
  have hbel := hw
  have HC := Lib.hid hc
  have hbd : c.tl ≤ c.tc ∧ c.tc ≤ 9223372036854775807 := by obtain ⟨_, h1, h2, _⟩ := hc.row; unfold maxLen at h2; exact ⟨h1, h2⟩
  obtain ⟨hbd1, hbd2⟩ := hbd
  clear hc
  go_enter Try.func21, Try.ntmps21
  go_upto_region 1 with fail
  have cc0 : (w.alloc (.cells #[.int .i64 c.k0, .int .i64 c.k1, .int .i64 c.k2, .int .i64 c.a0, .int .i64 c.a1, .int .i64 c.a2, .slice c.ta c.tl c.tc, .int .i64 c.per, .int .i64 c.ret, .int .i64 c.age, .int .i64 c.dead] 25)).cell? ⟨w.heap.size, 0, none⟩ = some (.int .i64 c.k0) := by first | (simp; done) | (rw [World.cell?_alloc_at _ _ _ _ (by simp)]; rfl) | (rw [World.cell?_alloc_past _ _ _ (by simp <;> omega), World.cell?_alloc_at _ _ _ _ (by simp)]; rfl) | (rw [World.cell?_alloc_past _ _ _ (by simp <;> omega), World.cell?_alloc_past _ _ _ (by simp <;> omega), World.cell?_alloc_at _ _ _ _ (by simp)]; rfl)
  have cc1 : (w.alloc (.cells #[.int .i64 c.k0, .int .i64 c.k1, .int .i64 c.k2, .int .i64 c.a0, .int .i64 c.a1, .int .i64 c.a2, .slice c.ta c.tl c.tc, .int .i64 c.per, .int .i64 c.ret, .int .i64 c.age, .int .i64 c.dead] 25)).cell? ⟨w.heap.size, 1, none⟩ = some (.int .i64 c.k1) := by first | (simp; done) | (rw [World.cell?_alloc_at _ _ _ _ (by simp)]; rfl) | (rw [World.cell?_alloc_past _ _ _ (by simp <;> omega), World.cell?_alloc_at _ _ _ _ (by simp)]; rfl) | (rw [World.cell?_alloc_past _ _ _ (by simp <;> omega), World.cell?_alloc_past _ _ _ (by simp <;> omega), World.cell?_alloc_at _ _ _ _ (by simp)]; rfl)
  have cc2 : (w.alloc (.cells #[.int .i64 c.k0, .int .i64 c.k1, .int .i64 c.k2, .int .i64 c.a0, .int .i64 c.a1, .int .i64 c.a2, .slice c.ta c.tl c.tc, .int .i64 c.per, .int .i64 c.ret, .int .i64 c.age, .int .i64 c.dead] 25)).cell? ⟨w.heap.size, 2, none⟩ = some (.int .i64 c.k2) := by first | (simp; done) | (rw [World.cell?_alloc_at _ _ _ _ (by simp)]; rfl) | (rw [World.cell?_alloc_past _ _ _ (by simp <;> omega), World.cell?_alloc_at _ _ _ _ (by simp)]; rfl) | (rw [World.cell?_alloc_past _ _ _ (by simp <;> omega), World.cell?_alloc_past _ _ _ (by simp <;> omega), World.cell?_alloc_at _ _ _ _ (by simp)]; rfl)
  have cc3 : (w.alloc (.cells #[.int .i64 c.k0, .int .i64 c.k1, .int .i64 c.k2, .int .i64 c.a0, .int .i64 c.a1, .int .i64 c.a2, .slice c.ta c.tl c.tc, .int .i64 c.per, .int .i64 c.ret, .int .i64 c.age, .int .i64 c.dead] 25)).cell? ⟨w.heap.size, 3, none⟩ = some (.int .i64 c.a0) := by first | (simp; done) | (rw [World.cell?_alloc_at _ _ _ _ (by simp)]; rfl) | (rw [World.cell?_alloc_past _ _ _ (by simp <;> omega), World.cell?_alloc_at _ _ _ _ (by simp)]; rfl) | (rw [World.cell?_alloc_past _ _ _ (by simp <;> omega), World.cell?_alloc_past _ _ _ (by simp <;> omega), World.cell?_alloc_at _ _ _ _ (by simp)]; rfl)
  have cc4 : (w.alloc (.cells #[.int .i64 c.k0, .int .i64 c.k1, .int .i64 c.k2, .int .i64 c.a0, .int .i64 c.a1, .int .i64 c.a2, .slice c.ta c.tl c.tc, .int .i64 c.per, .int .i64 c.ret, .int .i64 c.age, .int .i64 c.dead] 25)).cell? ⟨w.heap.size, 4, none⟩ = some (.int .i64 c.a1) := by first | (simp; done) | (rw [World.cell?_alloc_at _ _ _ _ (by simp)]; rfl) | (rw [World.cell?_alloc_past _ _ _ (by simp <;> omega), World.cell?_alloc_at _ _ _ _ (by simp)]; rfl) | (rw [World.cell?_alloc_past _ _ _ (by simp <;> omega), World.cell?_alloc_past _ _ _ (by simp <;> omega), World.cell?_alloc_at _ _ _ _ (by simp)]; rfl)
  have cc5 : (w.alloc (.cells #[.int .i64 c.k0, .int .i64 c.k1, .int .i64 c.k2, .int .i64 c.a0, .int .i64 c.a1, .int .i64 c.a2, .slice c.ta c.tl c.tc, .int .i64 c.per, .int .i64 c.ret, .int .i64 c.age, .int .i64 c.dead] 25)).cell? ⟨w.heap.size, 5, none⟩ = some (.int .i64 c.a2) := by first | (simp; done) | (rw [World.cell?_alloc_at _ _ _ _ (by simp)]; rfl) | (rw [World.cell?_alloc_past _ _ _ (by simp <;> omega), World.cell?_alloc_at _ _ _ _ (by simp)]; rfl) | (rw [World.cell?_alloc_past _ _ _ (by simp <;> omega), World.cell?_alloc_past _ _ _ (by simp <;> omega), World.cell?_alloc_at _ _ _ _ (by simp)]; rfl)
  have cc6 : (w.alloc (.cells #[.int .i64 c.k0, .int .i64 c.k1, .int .i64 c.k2, .int .i64 c.a0, .int .i64 c.a1, .int .i64 c.a2, .slice c.ta c.tl c.tc, .int .i64 c.per, .int .i64 c.ret, .int .i64 c.age, .int .i64 c.dead] 25)).cell? ⟨w.heap.size, 6, none⟩ = some (.slice c.ta c.tl c.tc) := by first | (simp; done) | (rw [World.cell?_alloc_at _ _ _ _ (by simp)]; rfl) | (rw [World.cell?_alloc_past _ _ _ (by simp <;> omega), World.cell?_alloc_at _ _ _ _ (by simp)]; rfl) | (rw [World.cell?_alloc_past _ _ _ (by simp <;> omega), World.cell?_alloc_past _ _ _ (by simp <;> omega), World.cell?_alloc_at _ _ _ _ (by simp)]; rfl)
  have cc7 : (w.alloc (.cells #[.int .i64 c.k0, .int .i64 c.k1, .int .i64 c.k2, .int .i64 c.a0, .int .i64 c.a1, .int .i64 c.a2, .slice c.ta c.tl c.tc, .int .i64 c.per, .int .i64 c.ret, .int .i64 c.age, .int .i64 c.dead] 25)).cell? ⟨w.heap.size, 7, none⟩ = some (.int .i64 c.per) := by first | (simp; done) | (rw [World.cell?_alloc_at _ _ _ _ (by simp)]; rfl) | (rw [World.cell?_alloc_past _ _ _ (by simp <;> omega), World.cell?_alloc_at _ _ _ _ (by simp)]; rfl) | (rw [World.cell?_alloc_past _ _ _ (by simp <;> omega), World.cell?_alloc_past _ _ _ (by simp <;> omega), World.cell?_alloc_at _ _ _ _ (by simp)]; rfl)
  have cc8 : (w.alloc (.cells #[.int .i64 c.k0, .int .i64 c.k1, .int .i64 c.k2, .int .i64 c.a0, .int .i64 c.a1, .int .i64 c.a2, .slice c.ta c.tl c.tc, .int .i64 c.per, .int .i64 c.ret, .int .i64 c.age, .int .i64 c.dead] 25)).cell? ⟨w.heap.size, 8, none⟩ = some (.int .i64 c.ret) := by first | (simp; done) | (rw [World.cell?_alloc_at _ _ _ _ (by simp)]; rfl) | (rw [World.cell?_alloc_past _ _ _ (by simp <;> omega), World.cell?_alloc_at _ _ _ _ (by simp)]; rfl) | (rw [World.cell?_alloc_past _ _ _ (by simp <;> omega), World.cell?_alloc_past _ _ _ (by simp <;> omega), World.cell?_alloc_at _ _ _ _ (by simp)]; rfl)
  have cc9 : (w.alloc (.cells #[.int .i64 c.k0, .int .i64 c.k1, .int .i64 c.k2, .int .i64 c.a0, .int .i64 c.a1, .int .i64 c.a2, .slice c.ta c.tl c.tc, .int .i64 c.per, .int .i64 c.ret, .int .i64 c.age, .int .i64 c.dead] 25)).cell? ⟨w.heap.size, 9, none⟩ = some (.int .i64 c.age) := by first | (simp; done) | (rw [World.cell?_alloc_at _ _ _ _ (by simp)]; rfl) | (rw [World.cell?_alloc_past _ _ _ (by simp <;> omega), World.cell?_alloc_at _ _ _ _ (by simp)]; rfl) | (rw [World.cell?_alloc_past _ _ _ (by simp <;> omega), World.cell?_alloc_past _ _ _ (by simp <;> omega), World.cell?_alloc_at _ _ _ _ (by simp)]; rfl)
  have cc10 : (w.alloc (.cells #[.int .i64 c.k0, .int .i64 c.k1, .int .i64 c.k2, .int .i64 c.a0, .int .i64 c.a1, .int .i64 c.a2, .slice c.ta c.tl c.tc, .int .i64 c.per, .int .i64 c.ret, .int .i64 c.age, .int .i64 c.dead] 25)).cell? ⟨w.heap.size, 10, none⟩ = some (.int .i64 c.dead) := by first | (simp; done) | (rw [World.cell?_alloc_at _ _ _ _ (by simp)]; rfl) | (rw [World.cell?_alloc_past _ _ _ (by simp <;> omega), World.cell?_alloc_at _ _ _ _ (by simp)]; rfl) | (rw [World.cell?_alloc_past _ _ _ (by simp <;> omega), World.cell?_alloc_past _ _ _ (by simp <;> omega), World.cell?_alloc_at _ _ _ _ (by simp)]; rfl)
  have hb2 := (by repeat (first | exact hbel | refine belAlloc ?_ _ | refine belDrew ?_ | refine belSet ?_ _ _ (by simp)) : Below w.heap.size w (w.alloc (.cells #[.int .i64 c.k0, .int .i64 c.k1, .int .i64 c.k2, .int .i64 c.a0, .int .i64 c.a1, .int .i64 c.a2, .slice c.ta c.tl c.tc, .int .i64 c.per, .int .i64 c.ret, .int .i64 c.age, .int .i64 c.dead] 25)))
  replace hw := belStep hw hb2
  clear hb2 hbel
  generalize w.alloc (.cells #[.int .i64 c.k0, .int .i64 c.k1, .int .i64 c.k2, .int .i64 c.a0, .int .i64 c.a1, .int .i64 c.a2, .slice c.ta c.tl c.tc, .int .i64 c.per, .int .i64 c.ret, .int .i64 c.age, .int .i64 c.dead] 25) = W1 at *
  replace cc0 := keep cc0
  replace cc1 := keep cc1
  replace cc2 := keep cc2
  replace cc3 := keep cc3
  replace cc4 := keep cc4
  replace cc5 := keep cc5
  replace cc6 := keep cc6
  replace cc7 := keep cc7
  replace cc8 := keep cc8
  replace cc9 := keep cc9
  replace cc10 := keep cc10
  have hbel : Below W1.heap.size W1 W1 := Below.refl _ _
  skip
  have hs1 : w.heap.size ≤ W1.heap.size := hw.size
  have HSZ := Lib.hid hs1
  have HW := Lib.hid hw
  have HCW := Lib.hid (HC.out.later hw)
  clear hs1 hw HC
  go_wp2
  clear hbel
  go_loopw [3] (fun i wr => ((i = .int .i64 0) ∨ (i = .int .i64 1 ∧ 1 ≤ c.k0) ∨ (i = .int .i64 2 ∧ 1 ≤ c.k0 ∧ 1 ≤ c.k1) ∨ (i = .int .i64 3 ∧ 1 ≤ c.k0 ∧ 1 ≤ c.k1 ∧ 1 ≤ c.k2)) ∧ W1 = wr) (fun i _ => 3 - (intOf i).toNat)
  case atStart => exact ⟨.inl rfl, rfl⟩
  case round =>
    obtain ⟨hi, rfl⟩ := hrel
    have hbel : Below W1.heap.size W1 W1 := Below.refl _ _
    rcases hi with rfl | ⟨rfl, h0⟩ | ⟨rfl, h0, h1⟩ | ⟨rfl, h0, h1, h2⟩
    · by_cases g1 : c.k0 < 1
      · go_wp2
        go_ret
        exact ⟨Tells.no, HW.out⟩
      · by_cases g2 : c.a0 < 0
        · go_wp2
          go_ret
          exact ⟨Tells.no, HW.out⟩
        · have g3 : ¬ c.k0 < 1 := g1
          go_wp2
          go_roundw
          case rel => exact ⟨.inr (.inl ⟨rfl, by omega⟩), by first | rfl | trivial⟩
          case measure => simp [intOf]
    · by_cases g1 : c.k1 < 1
      · go_wp2
        go_ret
        exact ⟨Tells.no, HW.out⟩
      · by_cases g2 : c.a1 < 0
        · go_wp2
          go_ret
          exact ⟨Tells.no, HW.out⟩
        · have g3 : ¬ c.k1 < 1 := g1
          go_wp2
          go_roundw
          case rel => exact ⟨.inr (.inr (.inl ⟨rfl, by omega, by omega⟩)), by first | rfl | trivial⟩
          case measure => simp [intOf]
    · by_cases g1 : c.k2 < 1
      · go_wp2
        go_ret
        exact ⟨Tells.no, HW.out⟩
      · by_cases g2 : c.a2 < 0
        · go_wp2
          go_ret
          exact ⟨Tells.no, HW.out⟩
        · have g3 : ¬ c.k2 < 1 := g1
          go_wp2
          go_roundw
          case rel => exact ⟨.inr (.inr (.inr ⟨rfl, by omega, by omega, by omega⟩)), by first | rfl | trivial⟩
          case measure => simp [intOf]
    · have key : (c.k0 < c.a1) ∨ (¬ c.k0 < c.a1 ∧ c.k2 < c.a2) ∨ (¬ c.k0 < c.a1 ∧ ¬ c.k2 < c.a2 ∧ 12 < c.tl) ∨ (¬ c.k0 < c.a1 ∧ ¬ c.k2 < c.a2 ∧ ¬ 12 < c.tl) := by omega
      rcases key with q1 | ⟨q1, q2⟩ | ⟨q1, q2, q3⟩ | ⟨q1, q2, q3⟩
      · go_wp2
        go_ret
        exact ⟨Tells.no, HW.out⟩
      · go_wp2
        go_ret
        exact ⟨Tells.no, HW.out⟩
      · have q4 : (12 : Int) < c.tl := by omega
        go_wp2
        go_ret
        exact ⟨Tells.no, HW.out⟩
      · have q4 : ¬ (12 : Int) < c.tl := by omega
        have HF := Lib.hid q3
        have HK := Lib.hid (show 1 ≤ c.k0 ∧ 1 ≤ c.k1 ∧ 1 ≤ c.k2 from ⟨h0, h1, h2⟩)
        clear q3 h0 h1 h2
        go_wp2
        go_loopw [4] (fun i wr => ∃ k : Nat, k ≤ c.tl ∧ i = .int .i64 k ∧ (∀ t ∈ c.L.take k, t.right = true) ∧ Below W1.heap.size W1 wr) (fun i _ => c.tl - (intOf i).toNat)
        case atStart => exact ⟨0, by omega, rfl, fun t ht => by simp at ht, Below.refl _ _⟩
        case round =>
          obtain ⟨k, hk, rfl, hall, hbel⟩ := hrel
          have HA := Lib.hid hall
          have HB := Lib.hid hbel
          clear hall
          by_cases hlt : k < c.tl
          · have hk' : k < c.L.length := by rw [HCW.out.len]; exact hlt
            obtain ⟨t, hx⟩ : ∃ t, c.L[k]? = some t := ⟨_, List.getElem?_eq_getElem hk'⟩
            obtain ⟨b, off, hta, hbb, hcell⟩ := (HCW.out.row.later hbel).elem ThrV.cells_len (by omega) hx
            have x0 := hcell 0 _ rfl
            have x1 := hcell 1 _ rfl
            have x2 := hcell 2 _ rfl
            have x3 := hcell 3 _ rfl
            have x4 := hcell 4 _ rfl
            rw [Nat.add_zero] at x0
            have hki : (k : Int) < (c.tl : Int) := by omega
            have CR := Lib.hid (fun u => ref_Right t.sig t.pct t.amt t.grace t.soft u)
            have HT := Lib.hid (show c.L.take (k + 1) = c.L.take k ++ [t] by rw [List.take_add_one, hx]; rfl)
            simp only [hta] at cc6 ⊢
            clear hx hcell hk'
            rcases Bool.eq_false_or_eq_true t.right with hr | hr
            · have HR := Lib.hid hr
              have e : (⟨t.sig, t.pct, t.amt, t.soft, t.grace⟩ : ThrV).right = true := hr
              rw [e] at CR
              clear hr e
              go_wp2_with (first | (go_at_call 30; (with_reducible refine (CR.out _).mono ?_); rintro e w3 ⟨rfl, hb3⟩; have HB3 := Lib.hid (belStep HB.out hb3); replace hbel := HB3.out; clear hb3))
              go_roundw
              case rel =>
                refine ⟨k + 1, by omega, by push_cast; rfl, fun u hu => ?_, HB3.out⟩
                rw [HT.out] at hu
                rcases List.mem_append.1 hu with q | q
                · exact HA.out u q
                · simp at q; rw [q]; exact HR.out
              case measure => simp [intOf] <;> omega
            · have e : (⟨t.sig, t.pct, t.amt, t.soft, t.grace⟩ : ThrV).right = false := hr
              rw [e] at CR
              clear hr e
              go_wp2_with (first | (go_at_call 30; (with_reducible refine (CR.out _).mono ?_); rintro e w3 ⟨rfl, hb3⟩; have HB3 := Lib.hid (belStep HB.out hb3); replace hbel := HB3.out; clear hb3))
              go_ret
              exact ⟨Tells.no, HW.out.trans (HB3.out.mono HSZ.out)⟩
          · obtain rfl : k = c.tl := by omega
            have hki : ¬ (c.tl : Int) < (c.tl : Int) := by omega
            have HR := Lib.hid (show RightC c from ⟨by have := HF.out; omega, take_all HCW.out.len HA.out, HK.out⟩)
            have key2 : (¬ 1 ≤ c.per) ∨ (1 ≤ c.per ∧ ¬ c.per ≤ 1000) ∨ (1 ≤ c.per ∧ c.per ≤ 1000 ∧ ¬ 1 ≤ c.age) ∨ (1 ≤ c.per ∧ c.per ≤ 1000 ∧ 1 ≤ c.age ∧ ¬ c.age ≤ 1000) ∨ (1 ≤ c.per ∧ c.per ≤ 1000 ∧ 1 ≤ c.age ∧ c.age ≤ 1000 ∧ ¬ 0 ≤ c.ret) ∨ (1 ≤ c.per ∧ c.per ≤ 1000 ∧ 1 ≤ c.age ∧ c.age ≤ 1000 ∧ 0 ≤ c.ret ∧ ¬ c.ret ≤ 20) ∨ (1 ≤ c.per ∧ c.per ≤ 1000 ∧ 1 ≤ c.age ∧ c.age ≤ 1000 ∧ 0 ≤ c.ret ∧ c.ret ≤ 20 ∧ ¬ 0 ≤ c.dead) ∨ (1 ≤ c.per ∧ c.per ≤ 1000 ∧ 1 ≤ c.age ∧ c.age ≤ 1000 ∧ 0 ≤ c.ret ∧ c.ret ≤ 20 ∧ 0 ≤ c.dead) := by omega
            clear q1 q2 q4
            rcases key2 with g1 | ⟨g1, g2⟩ | ⟨g1, g2, g3⟩ | ⟨g1, g2, g3, g4⟩ | ⟨g1, g2, g3, g4, g5⟩ | ⟨g1, g2, g3, g4, g5, g6⟩ | ⟨g1, g2, g3, g4, g5, g6, g7⟩ | ⟨g1, g2, g3, g4, g5, g6, g7⟩
            all_goals
              go_wp2
              go_ret
              exact ⟨Tells.any HR.out _, HW.out.trans (HB.out.mono HSZ.out)⟩
end Go.Proofs.Ytbancemkajgljaa
