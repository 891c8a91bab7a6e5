/- Thresholds and configs as arguments; contracts of what package thresh answers of right thresholds, and of its reference. -/
import Derived.Test.YtbancemkajgljaaRead
import Derived.Test.YtbancemkajgljaaWide
namespace Go.Proofs.Ytbancemkajgljaa
open Go.RowKit Go.WideShapes
set_option linter.unusedVariables false
set_option linter.unusedSimpArgs false

/-- A threshold. -/
structure ThrV where
  sig : Int
  pct : Int
  amt : Int
  soft : Bool
  grace : Int
def ThrV.cells (t : ThrV) : List Value := [.int .i64 t.sig, .int .i64 t.pct, .int .i64 t.amt, .bool t.soft, .int .i64 t.grace]
theorem ThrV.cells_len (t : ThrV) : t.cells.length = 5 := rfl
def ThrV.right (t : ThrV) : Bool := decide (0 ≤ t.sig) && decide (t.sig ≤ 2) && ((decide (1 ≤ t.pct) && decide (t.pct ≤ 100) && t.amt == 0) || (t.pct == 0 && decide (0 < t.amt))) && (if t.soft then decide (1 ≤ t.grace) && decide (t.grace ≤ 1000) else t.grace == 0)
theorem rt_false {sg pc am gr : Int} {so : Bool} (h : sg < 0 ∨ 2 < sg ∨ pc < 0 ∨ 100 < pc ∨ am < 0 ∨ (pc = 0 ∧ am = 0) ∨ (pc ≠ 0 ∧ am ≠ 0)) : (⟨sg, pc, am, so, gr⟩ : ThrV).right = false := by
  rw [Bool.eq_false_iff]
  intro q
  unfold ThrV.right at q
  simp only [Bool.and_eq_true, Bool.or_eq_true, decide_eq_true_eq, beq_iff_eq] at q
  obtain ⟨⟨⟨q1, q2⟩, q3⟩, q4⟩ := q
  omega
theorem rt_so {sg pc am gr : Int} (h1 : 0 ≤ sg ∧ sg ≤ 2) (h2 : 0 ≤ pc ∧ pc ≤ 100) (h3 : 0 ≤ am) (h4 : (pc = 0 ∧ am ≠ 0) ∨ (pc ≠ 0 ∧ am = 0)) : (⟨sg, pc, am, true, gr⟩ : ThrV).right = (decide (1 ≤ gr) && decide (gr ≤ 1000)) ∧ (⟨sg, pc, am, false, gr⟩ : ThrV).right = (gr == 0) := by
  unfold ThrV.right
  have e : (decide (0 ≤ sg) && decide (sg ≤ 2) && ((decide (1 ≤ pc) && decide (pc ≤ 100) && am == 0) || (pc == 0 && decide (0 < am)))) = true := by
    simp only [Bool.and_eq_true, Bool.or_eq_true, decide_eq_true_eq, beq_iff_eq]
    omega
  simp only
  rw [e]
  simp only [Bool.true_and, if_true, Bool.false_eq_true, if_false, and_self]

/-- What is known of a right threshold. -/
theorem ThrV.facts {t : ThrV} (h : t.right = true) : (0 ≤ t.sig ∧ t.sig ≤ 2) ∧ ((1 ≤ t.pct ∧ t.pct ≤ 100 ∧ t.amt = 0) ∨ (t.pct = 0 ∧ 0 < t.amt)) ∧ ((t.soft = true ∧ 1 ≤ t.grace ∧ t.grace ≤ 1000) ∨ (t.soft = false ∧ t.grace = 0)) := by
  unfold ThrV.right at h
  cases hs : t.soft <;> rw [hs] at h <;> simp only [Bool.and_eq_true, Bool.or_eq_true, decide_eq_true_eq, beq_iff_eq, if_true, Bool.false_eq_true, if_false, true_and, false_and, and_true, or_false, false_or, reduceCtorEq] at h ⊢ <;> omega
def wB (i : Int) : ByteArray := if i = 0 then ⟨#[109, 101, 109, 111, 114, 121]⟩ else if i = 1 then ⟨#[100, 105, 115, 107]⟩ else if i = 2 then ⟨#[112, 105, 100]⟩ else ⟨#[]⟩
theorem thr_word (i : Int) (w : World) : Calls Try.prog 37 #[.int .i64 i] w fun e w' => e = .returned (.string (wB i)) ∧ w = w' := by
  have hc : ((i == 0) = true ∧ wB i = ⟨#[109, 101, 109, 111, 114, 121]⟩) ∨ ((i == 0) = false ∧ (i == 1) = true ∧ wB i = ⟨#[100, 105, 115, 107]⟩) ∨ ((i == 0) = false ∧ (i == 1) = false ∧ (i == 2) = true ∧ wB i = ⟨#[112, 105, 100]⟩) ∨ ((i == 0) = false ∧ (i == 1) = false ∧ (i == 2) = false ∧ wB i = ⟨#[]⟩) := by
    unfold wB
    rcases Int.decEq i 0 with h0 | h0
    · rcases Int.decEq i 1 with h1 | h1
      · rcases Int.decEq i 2 with h2 | h2
        · exact .inr (.inr (.inr ⟨by simpa using h0, by simpa using h1, by simpa using h2, by rw [if_neg h0, if_neg h1, if_neg h2]⟩))
        · exact .inr (.inr (.inl ⟨by simpa using h0, by simpa using h1, by simpa using h2, by rw [if_neg h0, if_neg h1, if_pos h2]⟩))
      · exact .inr (.inl ⟨by simpa using h0, by simpa using h1, by rw [if_neg h0, if_pos h1]⟩)
    · exact .inl ⟨by simpa using h0, by rw [if_pos h0]⟩
  rcases hc with ⟨h0, h⟩ | ⟨h0, h1, h⟩ | ⟨h0, h1, h2, h⟩ | ⟨h0, h1, h2, h⟩
  all_goals
    have H := Lib.hid h
    clear h
    go_enter Try.func37, Try.ntmps37
    go_wp2
    go_ret
    exact ⟨by rw [H.out]; rfl, rfl⟩
theorem thr_within (n m : Int) (w : World) : Calls Try.prog 36 #[.int .i64 n, .int .i64 m] w fun e w' => e = .returned (.bool (decide (1 ≤ n) && decide (n ≤ m))) ∧ w = w' := by
  rcases Int.lt_or_le n 1 with h1 | h1 <;> rcases Int.lt_or_le m n with h2 | h2
  all_goals
    have HB := Lib.hid (show (decide (1 ≤ n) && decide (n ≤ m)) = (decide (1 ≤ n) && decide (n ≤ m)) from rfl)
    go_enter Try.func36, Try.ntmps36
    go_wp2
    go_ret
    exact ⟨ret_bool (by simp <;> omega), rfl⟩
def ThrV.ok (t : ThrV) : Prop := InI t.sig ∧ InI t.pct ∧ InI t.amt ∧ InI t.grace
def metF (t : ThrV) (c a : Int) : Bool := if 0 < t.pct then decide (satNum a * 100 < satNum c * satNum t.pct) else decide (a < t.amt)
def edgeF (t : ThrV) (c : Int) : Int := if 0 < t.pct then shareI c t.pct else t.amt
set_option maxRecDepth 100000 in
set_option maxHeartbeats 2000000 in
theorem thr_Met (t : ThrV) (c a : Int) (w : World) (ht : t.ok) (hc : InI c) (ha : InI a) : Calls Try.prog 35 #[.agg #[.int .i64 t.sig, .int .i64 t.pct, .int .i64 t.amt, .bool t.soft, .int .i64 t.grace], .int .i64 c, .int .i64 a] w fun e w' => e = .returned (.bool (metF t c a)) ∧ Below w.heap.size w w' := by
  have hw : Below w.heap.size w w := Below.refl _ _
  have hbel := hw
  obtain ⟨_, hp, _, _⟩ := ht
  have CB := Lib.hid (fun v => wide_Below a c t.pct v ha hc hp)
  by_cases h0 : 0 < t.pct
  · have HM := Lib.hid (show metF t c a = decide (satNum a * 100 < satNum c * satNum t.pct) by unfold metF; rw [if_pos h0])
    generalize decide (satNum a * 100 < satNum c * satNum t.pct) = b at *
    go_enter Try.func35, Try.ntmps35
    go_upto_region 1 with fail
    have tt0 : (w.alloc (.cells #[.int .i64 t.sig, .int .i64 t.pct, .int .i64 t.amt, .bool t.soft, .int .i64 t.grace] 47)).cell? ⟨w.heap.size, 0, none⟩ = some (.int .i64 t.sig) := by first | (simp; done) | (rw [World.cell?_alloc_at _ _ _ _ (by simp)]; rfl) | (rw [World.cell?_alloc_past _ _ _ (by simp <;> omega), World.cell?_alloc_at _ _ _ _ (by simp)]; rfl) | (rw [World.cell?_alloc_past _ _ _ (by simp <;> omega), World.cell?_alloc_past _ _ _ (by simp <;> omega), World.cell?_alloc_at _ _ _ _ (by simp)]; rfl)
    have tt1 : (w.alloc (.cells #[.int .i64 t.sig, .int .i64 t.pct, .int .i64 t.amt, .bool t.soft, .int .i64 t.grace] 47)).cell? ⟨w.heap.size, 1, none⟩ = some (.int .i64 t.pct) := by first | (simp; done) | (rw [World.cell?_alloc_at _ _ _ _ (by simp)]; rfl) | (rw [World.cell?_alloc_past _ _ _ (by simp <;> omega), World.cell?_alloc_at _ _ _ _ (by simp)]; rfl) | (rw [World.cell?_alloc_past _ _ _ (by simp <;> omega), World.cell?_alloc_past _ _ _ (by simp <;> omega), World.cell?_alloc_at _ _ _ _ (by simp)]; rfl)
    have tt2 : (w.alloc (.cells #[.int .i64 t.sig, .int .i64 t.pct, .int .i64 t.amt, .bool t.soft, .int .i64 t.grace] 47)).cell? ⟨w.heap.size, 2, none⟩ = some (.int .i64 t.amt) := by first | (simp; done) | (rw [World.cell?_alloc_at _ _ _ _ (by simp)]; rfl) | (rw [World.cell?_alloc_past _ _ _ (by simp <;> omega), World.cell?_alloc_at _ _ _ _ (by simp)]; rfl) | (rw [World.cell?_alloc_past _ _ _ (by simp <;> omega), World.cell?_alloc_past _ _ _ (by simp <;> omega), World.cell?_alloc_at _ _ _ _ (by simp)]; rfl)
    have tt3 : (w.alloc (.cells #[.int .i64 t.sig, .int .i64 t.pct, .int .i64 t.amt, .bool t.soft, .int .i64 t.grace] 47)).cell? ⟨w.heap.size, 3, none⟩ = some (.bool t.soft) := by first | (simp; done) | (rw [World.cell?_alloc_at _ _ _ _ (by simp)]; rfl) | (rw [World.cell?_alloc_past _ _ _ (by simp <;> omega), World.cell?_alloc_at _ _ _ _ (by simp)]; rfl) | (rw [World.cell?_alloc_past _ _ _ (by simp <;> omega), World.cell?_alloc_past _ _ _ (by simp <;> omega), World.cell?_alloc_at _ _ _ _ (by simp)]; rfl)
    have tt4 : (w.alloc (.cells #[.int .i64 t.sig, .int .i64 t.pct, .int .i64 t.amt, .bool t.soft, .int .i64 t.grace] 47)).cell? ⟨w.heap.size, 4, none⟩ = some (.int .i64 t.grace) := by first | (simp; done) | (rw [World.cell?_alloc_at _ _ _ _ (by simp)]; rfl) | (rw [World.cell?_alloc_past _ _ _ (by simp <;> omega), World.cell?_alloc_at _ _ _ _ (by simp)]; rfl) | (rw [World.cell?_alloc_past _ _ _ (by simp <;> omega), World.cell?_alloc_past _ _ _ (by simp <;> omega), World.cell?_alloc_at _ _ _ _ (by simp)]; rfl)
    have hb2 := (by repeat (first | exact hbel | refine belAlloc ?_ _ | refine belDrew ?_ | refine belSet ?_ _ _ (by simp)) : Below w.heap.size w (w.alloc (.cells #[.int .i64 t.sig, .int .i64 t.pct, .int .i64 t.amt, .bool t.soft, .int .i64 t.grace] 47)))
    replace hw := belStep hw hb2
    clear hb2 hbel
    generalize w.alloc (.cells #[.int .i64 t.sig, .int .i64 t.pct, .int .i64 t.amt, .bool t.soft, .int .i64 t.grace] 47) = W1 at *
    replace tt0 := keep tt0
    replace tt1 := keep tt1
    replace tt2 := keep tt2
    replace tt3 := keep tt3
    replace tt4 := keep tt4
    have hbel : Below W1.heap.size W1 W1 := Below.refl _ _
    skip
    go_wp2_with (first | (go_at_call 41; (with_reducible refine (CB.out _).mono ?_); rintro e w1 ⟨rfl, hb1⟩; replace hbel := belStep hbel hb1; clear hb1))
    go_ret
    exact ⟨by rw [HM.out]; rfl, belStep hw hbel⟩
  · have HM := Lib.hid (show metF t c a = decide (a < t.amt) by unfold metF; rw [if_neg h0])
    go_enter Try.func35, Try.ntmps35
    go_upto_region 1 with fail
    have tt0 : (w.alloc (.cells #[.int .i64 t.sig, .int .i64 t.pct, .int .i64 t.amt, .bool t.soft, .int .i64 t.grace] 47)).cell? ⟨w.heap.size, 0, none⟩ = some (.int .i64 t.sig) := by first | (simp; done) | (rw [World.cell?_alloc_at _ _ _ _ (by simp)]; rfl) | (rw [World.cell?_alloc_past _ _ _ (by simp <;> omega), World.cell?_alloc_at _ _ _ _ (by simp)]; rfl) | (rw [World.cell?_alloc_past _ _ _ (by simp <;> omega), World.cell?_alloc_past _ _ _ (by simp <;> omega), World.cell?_alloc_at _ _ _ _ (by simp)]; rfl)
    have tt1 : (w.alloc (.cells #[.int .i64 t.sig, .int .i64 t.pct, .int .i64 t.amt, .bool t.soft, .int .i64 t.grace] 47)).cell? ⟨w.heap.size, 1, none⟩ = some (.int .i64 t.pct) := by first | (simp; done) | (rw [World.cell?_alloc_at _ _ _ _ (by simp)]; rfl) | (rw [World.cell?_alloc_past _ _ _ (by simp <;> omega), World.cell?_alloc_at _ _ _ _ (by simp)]; rfl) | (rw [World.cell?_alloc_past _ _ _ (by simp <;> omega), World.cell?_alloc_past _ _ _ (by simp <;> omega), World.cell?_alloc_at _ _ _ _ (by simp)]; rfl)
    have tt2 : (w.alloc (.cells #[.int .i64 t.sig, .int .i64 t.pct, .int .i64 t.amt, .bool t.soft, .int .i64 t.grace] 47)).cell? ⟨w.heap.size, 2, none⟩ = some (.int .i64 t.amt) := by first | (simp; done) | (rw [World.cell?_alloc_at _ _ _ _ (by simp)]; rfl) | (rw [World.cell?_alloc_past _ _ _ (by simp <;> omega), World.cell?_alloc_at _ _ _ _ (by simp)]; rfl) | (rw [World.cell?_alloc_past _ _ _ (by simp <;> omega), World.cell?_alloc_past _ _ _ (by simp <;> omega), World.cell?_alloc_at _ _ _ _ (by simp)]; rfl)
    have tt3 : (w.alloc (.cells #[.int .i64 t.sig, .int .i64 t.pct, .int .i64 t.amt, .bool t.soft, .int .i64 t.grace] 47)).cell? ⟨w.heap.size, 3, none⟩ = some (.bool t.soft) := by first | (simp; done) | (rw [World.cell?_alloc_at _ _ _ _ (by simp)]; rfl) | (rw [World.cell?_alloc_past _ _ _ (by simp <;> omega), World.cell?_alloc_at _ _ _ _ (by simp)]; rfl) | (rw [World.cell?_alloc_past _ _ _ (by simp <;> omega), World.cell?_alloc_past _ _ _ (by simp <;> omega), World.cell?_alloc_at _ _ _ _ (by simp)]; rfl)
    have tt4 : (w.alloc (.cells #[.int .i64 t.sig, .int .i64 t.pct, .int .i64 t.amt, .bool t.soft, .int .i64 t.grace] 47)).cell? ⟨w.heap.size, 4, none⟩ = some (.int .i64 t.grace) := by first | (simp; done) | (rw [World.cell?_alloc_at _ _ _ _ (by simp)]; rfl) | (rw [World.cell?_alloc_past _ _ _ (by simp <;> omega), World.cell?_alloc_at _ _ _ _ (by simp)]; rfl) | (rw [World.cell?_alloc_past _ _ _ (by simp <;> omega), World.cell?_alloc_past _ _ _ (by simp <;> omega), World.cell?_alloc_at _ _ _ _ (by simp)]; rfl)
    have hb2 := (by repeat (first | exact hbel | refine belAlloc ?_ _ | refine belDrew ?_ | refine belSet ?_ _ _ (by simp)) : Below w.heap.size w (w.alloc (.cells #[.int .i64 t.sig, .int .i64 t.pct, .int .i64 t.amt, .bool t.soft, .int .i64 t.grace] 47)))
    replace hw := belStep hw hb2
    clear hb2 hbel
    generalize w.alloc (.cells #[.int .i64 t.sig, .int .i64 t.pct, .int .i64 t.amt, .bool t.soft, .int .i64 t.grace] 47) = W1 at *
    replace tt0 := keep tt0
    replace tt1 := keep tt1
    replace tt2 := keep tt2
    replace tt3 := keep tt3
    replace tt4 := keep tt4
    have hbel : Below W1.heap.size W1 W1 := Below.refl _ _
    skip
    go_wp2
    go_ret
    exact ⟨by rw [HM.out]; rfl, belStep hw hbel⟩
set_option maxRecDepth 100000 in
set_option maxHeartbeats 2000000 in
theorem thr_Edge (t : ThrV) (c : Int) (w : World) (ht : t.ok) (hc : InI c) : Calls Try.prog 32 #[.agg #[.int .i64 t.sig, .int .i64 t.pct, .int .i64 t.amt, .bool t.soft, .int .i64 t.grace], .int .i64 c] w fun e w' => e = .returned (.int .i64 (edgeF t c)) ∧ Below w.heap.size w w' := by
  have hw : Below w.heap.size w w := Below.refl _ _
  have hbel := hw
  obtain ⟨_, hp, _, _⟩ := ht
  have CB := Lib.hid (fun v => wide_Share c t.pct v hc hp)
  by_cases h0 : 0 < t.pct
  · have HM := Lib.hid (show edgeF t c = shareI c t.pct by unfold edgeF; rw [if_pos h0])
    generalize shareI c t.pct = b at *
    go_enter Try.func32, Try.ntmps32
    go_upto_region 1 with fail
    have tt0 : (w.alloc (.cells #[.int .i64 t.sig, .int .i64 t.pct, .int .i64 t.amt, .bool t.soft, .int .i64 t.grace] 47)).cell? ⟨w.heap.size, 0, none⟩ = some (.int .i64 t.sig) := by first | (simp; done) | (rw [World.cell?_alloc_at _ _ _ _ (by simp)]; rfl) | (rw [World.cell?_alloc_past _ _ _ (by simp <;> omega), World.cell?_alloc_at _ _ _ _ (by simp)]; rfl) | (rw [World.cell?_alloc_past _ _ _ (by simp <;> omega), World.cell?_alloc_past _ _ _ (by simp <;> omega), World.cell?_alloc_at _ _ _ _ (by simp)]; rfl)
    have tt1 : (w.alloc (.cells #[.int .i64 t.sig, .int .i64 t.pct, .int .i64 t.amt, .bool t.soft, .int .i64 t.grace] 47)).cell? ⟨w.heap.size, 1, none⟩ = some (.int .i64 t.pct) := by first | (simp; done) | (rw [World.cell?_alloc_at _ _ _ _ (by simp)]; rfl) | (rw [World.cell?_alloc_past _ _ _ (by simp <;> omega), World.cell?_alloc_at _ _ _ _ (by simp)]; rfl) | (rw [World.cell?_alloc_past _ _ _ (by simp <;> omega), World.cell?_alloc_past _ _ _ (by simp <;> omega), World.cell?_alloc_at _ _ _ _ (by simp)]; rfl)
    have tt2 : (w.alloc (.cells #[.int .i64 t.sig, .int .i64 t.pct, .int .i64 t.amt, .bool t.soft, .int .i64 t.grace] 47)).cell? ⟨w.heap.size, 2, none⟩ = some (.int .i64 t.amt) := by first | (simp; done) | (rw [World.cell?_alloc_at _ _ _ _ (by simp)]; rfl) | (rw [World.cell?_alloc_past _ _ _ (by simp <;> omega), World.cell?_alloc_at _ _ _ _ (by simp)]; rfl) | (rw [World.cell?_alloc_past _ _ _ (by simp <;> omega), World.cell?_alloc_past _ _ _ (by simp <;> omega), World.cell?_alloc_at _ _ _ _ (by simp)]; rfl)
    have tt3 : (w.alloc (.cells #[.int .i64 t.sig, .int .i64 t.pct, .int .i64 t.amt, .bool t.soft, .int .i64 t.grace] 47)).cell? ⟨w.heap.size, 3, none⟩ = some (.bool t.soft) := by first | (simp; done) | (rw [World.cell?_alloc_at _ _ _ _ (by simp)]; rfl) | (rw [World.cell?_alloc_past _ _ _ (by simp <;> omega), World.cell?_alloc_at _ _ _ _ (by simp)]; rfl) | (rw [World.cell?_alloc_past _ _ _ (by simp <;> omega), World.cell?_alloc_past _ _ _ (by simp <;> omega), World.cell?_alloc_at _ _ _ _ (by simp)]; rfl)
    have tt4 : (w.alloc (.cells #[.int .i64 t.sig, .int .i64 t.pct, .int .i64 t.amt, .bool t.soft, .int .i64 t.grace] 47)).cell? ⟨w.heap.size, 4, none⟩ = some (.int .i64 t.grace) := by first | (simp; done) | (rw [World.cell?_alloc_at _ _ _ _ (by simp)]; rfl) | (rw [World.cell?_alloc_past _ _ _ (by simp <;> omega), World.cell?_alloc_at _ _ _ _ (by simp)]; rfl) | (rw [World.cell?_alloc_past _ _ _ (by simp <;> omega), World.cell?_alloc_past _ _ _ (by simp <;> omega), World.cell?_alloc_at _ _ _ _ (by simp)]; rfl)
    have hb2 := (by repeat (first | exact hbel | refine belAlloc ?_ _ | refine belDrew ?_ | refine belSet ?_ _ _ (by simp)) : Below w.heap.size w (w.alloc (.cells #[.int .i64 t.sig, .int .i64 t.pct, .int .i64 t.amt, .bool t.soft, .int .i64 t.grace] 47)))
    replace hw := belStep hw hb2
    clear hb2 hbel
    generalize w.alloc (.cells #[.int .i64 t.sig, .int .i64 t.pct, .int .i64 t.amt, .bool t.soft, .int .i64 t.grace] 47) = W1 at *
    replace tt0 := keep tt0
    replace tt1 := keep tt1
    replace tt2 := keep tt2
    replace tt3 := keep tt3
    replace tt4 := keep tt4
    have hbel : Below W1.heap.size W1 W1 := Below.refl _ _
    skip
    go_wp2_with (first | (go_at_call 38; (with_reducible refine (CB.out _).mono ?_); rintro e w1 ⟨rfl, hb1⟩; replace hbel := belStep hbel hb1; clear hb1))
    go_ret
    exact ⟨by rw [HM.out]; rfl, belStep hw hbel⟩
  · have HM := Lib.hid (show edgeF t c = t.amt by unfold edgeF; rw [if_neg h0])
    go_enter Try.func32, Try.ntmps32
    go_upto_region 1 with fail
    have tt0 : (w.alloc (.cells #[.int .i64 t.sig, .int .i64 t.pct, .int .i64 t.amt, .bool t.soft, .int .i64 t.grace] 47)).cell? ⟨w.heap.size, 0, none⟩ = some (.int .i64 t.sig) := by first | (simp; done) | (rw [World.cell?_alloc_at _ _ _ _ (by simp)]; rfl) | (rw [World.cell?_alloc_past _ _ _ (by simp <;> omega), World.cell?_alloc_at _ _ _ _ (by simp)]; rfl) | (rw [World.cell?_alloc_past _ _ _ (by simp <;> omega), World.cell?_alloc_past _ _ _ (by simp <;> omega), World.cell?_alloc_at _ _ _ _ (by simp)]; rfl)
    have tt1 : (w.alloc (.cells #[.int .i64 t.sig, .int .i64 t.pct, .int .i64 t.amt, .bool t.soft, .int .i64 t.grace] 47)).cell? ⟨w.heap.size, 1, none⟩ = some (.int .i64 t.pct) := by first | (simp; done) | (rw [World.cell?_alloc_at _ _ _ _ (by simp)]; rfl) | (rw [World.cell?_alloc_past _ _ _ (by simp <;> omega), World.cell?_alloc_at _ _ _ _ (by simp)]; rfl) | (rw [World.cell?_alloc_past _ _ _ (by simp <;> omega), World.cell?_alloc_past _ _ _ (by simp <;> omega), World.cell?_alloc_at _ _ _ _ (by simp)]; rfl)
    have tt2 : (w.alloc (.cells #[.int .i64 t.sig, .int .i64 t.pct, .int .i64 t.amt, .bool t.soft, .int .i64 t.grace] 47)).cell? ⟨w.heap.size, 2, none⟩ = some (.int .i64 t.amt) := by first | (simp; done) | (rw [World.cell?_alloc_at _ _ _ _ (by simp)]; rfl) | (rw [World.cell?_alloc_past _ _ _ (by simp <;> omega), World.cell?_alloc_at _ _ _ _ (by simp)]; rfl) | (rw [World.cell?_alloc_past _ _ _ (by simp <;> omega), World.cell?_alloc_past _ _ _ (by simp <;> omega), World.cell?_alloc_at _ _ _ _ (by simp)]; rfl)
    have tt3 : (w.alloc (.cells #[.int .i64 t.sig, .int .i64 t.pct, .int .i64 t.amt, .bool t.soft, .int .i64 t.grace] 47)).cell? ⟨w.heap.size, 3, none⟩ = some (.bool t.soft) := by first | (simp; done) | (rw [World.cell?_alloc_at _ _ _ _ (by simp)]; rfl) | (rw [World.cell?_alloc_past _ _ _ (by simp <;> omega), World.cell?_alloc_at _ _ _ _ (by simp)]; rfl) | (rw [World.cell?_alloc_past _ _ _ (by simp <;> omega), World.cell?_alloc_past _ _ _ (by simp <;> omega), World.cell?_alloc_at _ _ _ _ (by simp)]; rfl)
    have tt4 : (w.alloc (.cells #[.int .i64 t.sig, .int .i64 t.pct, .int .i64 t.amt, .bool t.soft, .int .i64 t.grace] 47)).cell? ⟨w.heap.size, 4, none⟩ = some (.int .i64 t.grace) := by first | (simp; done) | (rw [World.cell?_alloc_at _ _ _ _ (by simp)]; rfl) | (rw [World.cell?_alloc_past _ _ _ (by simp <;> omega), World.cell?_alloc_at _ _ _ _ (by simp)]; rfl) | (rw [World.cell?_alloc_past _ _ _ (by simp <;> omega), World.cell?_alloc_past _ _ _ (by simp <;> omega), World.cell?_alloc_at _ _ _ _ (by simp)]; rfl)
    have hb2 := (by repeat (first | exact hbel | refine belAlloc ?_ _ | refine belDrew ?_ | refine belSet ?_ _ _ (by simp)) : Below w.heap.size w (w.alloc (.cells #[.int .i64 t.sig, .int .i64 t.pct, .int .i64 t.amt, .bool t.soft, .int .i64 t.grace] 47)))
    replace hw := belStep hw hb2
    clear hb2 hbel
    generalize w.alloc (.cells #[.int .i64 t.sig, .int .i64 t.pct, .int .i64 t.amt, .bool t.soft, .int .i64 t.grace] 47) = W1 at *
    replace tt0 := keep tt0
    replace tt1 := keep tt1
    replace tt2 := keep tt2
    replace tt3 := keep tt3
    replace tt4 := keep tt4
    have hbel : Below W1.heap.size W1 W1 := Below.refl _ _
    skip
    go_wp2
    go_ret
    exact ⟨by rw [HM.out]; rfl, belStep hw hbel⟩


theorem rd_three {w : World} {a b c : Value} (h : Rd Try.prog w 22 [a, b, c]) : ∃ x y z : Int, a = .int .i64 x ∧ b = .int .i64 y ∧ c = .int .i64 z ∧ InI x ∧ InI y ∧ InI z := by
  obtain ⟨_, hf⟩ := Rd.array Try.underlying22 h
  have h0 := hf 0 (by omega)
  have h1 := hf 1 (by omega)
  have h2 := hf 2 (by omega)
  simp [show Try.prog.cellsOf 3 = 1 by kernel_rfl] at h0 h1 h2
  obtain ⟨x, e0, w0⟩ := Rd.int Try.underlying3 h0
  obtain ⟨y, e1, w1⟩ := Rd.int Try.underlying3 h1
  obtain ⟨z, e2, w2⟩ := Rd.int Try.underlying3 h2
  exact ⟨x, y, z, one_int e0, one_int e1, one_int e2, inI_of_wf w0, inI_of_wf w1, inI_of_wf w2⟩
theorem rd_thr {w : World} {cs : List Value} (h : Rd Try.prog w 47 cs) : ∃ t : ThrV, cs = t.cells ∧ t.ok := by
  obtain ⟨hl, hf⟩ := Rd.struct Try.underlying47 h
  rw [show Try.prog.cellsOf 47 = 5 by kernel_rfl] at hl
  obtain ⟨a, b, c, d, e, rfl⟩ := list5 hl
  have h0 := hf 0 _ rfl
  have h1 := hf 1 _ rfl
  have h2 := hf 2 _ rfl
  have h3 := hf 3 _ rfl
  have h4 := hf 4 _ rfl
  simp [show Try.prog.cellsOf 3 = 1 by kernel_rfl, show Try.prog.cellsOf 4 = 1 by kernel_rfl] at h0 h1 h2 h3 h4
  obtain ⟨x0, e0, w0⟩ := Rd.int Try.underlying3 h0
  obtain ⟨x1, e1, w1⟩ := Rd.int Try.underlying3 h1
  obtain ⟨x2, e2, w2⟩ := Rd.int Try.underlying3 h2
  obtain ⟨x3, e3⟩ := Rd.bool Try.underlying4 h3
  obtain ⟨x4, e4, w4⟩ := Rd.int Try.underlying3 h4
  simp at e0 e1 e2 e3 e4
  subst e0 e1 e2 e3 e4
  exact ⟨⟨x0, x1, x2, x3, x4⟩, rfl, inI_of_wf w0, inI_of_wf w1, inI_of_wf w2, inI_of_wf w4⟩

/-- A config. -/
structure CfgV where
  k0 : Int
  k1 : Int
  k2 : Int
  a0 : Int
  a1 : Int
  a2 : Int
  ta : Option Addr
  tl : Nat
  tc : Nat
  per : Int
  ret : Int
  age : Int
  dead : Int
  L : List ThrV
def CfgV.v (c : CfgV) : Value := .agg #[.int .i64 c.k0, .int .i64 c.k1, .int .i64 c.k2, .int .i64 c.a0, .int .i64 c.a1, .int .i64 c.a2, .slice c.ta c.tl c.tc, .int .i64 c.per, .int .i64 c.ret, .int .i64 c.age, .int .i64 c.dead]
/-- What is known of one that came in. -/
structure CfgV.ok (c : CfgV) (w : World) : Prop where
  ck : InI c.k0 ∧ InI c.k1 ∧ InI c.k2
  ca : InI c.a0 ∧ InI c.a1 ∧ InI c.a2
  cp : InI c.per ∧ InI c.ret ∧ InI c.age ∧ InI c.dead
  len : c.L.length = c.tl
  row : Row w c.ta c.tl c.tc 5 (c.L.flatMap ThrV.cells)
  thr : ∀ t ∈ c.L, t.ok
theorem CfgV.ok.later {c : CfgV} {w w' : World} (h : c.ok w) (hb : Below w.heap.size w w') : c.ok w' := ⟨h.ck, h.ca, h.cp, h.len, h.row.later hb, h.thr⟩
/-- The capacity, and what is available, of a signal. -/
def sel (s a b c : Int) : Int := if s = 0 then a else if s = 1 then b else c
theorem sel_in {s a b c : Int} (ha : InI a) (hb : InI b) (hc : InI c) : InI (sel s a b c) := by
  unfold sel
  split
  · exact ha
  · split
    · exact hb
    · exact hc
theorem list11 {l : List Value} (h : l.length = 11) : ∃ a b c d e f g i j k m, l = [a, b, c, d, e, f, g, i, j, k, m] := by
  match l, h with | [a, b, c, d, e, f, g, i, j, k, m], _ => exact ⟨a, b, c, d, e, f, g, i, j, k, m, rfl⟩
theorem rd_sl {w : World} {g : Value} (h : Rd Try.prog w 23 [g]) : ∃ ta tl tc, g = .slice ta tl tc := by
  rcases Rd.slice Try.underlying23 h with h0 | ⟨ad, len, cap, h1, _⟩
  · simp at h0; exact ⟨_, _, _, h0⟩
  · simp at h1; exact ⟨_, _, _, h1⟩
theorem rd_cfg {w : World} {cs : List Value} (h : Rd Try.prog w 25 cs) : ∃ c : CfgV, Value.agg cs.toArray = c.v ∧ c.ok w := by
  obtain ⟨hl, hf⟩ := Rd.struct Try.underlying25 h
  rw [show Try.prog.cellsOf 25 = 11 by kernel_rfl] at hl
  obtain ⟨a, b, c, d, e, f, g, i, j, k, m, rfl⟩ := list11 hl
  have h0 := hf 0 _ rfl
  have h1 := hf 1 _ rfl
  have h2 := hf 2 _ rfl
  have h3 := hf 3 _ rfl
  have h4 := hf 4 _ rfl
  have h5 := hf 5 _ rfl
  have h6 := hf 6 _ rfl
  simp [show Try.prog.cellsOf 3 = 1 by kernel_rfl, show Try.prog.cellsOf 22 = 3 by kernel_rfl, show Try.prog.cellsOf 23 = 1 by kernel_rfl] at h0 h1 h2 h3 h4 h5 h6
  obtain ⟨x0, x1, x2, rfl, rfl, rfl, i0, i1, i2⟩ := rd_three h0
  obtain ⟨y0, y1, y2, rfl, rfl, rfl, j0, j1, j2⟩ := rd_three h1
  obtain ⟨ta, tl, tc, rfl⟩ := rd_sl h2
  obtain ⟨p, e3, w3⟩ := Rd.int Try.underlying3 h3
  obtain ⟨q, e4, w4⟩ := Rd.int Try.underlying3 h4
  obtain ⟨r, e5, w5⟩ := Rd.int Try.underlying3 h5
  obtain ⟨s, e6, w6⟩ := Rd.int Try.underlying3 h6
  simp at e3 e4 e5 e6
  subst e3 e4 e5 e6
  obtain ⟨L, hL1, hL2, hL3⟩ := Rd.rows ThrV.cells 5 Try.underlying23 (by kernel_rfl) (by omega) ThrV.cells_len ThrV.ok (fun es hes => rd_thr hes) h2
  exact ⟨⟨x0, x1, x2, y0, y1, y2, ta, tl, tc, p, q, r, s, L⟩, rfl, ⟨i0, i1, i2⟩, ⟨j0, j1, j2⟩, ⟨inI_of_wf w3, inI_of_wf w4, inI_of_wf w5, inI_of_wf w6⟩, hL1, hL3, hL2⟩
theorem open_cfg {H : Type} {enc : TypeId × Value → H} {W : World} {v : Value} {b : Nat} {d : DataW H} {p : List MemPlace} (o : Value.okWide Try.prog W .any b 25 v) (h : DataW.Trod enc Try.prog W 0 (fun _ => true) true 25 v d p) :
    ∃ c : CfgV, v = c.v ∧ c.ok W := by
  obtain ⟨cs, rfl⟩ := agg_of_struct Try.underlying25 o
  obtain ⟨c, hc, hok⟩ := rd_cfg (Rd.of h)
  rw [agg_cells] at hc
  exact ⟨c, by rw [← hc], hok⟩
theorem open_three {H : Type} {enc : TypeId × Value → H} {W : World} {v : Value} {b : Nat} {d : DataW H} {p : List MemPlace} (o : Value.okWide Try.prog W .any b 22 v) (h : DataW.Trod enc Try.prog W 0 (fun _ => true) true 22 v d p) :
    ∃ x y z : Int, v = .agg #[.int .i64 x, .int .i64 y, .int .i64 z] ∧ InI x ∧ InI y ∧ InI z := by
  obtain ⟨cs, rfl⟩ := agg_of_array Try.underlying22 o
  have hr := Rd.of h
  rw [agg_cells] at hr
  obtain ⟨hl, _⟩ := Rd.array Try.underlying22 hr
  rw [show Try.prog.cellsOf 22 = 3 by kernel_rfl] at hl
  obtain ⟨a, b, c, e⟩ := list3 hl
  rw [e] at hr
  obtain ⟨x, y, z, rfl, rfl, rfl, h1, h2, h3⟩ := rd_three hr
  exact ⟨x, y, z, by rw [show cs = cs.toList.toArray by simp, e], h1, h2, h3⟩

set_option maxRecDepth 100000 in
set_option maxHeartbeats 8000000 in
theorem ref_Right (sg pc am gr : Int) (so : Bool) (w : World) : Calls Try.prog 30 #[.agg #[.int .i64 sg, .int .i64 pc, .int .i64 am, .bool so, .int .i64 gr]] w fun e w' => e = .returned (.bool (⟨sg, pc, am, so, gr⟩ : ThrV).right) ∧ Below w.heap.size w w' := by
  have hw : Below w.heap.size w w := Below.refl _ _
  have hbel := hw
  rcases Int.lt_or_le sg 0 with h1 | h1
  · have HR := Lib.hid (rt_false (so := so) (gr := gr) (show sg < 0 ∨ 2 < sg ∨ pc < 0 ∨ 100 < pc ∨ am < 0 ∨ (pc = 0 ∧ am = 0) ∨ (pc ≠ 0 ∧ am ≠ 0) by omega))
    go_enter Try.func30, Try.ntmps30
    go_upto_region 1 with fail
    have tt0 : (w.alloc (.cells #[.int .i64 sg, .int .i64 pc, .int .i64 am, .bool so, .int .i64 gr] 47)).cell? ⟨w.heap.size, 0, none⟩ = some (.int .i64 sg) := by first | (simp; done) | (rw [World.cell?_alloc_at _ _ _ _ (by simp)]; rfl) | (rw [World.cell?_alloc_past _ _ _ (by simp <;> omega), World.cell?_alloc_at _ _ _ _ (by simp)]; rfl) | (rw [World.cell?_alloc_past _ _ _ (by simp <;> omega), World.cell?_alloc_past _ _ _ (by simp <;> omega), World.cell?_alloc_at _ _ _ _ (by simp)]; rfl)
    have tt1 : (w.alloc (.cells #[.int .i64 sg, .int .i64 pc, .int .i64 am, .bool so, .int .i64 gr] 47)).cell? ⟨w.heap.size, 1, none⟩ = some (.int .i64 pc) := by first | (simp; done) | (rw [World.cell?_alloc_at _ _ _ _ (by simp)]; rfl) | (rw [World.cell?_alloc_past _ _ _ (by simp <;> omega), World.cell?_alloc_at _ _ _ _ (by simp)]; rfl) | (rw [World.cell?_alloc_past _ _ _ (by simp <;> omega), World.cell?_alloc_past _ _ _ (by simp <;> omega), World.cell?_alloc_at _ _ _ _ (by simp)]; rfl)
    have tt2 : (w.alloc (.cells #[.int .i64 sg, .int .i64 pc, .int .i64 am, .bool so, .int .i64 gr] 47)).cell? ⟨w.heap.size, 2, none⟩ = some (.int .i64 am) := by first | (simp; done) | (rw [World.cell?_alloc_at _ _ _ _ (by simp)]; rfl) | (rw [World.cell?_alloc_past _ _ _ (by simp <;> omega), World.cell?_alloc_at _ _ _ _ (by simp)]; rfl) | (rw [World.cell?_alloc_past _ _ _ (by simp <;> omega), World.cell?_alloc_past _ _ _ (by simp <;> omega), World.cell?_alloc_at _ _ _ _ (by simp)]; rfl)
    have tt3 : (w.alloc (.cells #[.int .i64 sg, .int .i64 pc, .int .i64 am, .bool so, .int .i64 gr] 47)).cell? ⟨w.heap.size, 3, none⟩ = some (.bool so) := by first | (simp; done) | (rw [World.cell?_alloc_at _ _ _ _ (by simp)]; rfl) | (rw [World.cell?_alloc_past _ _ _ (by simp <;> omega), World.cell?_alloc_at _ _ _ _ (by simp)]; rfl) | (rw [World.cell?_alloc_past _ _ _ (by simp <;> omega), World.cell?_alloc_past _ _ _ (by simp <;> omega), World.cell?_alloc_at _ _ _ _ (by simp)]; rfl)
    have tt4 : (w.alloc (.cells #[.int .i64 sg, .int .i64 pc, .int .i64 am, .bool so, .int .i64 gr] 47)).cell? ⟨w.heap.size, 4, none⟩ = some (.int .i64 gr) := by first | (simp; done) | (rw [World.cell?_alloc_at _ _ _ _ (by simp)]; rfl) | (rw [World.cell?_alloc_past _ _ _ (by simp <;> omega), World.cell?_alloc_at _ _ _ _ (by simp)]; rfl) | (rw [World.cell?_alloc_past _ _ _ (by simp <;> omega), World.cell?_alloc_past _ _ _ (by simp <;> omega), World.cell?_alloc_at _ _ _ _ (by simp)]; rfl)
    have hb2 := (by repeat (first | exact hbel | refine belAlloc ?_ _ | refine belDrew ?_ | refine belSet ?_ _ _ (by simp)) : Below w.heap.size w (w.alloc (.cells #[.int .i64 sg, .int .i64 pc, .int .i64 am, .bool so, .int .i64 gr] 47)))
    replace hw := belStep hw hb2
    clear hb2 hbel
    generalize w.alloc (.cells #[.int .i64 sg, .int .i64 pc, .int .i64 am, .bool so, .int .i64 gr] 47) = W1 at *
    replace tt0 := keep tt0
    replace tt1 := keep tt1
    replace tt2 := keep tt2
    replace tt3 := keep tt3
    replace tt4 := keep tt4
    have hbel : Below W1.heap.size W1 W1 := Below.refl _ _
    skip
    go_wp2
    go_ret
    exact ⟨by rw [HR.out]; rfl, belStep hw hbel⟩
  rcases Int.lt_or_le 2 sg with h2 | h2
  · have HR := Lib.hid (rt_false (so := so) (gr := gr) (show sg < 0 ∨ 2 < sg ∨ pc < 0 ∨ 100 < pc ∨ am < 0 ∨ (pc = 0 ∧ am = 0) ∨ (pc ≠ 0 ∧ am ≠ 0) by omega))
    go_enter Try.func30, Try.ntmps30
    go_upto_region 1 with fail
    have tt0 : (w.alloc (.cells #[.int .i64 sg, .int .i64 pc, .int .i64 am, .bool so, .int .i64 gr] 47)).cell? ⟨w.heap.size, 0, none⟩ = some (.int .i64 sg) := by first | (simp; done) | (rw [World.cell?_alloc_at _ _ _ _ (by simp)]; rfl) | (rw [World.cell?_alloc_past _ _ _ (by simp <;> omega), World.cell?_alloc_at _ _ _ _ (by simp)]; rfl) | (rw [World.cell?_alloc_past _ _ _ (by simp <;> omega), World.cell?_alloc_past _ _ _ (by simp <;> omega), World.cell?_alloc_at _ _ _ _ (by simp)]; rfl)
    have tt1 : (w.alloc (.cells #[.int .i64 sg, .int .i64 pc, .int .i64 am, .bool so, .int .i64 gr] 47)).cell? ⟨w.heap.size, 1, none⟩ = some (.int .i64 pc) := by first | (simp; done) | (rw [World.cell?_alloc_at _ _ _ _ (by simp)]; rfl) | (rw [World.cell?_alloc_past _ _ _ (by simp <;> omega), World.cell?_alloc_at _ _ _ _ (by simp)]; rfl) | (rw [World.cell?_alloc_past _ _ _ (by simp <;> omega), World.cell?_alloc_past _ _ _ (by simp <;> omega), World.cell?_alloc_at _ _ _ _ (by simp)]; rfl)
    have tt2 : (w.alloc (.cells #[.int .i64 sg, .int .i64 pc, .int .i64 am, .bool so, .int .i64 gr] 47)).cell? ⟨w.heap.size, 2, none⟩ = some (.int .i64 am) := by first | (simp; done) | (rw [World.cell?_alloc_at _ _ _ _ (by simp)]; rfl) | (rw [World.cell?_alloc_past _ _ _ (by simp <;> omega), World.cell?_alloc_at _ _ _ _ (by simp)]; rfl) | (rw [World.cell?_alloc_past _ _ _ (by simp <;> omega), World.cell?_alloc_past _ _ _ (by simp <;> omega), World.cell?_alloc_at _ _ _ _ (by simp)]; rfl)
    have tt3 : (w.alloc (.cells #[.int .i64 sg, .int .i64 pc, .int .i64 am, .bool so, .int .i64 gr] 47)).cell? ⟨w.heap.size, 3, none⟩ = some (.bool so) := by first | (simp; done) | (rw [World.cell?_alloc_at _ _ _ _ (by simp)]; rfl) | (rw [World.cell?_alloc_past _ _ _ (by simp <;> omega), World.cell?_alloc_at _ _ _ _ (by simp)]; rfl) | (rw [World.cell?_alloc_past _ _ _ (by simp <;> omega), World.cell?_alloc_past _ _ _ (by simp <;> omega), World.cell?_alloc_at _ _ _ _ (by simp)]; rfl)
    have tt4 : (w.alloc (.cells #[.int .i64 sg, .int .i64 pc, .int .i64 am, .bool so, .int .i64 gr] 47)).cell? ⟨w.heap.size, 4, none⟩ = some (.int .i64 gr) := by first | (simp; done) | (rw [World.cell?_alloc_at _ _ _ _ (by simp)]; rfl) | (rw [World.cell?_alloc_past _ _ _ (by simp <;> omega), World.cell?_alloc_at _ _ _ _ (by simp)]; rfl) | (rw [World.cell?_alloc_past _ _ _ (by simp <;> omega), World.cell?_alloc_past _ _ _ (by simp <;> omega), World.cell?_alloc_at _ _ _ _ (by simp)]; rfl)
    have hb2 := (by repeat (first | exact hbel | refine belAlloc ?_ _ | refine belDrew ?_ | refine belSet ?_ _ _ (by simp)) : Below w.heap.size w (w.alloc (.cells #[.int .i64 sg, .int .i64 pc, .int .i64 am, .bool so, .int .i64 gr] 47)))
    replace hw := belStep hw hb2
    clear hb2 hbel
    generalize w.alloc (.cells #[.int .i64 sg, .int .i64 pc, .int .i64 am, .bool so, .int .i64 gr] 47) = W1 at *
    replace tt0 := keep tt0
    replace tt1 := keep tt1
    replace tt2 := keep tt2
    replace tt3 := keep tt3
    replace tt4 := keep tt4
    have hbel : Below W1.heap.size W1 W1 := Below.refl _ _
    skip
    go_wp2
    go_ret
    exact ⟨by rw [HR.out]; rfl, belStep hw hbel⟩
  rcases Int.lt_or_le pc 0 with h3 | h3
  · have HR := Lib.hid (rt_false (so := so) (gr := gr) (show sg < 0 ∨ 2 < sg ∨ pc < 0 ∨ 100 < pc ∨ am < 0 ∨ (pc = 0 ∧ am = 0) ∨ (pc ≠ 0 ∧ am ≠ 0) by omega))
    go_enter Try.func30, Try.ntmps30
    go_upto_region 1 with fail
    have tt0 : (w.alloc (.cells #[.int .i64 sg, .int .i64 pc, .int .i64 am, .bool so, .int .i64 gr] 47)).cell? ⟨w.heap.size, 0, none⟩ = some (.int .i64 sg) := by first | (simp; done) | (rw [World.cell?_alloc_at _ _ _ _ (by simp)]; rfl) | (rw [World.cell?_alloc_past _ _ _ (by simp <;> omega), World.cell?_alloc_at _ _ _ _ (by simp)]; rfl) | (rw [World.cell?_alloc_past _ _ _ (by simp <;> omega), World.cell?_alloc_past _ _ _ (by simp <;> omega), World.cell?_alloc_at _ _ _ _ (by simp)]; rfl)
    have tt1 : (w.alloc (.cells #[.int .i64 sg, .int .i64 pc, .int .i64 am, .bool so, .int .i64 gr] 47)).cell? ⟨w.heap.size, 1, none⟩ = some (.int .i64 pc) := by first | (simp; done) | (rw [World.cell?_alloc_at _ _ _ _ (by simp)]; rfl) | (rw [World.cell?_alloc_past _ _ _ (by simp <;> omega), World.cell?_alloc_at _ _ _ _ (by simp)]; rfl) | (rw [World.cell?_alloc_past _ _ _ (by simp <;> omega), World.cell?_alloc_past _ _ _ (by simp <;> omega), World.cell?_alloc_at _ _ _ _ (by simp)]; rfl)
    have tt2 : (w.alloc (.cells #[.int .i64 sg, .int .i64 pc, .int .i64 am, .bool so, .int .i64 gr] 47)).cell? ⟨w.heap.size, 2, none⟩ = some (.int .i64 am) := by first | (simp; done) | (rw [World.cell?_alloc_at _ _ _ _ (by simp)]; rfl) | (rw [World.cell?_alloc_past _ _ _ (by simp <;> omega), World.cell?_alloc_at _ _ _ _ (by simp)]; rfl) | (rw [World.cell?_alloc_past _ _ _ (by simp <;> omega), World.cell?_alloc_past _ _ _ (by simp <;> omega), World.cell?_alloc_at _ _ _ _ (by simp)]; rfl)
    have tt3 : (w.alloc (.cells #[.int .i64 sg, .int .i64 pc, .int .i64 am, .bool so, .int .i64 gr] 47)).cell? ⟨w.heap.size, 3, none⟩ = some (.bool so) := by first | (simp; done) | (rw [World.cell?_alloc_at _ _ _ _ (by simp)]; rfl) | (rw [World.cell?_alloc_past _ _ _ (by simp <;> omega), World.cell?_alloc_at _ _ _ _ (by simp)]; rfl) | (rw [World.cell?_alloc_past _ _ _ (by simp <;> omega), World.cell?_alloc_past _ _ _ (by simp <;> omega), World.cell?_alloc_at _ _ _ _ (by simp)]; rfl)
    have tt4 : (w.alloc (.cells #[.int .i64 sg, .int .i64 pc, .int .i64 am, .bool so, .int .i64 gr] 47)).cell? ⟨w.heap.size, 4, none⟩ = some (.int .i64 gr) := by first | (simp; done) | (rw [World.cell?_alloc_at _ _ _ _ (by simp)]; rfl) | (rw [World.cell?_alloc_past _ _ _ (by simp <;> omega), World.cell?_alloc_at _ _ _ _ (by simp)]; rfl) | (rw [World.cell?_alloc_past _ _ _ (by simp <;> omega), World.cell?_alloc_past _ _ _ (by simp <;> omega), World.cell?_alloc_at _ _ _ _ (by simp)]; rfl)
    have hb2 := (by repeat (first | exact hbel | refine belAlloc ?_ _ | refine belDrew ?_ | refine belSet ?_ _ _ (by simp)) : Below w.heap.size w (w.alloc (.cells #[.int .i64 sg, .int .i64 pc, .int .i64 am, .bool so, .int .i64 gr] 47)))
    replace hw := belStep hw hb2
    clear hb2 hbel
    generalize w.alloc (.cells #[.int .i64 sg, .int .i64 pc, .int .i64 am, .bool so, .int .i64 gr] 47) = W1 at *
    replace tt0 := keep tt0
    replace tt1 := keep tt1
    replace tt2 := keep tt2
    replace tt3 := keep tt3
    replace tt4 := keep tt4
    have hbel : Below W1.heap.size W1 W1 := Below.refl _ _
    skip
    go_wp2
    go_ret
    exact ⟨by rw [HR.out]; rfl, belStep hw hbel⟩
  rcases Int.lt_or_le 100 pc with h4 | h4
  · have HR := Lib.hid (rt_false (so := so) (gr := gr) (show sg < 0 ∨ 2 < sg ∨ pc < 0 ∨ 100 < pc ∨ am < 0 ∨ (pc = 0 ∧ am = 0) ∨ (pc ≠ 0 ∧ am ≠ 0) by omega))
    go_enter Try.func30, Try.ntmps30
    go_upto_region 1 with fail
    have tt0 : (w.alloc (.cells #[.int .i64 sg, .int .i64 pc, .int .i64 am, .bool so, .int .i64 gr] 47)).cell? ⟨w.heap.size, 0, none⟩ = some (.int .i64 sg) := by first | (simp; done) | (rw [World.cell?_alloc_at _ _ _ _ (by simp)]; rfl) | (rw [World.cell?_alloc_past _ _ _ (by simp <;> omega), World.cell?_alloc_at _ _ _ _ (by simp)]; rfl) | (rw [World.cell?_alloc_past _ _ _ (by simp <;> omega), World.cell?_alloc_past _ _ _ (by simp <;> omega), World.cell?_alloc_at _ _ _ _ (by simp)]; rfl)
    have tt1 : (w.alloc (.cells #[.int .i64 sg, .int .i64 pc, .int .i64 am, .bool so, .int .i64 gr] 47)).cell? ⟨w.heap.size, 1, none⟩ = some (.int .i64 pc) := by first | (simp; done) | (rw [World.cell?_alloc_at _ _ _ _ (by simp)]; rfl) | (rw [World.cell?_alloc_past _ _ _ (by simp <;> omega), World.cell?_alloc_at _ _ _ _ (by simp)]; rfl) | (rw [World.cell?_alloc_past _ _ _ (by simp <;> omega), World.cell?_alloc_past _ _ _ (by simp <;> omega), World.cell?_alloc_at _ _ _ _ (by simp)]; rfl)
    have tt2 : (w.alloc (.cells #[.int .i64 sg, .int .i64 pc, .int .i64 am, .bool so, .int .i64 gr] 47)).cell? ⟨w.heap.size, 2, none⟩ = some (.int .i64 am) := by first | (simp; done) | (rw [World.cell?_alloc_at _ _ _ _ (by simp)]; rfl) | (rw [World.cell?_alloc_past _ _ _ (by simp <;> omega), World.cell?_alloc_at _ _ _ _ (by simp)]; rfl) | (rw [World.cell?_alloc_past _ _ _ (by simp <;> omega), World.cell?_alloc_past _ _ _ (by simp <;> omega), World.cell?_alloc_at _ _ _ _ (by simp)]; rfl)
    have tt3 : (w.alloc (.cells #[.int .i64 sg, .int .i64 pc, .int .i64 am, .bool so, .int .i64 gr] 47)).cell? ⟨w.heap.size, 3, none⟩ = some (.bool so) := by first | (simp; done) | (rw [World.cell?_alloc_at _ _ _ _ (by simp)]; rfl) | (rw [World.cell?_alloc_past _ _ _ (by simp <;> omega), World.cell?_alloc_at _ _ _ _ (by simp)]; rfl) | (rw [World.cell?_alloc_past _ _ _ (by simp <;> omega), World.cell?_alloc_past _ _ _ (by simp <;> omega), World.cell?_alloc_at _ _ _ _ (by simp)]; rfl)
    have tt4 : (w.alloc (.cells #[.int .i64 sg, .int .i64 pc, .int .i64 am, .bool so, .int .i64 gr] 47)).cell? ⟨w.heap.size, 4, none⟩ = some (.int .i64 gr) := by first | (simp; done) | (rw [World.cell?_alloc_at _ _ _ _ (by simp)]; rfl) | (rw [World.cell?_alloc_past _ _ _ (by simp <;> omega), World.cell?_alloc_at _ _ _ _ (by simp)]; rfl) | (rw [World.cell?_alloc_past _ _ _ (by simp <;> omega), World.cell?_alloc_past _ _ _ (by simp <;> omega), World.cell?_alloc_at _ _ _ _ (by simp)]; rfl)
    have hb2 := (by repeat (first | exact hbel | refine belAlloc ?_ _ | refine belDrew ?_ | refine belSet ?_ _ _ (by simp)) : Below w.heap.size w (w.alloc (.cells #[.int .i64 sg, .int .i64 pc, .int .i64 am, .bool so, .int .i64 gr] 47)))
    replace hw := belStep hw hb2
    clear hb2 hbel
    generalize w.alloc (.cells #[.int .i64 sg, .int .i64 pc, .int .i64 am, .bool so, .int .i64 gr] 47) = W1 at *
    replace tt0 := keep tt0
    replace tt1 := keep tt1
    replace tt2 := keep tt2
    replace tt3 := keep tt3
    replace tt4 := keep tt4
    have hbel : Below W1.heap.size W1 W1 := Below.refl _ _
    skip
    go_wp2
    go_ret
    exact ⟨by rw [HR.out]; rfl, belStep hw hbel⟩
  rcases Int.lt_or_le am 0 with h5 | h5
  · have HR := Lib.hid (rt_false (so := so) (gr := gr) (show sg < 0 ∨ 2 < sg ∨ pc < 0 ∨ 100 < pc ∨ am < 0 ∨ (pc = 0 ∧ am = 0) ∨ (pc ≠ 0 ∧ am ≠ 0) by omega))
    go_enter Try.func30, Try.ntmps30
    go_upto_region 1 with fail
    have tt0 : (w.alloc (.cells #[.int .i64 sg, .int .i64 pc, .int .i64 am, .bool so, .int .i64 gr] 47)).cell? ⟨w.heap.size, 0, none⟩ = some (.int .i64 sg) := by first | (simp; done) | (rw [World.cell?_alloc_at _ _ _ _ (by simp)]; rfl) | (rw [World.cell?_alloc_past _ _ _ (by simp <;> omega), World.cell?_alloc_at _ _ _ _ (by simp)]; rfl) | (rw [World.cell?_alloc_past _ _ _ (by simp <;> omega), World.cell?_alloc_past _ _ _ (by simp <;> omega), World.cell?_alloc_at _ _ _ _ (by simp)]; rfl)
    have tt1 : (w.alloc (.cells #[.int .i64 sg, .int .i64 pc, .int .i64 am, .bool so, .int .i64 gr] 47)).cell? ⟨w.heap.size, 1, none⟩ = some (.int .i64 pc) := by first | (simp; done) | (rw [World.cell?_alloc_at _ _ _ _ (by simp)]; rfl) | (rw [World.cell?_alloc_past _ _ _ (by simp <;> omega), World.cell?_alloc_at _ _ _ _ (by simp)]; rfl) | (rw [World.cell?_alloc_past _ _ _ (by simp <;> omega), World.cell?_alloc_past _ _ _ (by simp <;> omega), World.cell?_alloc_at _ _ _ _ (by simp)]; rfl)
    have tt2 : (w.alloc (.cells #[.int .i64 sg, .int .i64 pc, .int .i64 am, .bool so, .int .i64 gr] 47)).cell? ⟨w.heap.size, 2, none⟩ = some (.int .i64 am) := by first | (simp; done) | (rw [World.cell?_alloc_at _ _ _ _ (by simp)]; rfl) | (rw [World.cell?_alloc_past _ _ _ (by simp <;> omega), World.cell?_alloc_at _ _ _ _ (by simp)]; rfl) | (rw [World.cell?_alloc_past _ _ _ (by simp <;> omega), World.cell?_alloc_past _ _ _ (by simp <;> omega), World.cell?_alloc_at _ _ _ _ (by simp)]; rfl)
    have tt3 : (w.alloc (.cells #[.int .i64 sg, .int .i64 pc, .int .i64 am, .bool so, .int .i64 gr] 47)).cell? ⟨w.heap.size, 3, none⟩ = some (.bool so) := by first | (simp; done) | (rw [World.cell?_alloc_at _ _ _ _ (by simp)]; rfl) | (rw [World.cell?_alloc_past _ _ _ (by simp <;> omega), World.cell?_alloc_at _ _ _ _ (by simp)]; rfl) | (rw [World.cell?_alloc_past _ _ _ (by simp <;> omega), World.cell?_alloc_past _ _ _ (by simp <;> omega), World.cell?_alloc_at _ _ _ _ (by simp)]; rfl)
    have tt4 : (w.alloc (.cells #[.int .i64 sg, .int .i64 pc, .int .i64 am, .bool so, .int .i64 gr] 47)).cell? ⟨w.heap.size, 4, none⟩ = some (.int .i64 gr) := by first | (simp; done) | (rw [World.cell?_alloc_at _ _ _ _ (by simp)]; rfl) | (rw [World.cell?_alloc_past _ _ _ (by simp <;> omega), World.cell?_alloc_at _ _ _ _ (by simp)]; rfl) | (rw [World.cell?_alloc_past _ _ _ (by simp <;> omega), World.cell?_alloc_past _ _ _ (by simp <;> omega), World.cell?_alloc_at _ _ _ _ (by simp)]; rfl)
    have hb2 := (by repeat (first | exact hbel | refine belAlloc ?_ _ | refine belDrew ?_ | refine belSet ?_ _ _ (by simp)) : Below w.heap.size w (w.alloc (.cells #[.int .i64 sg, .int .i64 pc, .int .i64 am, .bool so, .int .i64 gr] 47)))
    replace hw := belStep hw hb2
    clear hb2 hbel
    generalize w.alloc (.cells #[.int .i64 sg, .int .i64 pc, .int .i64 am, .bool so, .int .i64 gr] 47) = W1 at *
    replace tt0 := keep tt0
    replace tt1 := keep tt1
    replace tt2 := keep tt2
    replace tt3 := keep tt3
    replace tt4 := keep tt4
    have hbel : Below W1.heap.size W1 W1 := Below.refl _ _
    skip
    go_wp2
    go_ret
    exact ⟨by rw [HR.out]; rfl, belStep hw hbel⟩
  have key : ((pc == 0) = true ∧ (am == 0) = true ∧ pc = 0 ∧ am = 0) ∨ ((pc == 0) = false ∧ (am == 0) = false ∧ pc ≠ 0 ∧ am ≠ 0) ∨ ((pc == 0) = true ∧ (am == 0) = false ∧ pc = 0 ∧ am ≠ 0) ∨ ((pc == 0) = false ∧ (am == 0) = true ∧ pc ≠ 0 ∧ am = 0) := by
    rcases Int.decEq pc 0 with a | a <;> rcases Int.decEq am 0 with b | b <;> simp [a, b]
  rcases key with ⟨t1, t2, k1, k2⟩ | ⟨t1, t2, k1, k2⟩ | ⟨t1, t2, k1, k2⟩ | ⟨t1, t2, k1, k2⟩
  · have HR := Lib.hid (rt_false (sg := sg) (so := so) (gr := gr) (show sg < 0 ∨ 2 < sg ∨ pc < 0 ∨ 100 < pc ∨ am < 0 ∨ (pc = 0 ∧ am = 0) ∨ (pc ≠ 0 ∧ am ≠ 0) by omega))
    clear k1 k2
    go_enter Try.func30, Try.ntmps30
    go_upto_region 1 with fail
    have tt0 : (w.alloc (.cells #[.int .i64 sg, .int .i64 pc, .int .i64 am, .bool so, .int .i64 gr] 47)).cell? ⟨w.heap.size, 0, none⟩ = some (.int .i64 sg) := by first | (simp; done) | (rw [World.cell?_alloc_at _ _ _ _ (by simp)]; rfl) | (rw [World.cell?_alloc_past _ _ _ (by simp <;> omega), World.cell?_alloc_at _ _ _ _ (by simp)]; rfl) | (rw [World.cell?_alloc_past _ _ _ (by simp <;> omega), World.cell?_alloc_past _ _ _ (by simp <;> omega), World.cell?_alloc_at _ _ _ _ (by simp)]; rfl)
    have tt1 : (w.alloc (.cells #[.int .i64 sg, .int .i64 pc, .int .i64 am, .bool so, .int .i64 gr] 47)).cell? ⟨w.heap.size, 1, none⟩ = some (.int .i64 pc) := by first | (simp; done) | (rw [World.cell?_alloc_at _ _ _ _ (by simp)]; rfl) | (rw [World.cell?_alloc_past _ _ _ (by simp <;> omega), World.cell?_alloc_at _ _ _ _ (by simp)]; rfl) | (rw [World.cell?_alloc_past _ _ _ (by simp <;> omega), World.cell?_alloc_past _ _ _ (by simp <;> omega), World.cell?_alloc_at _ _ _ _ (by simp)]; rfl)
    have tt2 : (w.alloc (.cells #[.int .i64 sg, .int .i64 pc, .int .i64 am, .bool so, .int .i64 gr] 47)).cell? ⟨w.heap.size, 2, none⟩ = some (.int .i64 am) := by first | (simp; done) | (rw [World.cell?_alloc_at _ _ _ _ (by simp)]; rfl) | (rw [World.cell?_alloc_past _ _ _ (by simp <;> omega), World.cell?_alloc_at _ _ _ _ (by simp)]; rfl) | (rw [World.cell?_alloc_past _ _ _ (by simp <;> omega), World.cell?_alloc_past _ _ _ (by simp <;> omega), World.cell?_alloc_at _ _ _ _ (by simp)]; rfl)
    have tt3 : (w.alloc (.cells #[.int .i64 sg, .int .i64 pc, .int .i64 am, .bool so, .int .i64 gr] 47)).cell? ⟨w.heap.size, 3, none⟩ = some (.bool so) := by first | (simp; done) | (rw [World.cell?_alloc_at _ _ _ _ (by simp)]; rfl) | (rw [World.cell?_alloc_past _ _ _ (by simp <;> omega), World.cell?_alloc_at _ _ _ _ (by simp)]; rfl) | (rw [World.cell?_alloc_past _ _ _ (by simp <;> omega), World.cell?_alloc_past _ _ _ (by simp <;> omega), World.cell?_alloc_at _ _ _ _ (by simp)]; rfl)
    have tt4 : (w.alloc (.cells #[.int .i64 sg, .int .i64 pc, .int .i64 am, .bool so, .int .i64 gr] 47)).cell? ⟨w.heap.size, 4, none⟩ = some (.int .i64 gr) := by first | (simp; done) | (rw [World.cell?_alloc_at _ _ _ _ (by simp)]; rfl) | (rw [World.cell?_alloc_past _ _ _ (by simp <;> omega), World.cell?_alloc_at _ _ _ _ (by simp)]; rfl) | (rw [World.cell?_alloc_past _ _ _ (by simp <;> omega), World.cell?_alloc_past _ _ _ (by simp <;> omega), World.cell?_alloc_at _ _ _ _ (by simp)]; rfl)
    have hb2 := (by repeat (first | exact hbel | refine belAlloc ?_ _ | refine belDrew ?_ | refine belSet ?_ _ _ (by simp)) : Below w.heap.size w (w.alloc (.cells #[.int .i64 sg, .int .i64 pc, .int .i64 am, .bool so, .int .i64 gr] 47)))
    replace hw := belStep hw hb2
    clear hb2 hbel
    generalize w.alloc (.cells #[.int .i64 sg, .int .i64 pc, .int .i64 am, .bool so, .int .i64 gr] 47) = W1 at *
    replace tt0 := keep tt0
    replace tt1 := keep tt1
    replace tt2 := keep tt2
    replace tt3 := keep tt3
    replace tt4 := keep tt4
    have hbel : Below W1.heap.size W1 W1 := Below.refl _ _
    skip
    go_wp2
    go_ret
    exact ⟨by rw [HR.out]; rfl, belStep hw hbel⟩
  · have HR := Lib.hid (rt_false (sg := sg) (so := so) (gr := gr) (show sg < 0 ∨ 2 < sg ∨ pc < 0 ∨ 100 < pc ∨ am < 0 ∨ (pc = 0 ∧ am = 0) ∨ (pc ≠ 0 ∧ am ≠ 0) by omega))
    clear k1 k2
    go_enter Try.func30, Try.ntmps30
    go_upto_region 1 with fail
    have tt0 : (w.alloc (.cells #[.int .i64 sg, .int .i64 pc, .int .i64 am, .bool so, .int .i64 gr] 47)).cell? ⟨w.heap.size, 0, none⟩ = some (.int .i64 sg) := by first | (simp; done) | (rw [World.cell?_alloc_at _ _ _ _ (by simp)]; rfl) | (rw [World.cell?_alloc_past _ _ _ (by simp <;> omega), World.cell?_alloc_at _ _ _ _ (by simp)]; rfl) | (rw [World.cell?_alloc_past _ _ _ (by simp <;> omega), World.cell?_alloc_past _ _ _ (by simp <;> omega), World.cell?_alloc_at _ _ _ _ (by simp)]; rfl)
    have tt1 : (w.alloc (.cells #[.int .i64 sg, .int .i64 pc, .int .i64 am, .bool so, .int .i64 gr] 47)).cell? ⟨w.heap.size, 1, none⟩ = some (.int .i64 pc) := by first | (simp; done) | (rw [World.cell?_alloc_at _ _ _ _ (by simp)]; rfl) | (rw [World.cell?_alloc_past _ _ _ (by simp <;> omega), World.cell?_alloc_at _ _ _ _ (by simp)]; rfl) | (rw [World.cell?_alloc_past _ _ _ (by simp <;> omega), World.cell?_alloc_past _ _ _ (by simp <;> omega), World.cell?_alloc_at _ _ _ _ (by simp)]; rfl)
    have tt2 : (w.alloc (.cells #[.int .i64 sg, .int .i64 pc, .int .i64 am, .bool so, .int .i64 gr] 47)).cell? ⟨w.heap.size, 2, none⟩ = some (.int .i64 am) := by first | (simp; done) | (rw [World.cell?_alloc_at _ _ _ _ (by simp)]; rfl) | (rw [World.cell?_alloc_past _ _ _ (by simp <;> omega), World.cell?_alloc_at _ _ _ _ (by simp)]; rfl) | (rw [World.cell?_alloc_past _ _ _ (by simp <;> omega), World.cell?_alloc_past _ _ _ (by simp <;> omega), World.cell?_alloc_at _ _ _ _ (by simp)]; rfl)
    have tt3 : (w.alloc (.cells #[.int .i64 sg, .int .i64 pc, .int .i64 am, .bool so, .int .i64 gr] 47)).cell? ⟨w.heap.size, 3, none⟩ = some (.bool so) := by first | (simp; done) | (rw [World.cell?_alloc_at _ _ _ _ (by simp)]; rfl) | (rw [World.cell?_alloc_past _ _ _ (by simp <;> omega), World.cell?_alloc_at _ _ _ _ (by simp)]; rfl) | (rw [World.cell?_alloc_past _ _ _ (by simp <;> omega), World.cell?_alloc_past _ _ _ (by simp <;> omega), World.cell?_alloc_at _ _ _ _ (by simp)]; rfl)
    have tt4 : (w.alloc (.cells #[.int .i64 sg, .int .i64 pc, .int .i64 am, .bool so, .int .i64 gr] 47)).cell? ⟨w.heap.size, 4, none⟩ = some (.int .i64 gr) := by first | (simp; done) | (rw [World.cell?_alloc_at _ _ _ _ (by simp)]; rfl) | (rw [World.cell?_alloc_past _ _ _ (by simp <;> omega), World.cell?_alloc_at _ _ _ _ (by simp)]; rfl) | (rw [World.cell?_alloc_past _ _ _ (by simp <;> omega), World.cell?_alloc_past _ _ _ (by simp <;> omega), World.cell?_alloc_at _ _ _ _ (by simp)]; rfl)
    have hb2 := (by repeat (first | exact hbel | refine belAlloc ?_ _ | refine belDrew ?_ | refine belSet ?_ _ _ (by simp)) : Below w.heap.size w (w.alloc (.cells #[.int .i64 sg, .int .i64 pc, .int .i64 am, .bool so, .int .i64 gr] 47)))
    replace hw := belStep hw hb2
    clear hb2 hbel
    generalize w.alloc (.cells #[.int .i64 sg, .int .i64 pc, .int .i64 am, .bool so, .int .i64 gr] 47) = W1 at *
    replace tt0 := keep tt0
    replace tt1 := keep tt1
    replace tt2 := keep tt2
    replace tt3 := keep tt3
    replace tt4 := keep tt4
    have hbel : Below W1.heap.size W1 W1 := Below.refl _ _
    skip
    go_wp2
    go_ret
    exact ⟨by rw [HR.out]; rfl, belStep hw hbel⟩
  · have hh := rt_so (sg := sg) (pc := pc) (am := am) (gr := gr) (by omega) (by omega) h5 (by omega)
    clear k1 k2
    cases so with
    | true =>
      have HR := Lib.hid hh.1
      clear hh
      rcases Int.lt_or_le gr 1 with g1 | g1
      · have HR := Lib.hid (show (⟨sg, pc, am, true, gr⟩ : ThrV).right = false by rw [HR.out, decide_eq_false (by omega)]; rfl)
        go_enter Try.func30, Try.ntmps30
        go_upto_region 1 with fail
        have tt0 : (w.alloc (.cells #[.int .i64 sg, .int .i64 pc, .int .i64 am, .bool true, .int .i64 gr] 47)).cell? ⟨w.heap.size, 0, none⟩ = some (.int .i64 sg) := by first | (simp; done) | (rw [World.cell?_alloc_at _ _ _ _ (by simp)]; rfl) | (rw [World.cell?_alloc_past _ _ _ (by simp <;> omega), World.cell?_alloc_at _ _ _ _ (by simp)]; rfl) | (rw [World.cell?_alloc_past _ _ _ (by simp <;> omega), World.cell?_alloc_past _ _ _ (by simp <;> omega), World.cell?_alloc_at _ _ _ _ (by simp)]; rfl)
        have tt1 : (w.alloc (.cells #[.int .i64 sg, .int .i64 pc, .int .i64 am, .bool true, .int .i64 gr] 47)).cell? ⟨w.heap.size, 1, none⟩ = some (.int .i64 pc) := by first | (simp; done) | (rw [World.cell?_alloc_at _ _ _ _ (by simp)]; rfl) | (rw [World.cell?_alloc_past _ _ _ (by simp <;> omega), World.cell?_alloc_at _ _ _ _ (by simp)]; rfl) | (rw [World.cell?_alloc_past _ _ _ (by simp <;> omega), World.cell?_alloc_past _ _ _ (by simp <;> omega), World.cell?_alloc_at _ _ _ _ (by simp)]; rfl)
        have tt2 : (w.alloc (.cells #[.int .i64 sg, .int .i64 pc, .int .i64 am, .bool true, .int .i64 gr] 47)).cell? ⟨w.heap.size, 2, none⟩ = some (.int .i64 am) := by first | (simp; done) | (rw [World.cell?_alloc_at _ _ _ _ (by simp)]; rfl) | (rw [World.cell?_alloc_past _ _ _ (by simp <;> omega), World.cell?_alloc_at _ _ _ _ (by simp)]; rfl) | (rw [World.cell?_alloc_past _ _ _ (by simp <;> omega), World.cell?_alloc_past _ _ _ (by simp <;> omega), World.cell?_alloc_at _ _ _ _ (by simp)]; rfl)
        have tt3 : (w.alloc (.cells #[.int .i64 sg, .int .i64 pc, .int .i64 am, .bool true, .int .i64 gr] 47)).cell? ⟨w.heap.size, 3, none⟩ = some (.bool true) := by first | (simp; done) | (rw [World.cell?_alloc_at _ _ _ _ (by simp)]; rfl) | (rw [World.cell?_alloc_past _ _ _ (by simp <;> omega), World.cell?_alloc_at _ _ _ _ (by simp)]; rfl) | (rw [World.cell?_alloc_past _ _ _ (by simp <;> omega), World.cell?_alloc_past _ _ _ (by simp <;> omega), World.cell?_alloc_at _ _ _ _ (by simp)]; rfl)
        have tt4 : (w.alloc (.cells #[.int .i64 sg, .int .i64 pc, .int .i64 am, .bool true, .int .i64 gr] 47)).cell? ⟨w.heap.size, 4, none⟩ = some (.int .i64 gr) := by first | (simp; done) | (rw [World.cell?_alloc_at _ _ _ _ (by simp)]; rfl) | (rw [World.cell?_alloc_past _ _ _ (by simp <;> omega), World.cell?_alloc_at _ _ _ _ (by simp)]; rfl) | (rw [World.cell?_alloc_past _ _ _ (by simp <;> omega), World.cell?_alloc_past _ _ _ (by simp <;> omega), World.cell?_alloc_at _ _ _ _ (by simp)]; rfl)
        have hb2 := (by repeat (first | exact hbel | refine belAlloc ?_ _ | refine belDrew ?_ | refine belSet ?_ _ _ (by simp)) : Below w.heap.size w (w.alloc (.cells #[.int .i64 sg, .int .i64 pc, .int .i64 am, .bool true, .int .i64 gr] 47)))
        replace hw := belStep hw hb2
        clear hb2 hbel
        generalize w.alloc (.cells #[.int .i64 sg, .int .i64 pc, .int .i64 am, .bool true, .int .i64 gr] 47) = W1 at *
        replace tt0 := keep tt0
        replace tt1 := keep tt1
        replace tt2 := keep tt2
        replace tt3 := keep tt3
        replace tt4 := keep tt4
        have hbel : Below W1.heap.size W1 W1 := Below.refl _ _
        skip
        go_wp2
        go_ret
        exact ⟨by rw [HR.out]; rfl, belStep hw hbel⟩
      · have HR := Lib.hid (show (⟨sg, pc, am, true, gr⟩ : ThrV).right = decide (gr ≤ 1000) by rw [HR.out, decide_eq_true (by omega)]; rfl)
        go_enter Try.func30, Try.ntmps30
        go_upto_region 1 with fail
        have tt0 : (w.alloc (.cells #[.int .i64 sg, .int .i64 pc, .int .i64 am, .bool true, .int .i64 gr] 47)).cell? ⟨w.heap.size, 0, none⟩ = some (.int .i64 sg) := by first | (simp; done) | (rw [World.cell?_alloc_at _ _ _ _ (by simp)]; rfl) | (rw [World.cell?_alloc_past _ _ _ (by simp <;> omega), World.cell?_alloc_at _ _ _ _ (by simp)]; rfl) | (rw [World.cell?_alloc_past _ _ _ (by simp <;> omega), World.cell?_alloc_past _ _ _ (by simp <;> omega), World.cell?_alloc_at _ _ _ _ (by simp)]; rfl)
        have tt1 : (w.alloc (.cells #[.int .i64 sg, .int .i64 pc, .int .i64 am, .bool true, .int .i64 gr] 47)).cell? ⟨w.heap.size, 1, none⟩ = some (.int .i64 pc) := by first | (simp; done) | (rw [World.cell?_alloc_at _ _ _ _ (by simp)]; rfl) | (rw [World.cell?_alloc_past _ _ _ (by simp <;> omega), World.cell?_alloc_at _ _ _ _ (by simp)]; rfl) | (rw [World.cell?_alloc_past _ _ _ (by simp <;> omega), World.cell?_alloc_past _ _ _ (by simp <;> omega), World.cell?_alloc_at _ _ _ _ (by simp)]; rfl)
        have tt2 : (w.alloc (.cells #[.int .i64 sg, .int .i64 pc, .int .i64 am, .bool true, .int .i64 gr] 47)).cell? ⟨w.heap.size, 2, none⟩ = some (.int .i64 am) := by first | (simp; done) | (rw [World.cell?_alloc_at _ _ _ _ (by simp)]; rfl) | (rw [World.cell?_alloc_past _ _ _ (by simp <;> omega), World.cell?_alloc_at _ _ _ _ (by simp)]; rfl) | (rw [World.cell?_alloc_past _ _ _ (by simp <;> omega), World.cell?_alloc_past _ _ _ (by simp <;> omega), World.cell?_alloc_at _ _ _ _ (by simp)]; rfl)
        have tt3 : (w.alloc (.cells #[.int .i64 sg, .int .i64 pc, .int .i64 am, .bool true, .int .i64 gr] 47)).cell? ⟨w.heap.size, 3, none⟩ = some (.bool true) := by first | (simp; done) | (rw [World.cell?_alloc_at _ _ _ _ (by simp)]; rfl) | (rw [World.cell?_alloc_past _ _ _ (by simp <;> omega), World.cell?_alloc_at _ _ _ _ (by simp)]; rfl) | (rw [World.cell?_alloc_past _ _ _ (by simp <;> omega), World.cell?_alloc_past _ _ _ (by simp <;> omega), World.cell?_alloc_at _ _ _ _ (by simp)]; rfl)
        have tt4 : (w.alloc (.cells #[.int .i64 sg, .int .i64 pc, .int .i64 am, .bool true, .int .i64 gr] 47)).cell? ⟨w.heap.size, 4, none⟩ = some (.int .i64 gr) := by first | (simp; done) | (rw [World.cell?_alloc_at _ _ _ _ (by simp)]; rfl) | (rw [World.cell?_alloc_past _ _ _ (by simp <;> omega), World.cell?_alloc_at _ _ _ _ (by simp)]; rfl) | (rw [World.cell?_alloc_past _ _ _ (by simp <;> omega), World.cell?_alloc_past _ _ _ (by simp <;> omega), World.cell?_alloc_at _ _ _ _ (by simp)]; rfl)
        have hb2 := (by repeat (first | exact hbel | refine belAlloc ?_ _ | refine belDrew ?_ | refine belSet ?_ _ _ (by simp)) : Below w.heap.size w (w.alloc (.cells #[.int .i64 sg, .int .i64 pc, .int .i64 am, .bool true, .int .i64 gr] 47)))
        replace hw := belStep hw hb2
        clear hb2 hbel
        generalize w.alloc (.cells #[.int .i64 sg, .int .i64 pc, .int .i64 am, .bool true, .int .i64 gr] 47) = W1 at *
        replace tt0 := keep tt0
        replace tt1 := keep tt1
        replace tt2 := keep tt2
        replace tt3 := keep tt3
        replace tt4 := keep tt4
        have hbel : Below W1.heap.size W1 W1 := Below.refl _ _
        skip
        go_wp2
        go_ret
        exact ⟨by rw [HR.out]; rfl, belStep hw hbel⟩
    | false =>
      have HR := Lib.hid hh.2
      clear hh
      go_enter Try.func30, Try.ntmps30
      go_upto_region 1 with fail
      have tt0 : (w.alloc (.cells #[.int .i64 sg, .int .i64 pc, .int .i64 am, .bool false, .int .i64 gr] 47)).cell? ⟨w.heap.size, 0, none⟩ = some (.int .i64 sg) := by first | (simp; done) | (rw [World.cell?_alloc_at _ _ _ _ (by simp)]; rfl) | (rw [World.cell?_alloc_past _ _ _ (by simp <;> omega), World.cell?_alloc_at _ _ _ _ (by simp)]; rfl) | (rw [World.cell?_alloc_past _ _ _ (by simp <;> omega), World.cell?_alloc_past _ _ _ (by simp <;> omega), World.cell?_alloc_at _ _ _ _ (by simp)]; rfl)
      have tt1 : (w.alloc (.cells #[.int .i64 sg, .int .i64 pc, .int .i64 am, .bool false, .int .i64 gr] 47)).cell? ⟨w.heap.size, 1, none⟩ = some (.int .i64 pc) := by first | (simp; done) | (rw [World.cell?_alloc_at _ _ _ _ (by simp)]; rfl) | (rw [World.cell?_alloc_past _ _ _ (by simp <;> omega), World.cell?_alloc_at _ _ _ _ (by simp)]; rfl) | (rw [World.cell?_alloc_past _ _ _ (by simp <;> omega), World.cell?_alloc_past _ _ _ (by simp <;> omega), World.cell?_alloc_at _ _ _ _ (by simp)]; rfl)
      have tt2 : (w.alloc (.cells #[.int .i64 sg, .int .i64 pc, .int .i64 am, .bool false, .int .i64 gr] 47)).cell? ⟨w.heap.size, 2, none⟩ = some (.int .i64 am) := by first | (simp; done) | (rw [World.cell?_alloc_at _ _ _ _ (by simp)]; rfl) | (rw [World.cell?_alloc_past _ _ _ (by simp <;> omega), World.cell?_alloc_at _ _ _ _ (by simp)]; rfl) | (rw [World.cell?_alloc_past _ _ _ (by simp <;> omega), World.cell?_alloc_past _ _ _ (by simp <;> omega), World.cell?_alloc_at _ _ _ _ (by simp)]; rfl)
      have tt3 : (w.alloc (.cells #[.int .i64 sg, .int .i64 pc, .int .i64 am, .bool false, .int .i64 gr] 47)).cell? ⟨w.heap.size, 3, none⟩ = some (.bool false) := by first | (simp; done) | (rw [World.cell?_alloc_at _ _ _ _ (by simp)]; rfl) | (rw [World.cell?_alloc_past _ _ _ (by simp <;> omega), World.cell?_alloc_at _ _ _ _ (by simp)]; rfl) | (rw [World.cell?_alloc_past _ _ _ (by simp <;> omega), World.cell?_alloc_past _ _ _ (by simp <;> omega), World.cell?_alloc_at _ _ _ _ (by simp)]; rfl)
      have tt4 : (w.alloc (.cells #[.int .i64 sg, .int .i64 pc, .int .i64 am, .bool false, .int .i64 gr] 47)).cell? ⟨w.heap.size, 4, none⟩ = some (.int .i64 gr) := by first | (simp; done) | (rw [World.cell?_alloc_at _ _ _ _ (by simp)]; rfl) | (rw [World.cell?_alloc_past _ _ _ (by simp <;> omega), World.cell?_alloc_at _ _ _ _ (by simp)]; rfl) | (rw [World.cell?_alloc_past _ _ _ (by simp <;> omega), World.cell?_alloc_past _ _ _ (by simp <;> omega), World.cell?_alloc_at _ _ _ _ (by simp)]; rfl)
      have hb2 := (by repeat (first | exact hbel | refine belAlloc ?_ _ | refine belDrew ?_ | refine belSet ?_ _ _ (by simp)) : Below w.heap.size w (w.alloc (.cells #[.int .i64 sg, .int .i64 pc, .int .i64 am, .bool false, .int .i64 gr] 47)))
      replace hw := belStep hw hb2
      clear hb2 hbel
      generalize w.alloc (.cells #[.int .i64 sg, .int .i64 pc, .int .i64 am, .bool false, .int .i64 gr] 47) = W1 at *
      replace tt0 := keep tt0
      replace tt1 := keep tt1
      replace tt2 := keep tt2
      replace tt3 := keep tt3
      replace tt4 := keep tt4
      have hbel : Below W1.heap.size W1 W1 := Below.refl _ _
      skip
      go_wp2
      go_ret
      exact ⟨by rw [HR.out]; rfl, belStep hw hbel⟩
  · have hh := rt_so (sg := sg) (pc := pc) (am := am) (gr := gr) (by omega) (by omega) h5 (by omega)
    clear k1 k2
    cases so with
    | true =>
      have HR := Lib.hid hh.1
      clear hh
      rcases Int.lt_or_le gr 1 with g1 | g1
      · have HR := Lib.hid (show (⟨sg, pc, am, true, gr⟩ : ThrV).right = false by rw [HR.out, decide_eq_false (by omega)]; rfl)
        go_enter Try.func30, Try.ntmps30
        go_upto_region 1 with fail
        have tt0 : (w.alloc (.cells #[.int .i64 sg, .int .i64 pc, .int .i64 am, .bool true, .int .i64 gr] 47)).cell? ⟨w.heap.size, 0, none⟩ = some (.int .i64 sg) := by first | (simp; done) | (rw [World.cell?_alloc_at _ _ _ _ (by simp)]; rfl) | (rw [World.cell?_alloc_past _ _ _ (by simp <;> omega), World.cell?_alloc_at _ _ _ _ (by simp)]; rfl) | (rw [World.cell?_alloc_past _ _ _ (by simp <;> omega), World.cell?_alloc_past _ _ _ (by simp <;> omega), World.cell?_alloc_at _ _ _ _ (by simp)]; rfl)
        have tt1 : (w.alloc (.cells #[.int .i64 sg, .int .i64 pc, .int .i64 am, .bool true, .int .i64 gr] 47)).cell? ⟨w.heap.size, 1, none⟩ = some (.int .i64 pc) := by first | (simp; done) | (rw [World.cell?_alloc_at _ _ _ _ (by simp)]; rfl) | (rw [World.cell?_alloc_past _ _ _ (by simp <;> omega), World.cell?_alloc_at _ _ _ _ (by simp)]; rfl) | (rw [World.cell?_alloc_past _ _ _ (by simp <;> omega), World.cell?_alloc_past _ _ _ (by simp <;> omega), World.cell?_alloc_at _ _ _ _ (by simp)]; rfl)
        have tt2 : (w.alloc (.cells #[.int .i64 sg, .int .i64 pc, .int .i64 am, .bool true, .int .i64 gr] 47)).cell? ⟨w.heap.size, 2, none⟩ = some (.int .i64 am) := by first | (simp; done) | (rw [World.cell?_alloc_at _ _ _ _ (by simp)]; rfl) | (rw [World.cell?_alloc_past _ _ _ (by simp <;> omega), World.cell?_alloc_at _ _ _ _ (by simp)]; rfl) | (rw [World.cell?_alloc_past _ _ _ (by simp <;> omega), World.cell?_alloc_past _ _ _ (by simp <;> omega), World.cell?_alloc_at _ _ _ _ (by simp)]; rfl)
        have tt3 : (w.alloc (.cells #[.int .i64 sg, .int .i64 pc, .int .i64 am, .bool true, .int .i64 gr] 47)).cell? ⟨w.heap.size, 3, none⟩ = some (.bool true) := by first | (simp; done) | (rw [World.cell?_alloc_at _ _ _ _ (by simp)]; rfl) | (rw [World.cell?_alloc_past _ _ _ (by simp <;> omega), World.cell?_alloc_at _ _ _ _ (by simp)]; rfl) | (rw [World.cell?_alloc_past _ _ _ (by simp <;> omega), World.cell?_alloc_past _ _ _ (by simp <;> omega), World.cell?_alloc_at _ _ _ _ (by simp)]; rfl)
        have tt4 : (w.alloc (.cells #[.int .i64 sg, .int .i64 pc, .int .i64 am, .bool true, .int .i64 gr] 47)).cell? ⟨w.heap.size, 4, none⟩ = some (.int .i64 gr) := by first | (simp; done) | (rw [World.cell?_alloc_at _ _ _ _ (by simp)]; rfl) | (rw [World.cell?_alloc_past _ _ _ (by simp <;> omega), World.cell?_alloc_at _ _ _ _ (by simp)]; rfl) | (rw [World.cell?_alloc_past _ _ _ (by simp <;> omega), World.cell?_alloc_past _ _ _ (by simp <;> omega), World.cell?_alloc_at _ _ _ _ (by simp)]; rfl)
        have hb2 := (by repeat (first | exact hbel | refine belAlloc ?_ _ | refine belDrew ?_ | refine belSet ?_ _ _ (by simp)) : Below w.heap.size w (w.alloc (.cells #[.int .i64 sg, .int .i64 pc, .int .i64 am, .bool true, .int .i64 gr] 47)))
        replace hw := belStep hw hb2
        clear hb2 hbel
        generalize w.alloc (.cells #[.int .i64 sg, .int .i64 pc, .int .i64 am, .bool true, .int .i64 gr] 47) = W1 at *
        replace tt0 := keep tt0
        replace tt1 := keep tt1
        replace tt2 := keep tt2
        replace tt3 := keep tt3
        replace tt4 := keep tt4
        have hbel : Below W1.heap.size W1 W1 := Below.refl _ _
        skip
        go_wp2
        go_ret
        exact ⟨by rw [HR.out]; rfl, belStep hw hbel⟩
      · have HR := Lib.hid (show (⟨sg, pc, am, true, gr⟩ : ThrV).right = decide (gr ≤ 1000) by rw [HR.out, decide_eq_true (by omega)]; rfl)
        go_enter Try.func30, Try.ntmps30
        go_upto_region 1 with fail
        have tt0 : (w.alloc (.cells #[.int .i64 sg, .int .i64 pc, .int .i64 am, .bool true, .int .i64 gr] 47)).cell? ⟨w.heap.size, 0, none⟩ = some (.int .i64 sg) := by first | (simp; done) | (rw [World.cell?_alloc_at _ _ _ _ (by simp)]; rfl) | (rw [World.cell?_alloc_past _ _ _ (by simp <;> omega), World.cell?_alloc_at _ _ _ _ (by simp)]; rfl) | (rw [World.cell?_alloc_past _ _ _ (by simp <;> omega), World.cell?_alloc_past _ _ _ (by simp <;> omega), World.cell?_alloc_at _ _ _ _ (by simp)]; rfl)
        have tt1 : (w.alloc (.cells #[.int .i64 sg, .int .i64 pc, .int .i64 am, .bool true, .int .i64 gr] 47)).cell? ⟨w.heap.size, 1, none⟩ = some (.int .i64 pc) := by first | (simp; done) | (rw [World.cell?_alloc_at _ _ _ _ (by simp)]; rfl) | (rw [World.cell?_alloc_past _ _ _ (by simp <;> omega), World.cell?_alloc_at _ _ _ _ (by simp)]; rfl) | (rw [World.cell?_alloc_past _ _ _ (by simp <;> omega), World.cell?_alloc_past _ _ _ (by simp <;> omega), World.cell?_alloc_at _ _ _ _ (by simp)]; rfl)
        have tt2 : (w.alloc (.cells #[.int .i64 sg, .int .i64 pc, .int .i64 am, .bool true, .int .i64 gr] 47)).cell? ⟨w.heap.size, 2, none⟩ = some (.int .i64 am) := by first | (simp; done) | (rw [World.cell?_alloc_at _ _ _ _ (by simp)]; rfl) | (rw [World.cell?_alloc_past _ _ _ (by simp <;> omega), World.cell?_alloc_at _ _ _ _ (by simp)]; rfl) | (rw [World.cell?_alloc_past _ _ _ (by simp <;> omega), World.cell?_alloc_past _ _ _ (by simp <;> omega), World.cell?_alloc_at _ _ _ _ (by simp)]; rfl)
        have tt3 : (w.alloc (.cells #[.int .i64 sg, .int .i64 pc, .int .i64 am, .bool true, .int .i64 gr] 47)).cell? ⟨w.heap.size, 3, none⟩ = some (.bool true) := by first | (simp; done) | (rw [World.cell?_alloc_at _ _ _ _ (by simp)]; rfl) | (rw [World.cell?_alloc_past _ _ _ (by simp <;> omega), World.cell?_alloc_at _ _ _ _ (by simp)]; rfl) | (rw [World.cell?_alloc_past _ _ _ (by simp <;> omega), World.cell?_alloc_past _ _ _ (by simp <;> omega), World.cell?_alloc_at _ _ _ _ (by simp)]; rfl)
        have tt4 : (w.alloc (.cells #[.int .i64 sg, .int .i64 pc, .int .i64 am, .bool true, .int .i64 gr] 47)).cell? ⟨w.heap.size, 4, none⟩ = some (.int .i64 gr) := by first | (simp; done) | (rw [World.cell?_alloc_at _ _ _ _ (by simp)]; rfl) | (rw [World.cell?_alloc_past _ _ _ (by simp <;> omega), World.cell?_alloc_at _ _ _ _ (by simp)]; rfl) | (rw [World.cell?_alloc_past _ _ _ (by simp <;> omega), World.cell?_alloc_past _ _ _ (by simp <;> omega), World.cell?_alloc_at _ _ _ _ (by simp)]; rfl)
        have hb2 := (by repeat (first | exact hbel | refine belAlloc ?_ _ | refine belDrew ?_ | refine belSet ?_ _ _ (by simp)) : Below w.heap.size w (w.alloc (.cells #[.int .i64 sg, .int .i64 pc, .int .i64 am, .bool true, .int .i64 gr] 47)))
        replace hw := belStep hw hb2
        clear hb2 hbel
        generalize w.alloc (.cells #[.int .i64 sg, .int .i64 pc, .int .i64 am, .bool true, .int .i64 gr] 47) = W1 at *
        replace tt0 := keep tt0
        replace tt1 := keep tt1
        replace tt2 := keep tt2
        replace tt3 := keep tt3
        replace tt4 := keep tt4
        have hbel : Below W1.heap.size W1 W1 := Below.refl _ _
        skip
        go_wp2
        go_ret
        exact ⟨by rw [HR.out]; rfl, belStep hw hbel⟩
    | false =>
      have HR := Lib.hid hh.2
      clear hh
      go_enter Try.func30, Try.ntmps30
      go_upto_region 1 with fail
      have tt0 : (w.alloc (.cells #[.int .i64 sg, .int .i64 pc, .int .i64 am, .bool false, .int .i64 gr] 47)).cell? ⟨w.heap.size, 0, none⟩ = some (.int .i64 sg) := by first | (simp; done) | (rw [World.cell?_alloc_at _ _ _ _ (by simp)]; rfl) | (rw [World.cell?_alloc_past _ _ _ (by simp <;> omega), World.cell?_alloc_at _ _ _ _ (by simp)]; rfl) | (rw [World.cell?_alloc_past _ _ _ (by simp <;> omega), World.cell?_alloc_past _ _ _ (by simp <;> omega), World.cell?_alloc_at _ _ _ _ (by simp)]; rfl)
      have tt1 : (w.alloc (.cells #[.int .i64 sg, .int .i64 pc, .int .i64 am, .bool false, .int .i64 gr] 47)).cell? ⟨w.heap.size, 1, none⟩ = some (.int .i64 pc) := by first | (simp; done) | (rw [World.cell?_alloc_at _ _ _ _ (by simp)]; rfl) | (rw [World.cell?_alloc_past _ _ _ (by simp <;> omega), World.cell?_alloc_at _ _ _ _ (by simp)]; rfl) | (rw [World.cell?_alloc_past _ _ _ (by simp <;> omega), World.cell?_alloc_past _ _ _ (by simp <;> omega), World.cell?_alloc_at _ _ _ _ (by simp)]; rfl)
      have tt2 : (w.alloc (.cells #[.int .i64 sg, .int .i64 pc, .int .i64 am, .bool false, .int .i64 gr] 47)).cell? ⟨w.heap.size, 2, none⟩ = some (.int .i64 am) := by first | (simp; done) | (rw [World.cell?_alloc_at _ _ _ _ (by simp)]; rfl) | (rw [World.cell?_alloc_past _ _ _ (by simp <;> omega), World.cell?_alloc_at _ _ _ _ (by simp)]; rfl) | (rw [World.cell?_alloc_past _ _ _ (by simp <;> omega), World.cell?_alloc_past _ _ _ (by simp <;> omega), World.cell?_alloc_at _ _ _ _ (by simp)]; rfl)
      have tt3 : (w.alloc (.cells #[.int .i64 sg, .int .i64 pc, .int .i64 am, .bool false, .int .i64 gr] 47)).cell? ⟨w.heap.size, 3, none⟩ = some (.bool false) := by first | (simp; done) | (rw [World.cell?_alloc_at _ _ _ _ (by simp)]; rfl) | (rw [World.cell?_alloc_past _ _ _ (by simp <;> omega), World.cell?_alloc_at _ _ _ _ (by simp)]; rfl) | (rw [World.cell?_alloc_past _ _ _ (by simp <;> omega), World.cell?_alloc_past _ _ _ (by simp <;> omega), World.cell?_alloc_at _ _ _ _ (by simp)]; rfl)
      have tt4 : (w.alloc (.cells #[.int .i64 sg, .int .i64 pc, .int .i64 am, .bool false, .int .i64 gr] 47)).cell? ⟨w.heap.size, 4, none⟩ = some (.int .i64 gr) := by first | (simp; done) | (rw [World.cell?_alloc_at _ _ _ _ (by simp)]; rfl) | (rw [World.cell?_alloc_past _ _ _ (by simp <;> omega), World.cell?_alloc_at _ _ _ _ (by simp)]; rfl) | (rw [World.cell?_alloc_past _ _ _ (by simp <;> omega), World.cell?_alloc_past _ _ _ (by simp <;> omega), World.cell?_alloc_at _ _ _ _ (by simp)]; rfl)
      have hb2 := (by repeat (first | exact hbel | refine belAlloc ?_ _ | refine belDrew ?_ | refine belSet ?_ _ _ (by simp)) : Below w.heap.size w (w.alloc (.cells #[.int .i64 sg, .int .i64 pc, .int .i64 am, .bool false, .int .i64 gr] 47)))
      replace hw := belStep hw hb2
      clear hb2 hbel
      generalize w.alloc (.cells #[.int .i64 sg, .int .i64 pc, .int .i64 am, .bool false, .int .i64 gr] 47) = W1 at *
      replace tt0 := keep tt0
      replace tt1 := keep tt1
      replace tt2 := keep tt2
      replace tt3 := keep tt3
      replace tt4 := keep tt4
      have hbel : Below W1.heap.size W1 W1 := Below.refl _ _
      skip
      go_wp2
      go_ret
      exact ⟨by rw [HR.out]; rfl, belStep hw hbel⟩

set_option maxRecDepth 100000 in
set_option maxHeartbeats 4000000 in
/-- thresh.Right of a right threshold. -/
theorem thr_Right (t : ThrV) (w : World) (hr : t.right = true) : Calls Try.prog 31 #[.agg #[.int .i64 t.sig, .int .i64 t.pct, .int .i64 t.amt, .bool t.soft, .int .i64 t.grace]] w fun e w' => e = .returned (.bool true) ∧ Below w.heap.size w w' := by
  obtain ⟨⟨s0, s1⟩, hp, hg⟩ := ThrV.facts hr
  obtain ⟨sg, pc, am, so, gr⟩ := t
  simp only at s0 s1 hp hg ⊢
  clear hr
  have hw : Below w.heap.size w w := Below.refl _ _
  have hbel := hw
  have hsg : ∃ s : ByteArray, (s = ⟨#[109, 101, 109, 111, 114, 121]⟩ ∨ s = ⟨#[100, 105, 115, 107]⟩ ∨ s = ⟨#[112, 105, 100]⟩) ∧ ∀ u, Calls Try.prog 37 #[.int .i64 sg] u fun e w' => e = .returned (.string s) ∧ u = w' := by
    have hc : sg = 0 ∨ sg = 1 ∨ sg = 2 := by omega
    rcases hc with rfl | rfl | rfl
    · exact ⟨_, .inl rfl, fun u => thr_word 0 u⟩
    · exact ⟨_, .inr (.inl rfl), fun u => thr_word 1 u⟩
    · exact ⟨_, .inr (.inr rfl), fun u => thr_word 2 u⟩
  clear s0 s1
  obtain ⟨s, hsg, CX⟩ := hsg
  rcases hsg with rfl | rfl | rfl
  all_goals
    have HX := Lib.hid CX
    clear CX
    have HP := Lib.hid (fun u => thr_within pc 100 u)
    have HG := Lib.hid (fun u => thr_within gr 1000 u)
    rcases hp with ⟨p1, p2, rfl⟩ | ⟨rfl, p1⟩
    · rw [decide_eq_true p1, decide_eq_true p2] at HP
      have p3 : (pc == 0) = false := by simp; omega
      clear p1 p2
      rcases hg with ⟨rfl, g1, g2⟩ | ⟨rfl, rfl⟩
      · rw [decide_eq_true g1, decide_eq_true g2] at HG
        clear g1 g2
        go_enter Try.func31, Try.ntmps31
        go_upto_region 1 with fail
        have tt0 : (w.alloc (.cells #[.int .i64 sg, .int .i64 pc, .int .i64 0, .bool true, .int .i64 gr] 47)).cell? ⟨w.heap.size, 0, none⟩ = some (.int .i64 sg) := by first | (simp; done) | (rw [World.cell?_alloc_at _ _ _ _ (by simp)]; rfl) | (rw [World.cell?_alloc_past _ _ _ (by simp <;> omega), World.cell?_alloc_at _ _ _ _ (by simp)]; rfl) | (rw [World.cell?_alloc_past _ _ _ (by simp <;> omega), World.cell?_alloc_past _ _ _ (by simp <;> omega), World.cell?_alloc_at _ _ _ _ (by simp)]; rfl)
        have tt1 : (w.alloc (.cells #[.int .i64 sg, .int .i64 pc, .int .i64 0, .bool true, .int .i64 gr] 47)).cell? ⟨w.heap.size, 1, none⟩ = some (.int .i64 pc) := by first | (simp; done) | (rw [World.cell?_alloc_at _ _ _ _ (by simp)]; rfl) | (rw [World.cell?_alloc_past _ _ _ (by simp <;> omega), World.cell?_alloc_at _ _ _ _ (by simp)]; rfl) | (rw [World.cell?_alloc_past _ _ _ (by simp <;> omega), World.cell?_alloc_past _ _ _ (by simp <;> omega), World.cell?_alloc_at _ _ _ _ (by simp)]; rfl)
        have tt2 : (w.alloc (.cells #[.int .i64 sg, .int .i64 pc, .int .i64 0, .bool true, .int .i64 gr] 47)).cell? ⟨w.heap.size, 2, none⟩ = some (.int .i64 0) := by first | (simp; done) | (rw [World.cell?_alloc_at _ _ _ _ (by simp)]; rfl) | (rw [World.cell?_alloc_past _ _ _ (by simp <;> omega), World.cell?_alloc_at _ _ _ _ (by simp)]; rfl) | (rw [World.cell?_alloc_past _ _ _ (by simp <;> omega), World.cell?_alloc_past _ _ _ (by simp <;> omega), World.cell?_alloc_at _ _ _ _ (by simp)]; rfl)
        have tt3 : (w.alloc (.cells #[.int .i64 sg, .int .i64 pc, .int .i64 0, .bool true, .int .i64 gr] 47)).cell? ⟨w.heap.size, 3, none⟩ = some (.bool true) := by first | (simp; done) | (rw [World.cell?_alloc_at _ _ _ _ (by simp)]; rfl) | (rw [World.cell?_alloc_past _ _ _ (by simp <;> omega), World.cell?_alloc_at _ _ _ _ (by simp)]; rfl) | (rw [World.cell?_alloc_past _ _ _ (by simp <;> omega), World.cell?_alloc_past _ _ _ (by simp <;> omega), World.cell?_alloc_at _ _ _ _ (by simp)]; rfl)
        have tt4 : (w.alloc (.cells #[.int .i64 sg, .int .i64 pc, .int .i64 0, .bool true, .int .i64 gr] 47)).cell? ⟨w.heap.size, 4, none⟩ = some (.int .i64 gr) := by first | (simp; done) | (rw [World.cell?_alloc_at _ _ _ _ (by simp)]; rfl) | (rw [World.cell?_alloc_past _ _ _ (by simp <;> omega), World.cell?_alloc_at _ _ _ _ (by simp)]; rfl) | (rw [World.cell?_alloc_past _ _ _ (by simp <;> omega), World.cell?_alloc_past _ _ _ (by simp <;> omega), World.cell?_alloc_at _ _ _ _ (by simp)]; rfl)
        have hb2 := (by repeat (first | exact hbel | refine belAlloc ?_ _ | refine belDrew ?_ | refine belSet ?_ _ _ (by simp)) : Below w.heap.size w (w.alloc (.cells #[.int .i64 sg, .int .i64 pc, .int .i64 0, .bool true, .int .i64 gr] 47)))
        replace hw := belStep hw hb2
        clear hb2 hbel
        generalize w.alloc (.cells #[.int .i64 sg, .int .i64 pc, .int .i64 0, .bool true, .int .i64 gr] 47) = W1 at *
        replace tt0 := keep tt0
        replace tt1 := keep tt1
        replace tt2 := keep tt2
        replace tt3 := keep tt3
        replace tt4 := keep tt4
        have hbel : Below W1.heap.size W1 W1 := Below.refl _ _
        skip
        go_wp2_with (first | (go_at_call 36; (with_reducible refine (HP.out _).mono ?_); rintro e w' ⟨rfl, rfl⟩) | (go_at_call 36; (with_reducible refine (HG.out _).mono ?_); rintro e w' ⟨rfl, rfl⟩) | (go_at_call 37; (with_reducible refine (HX.out _).mono ?_); rintro e w' ⟨rfl, rfl⟩))
        go_ret
        exact ⟨rfl, belStep hw hbel⟩
      · go_enter Try.func31, Try.ntmps31
        go_upto_region 1 with fail
        have tt0 : (w.alloc (.cells #[.int .i64 sg, .int .i64 pc, .int .i64 0, .bool false, .int .i64 0] 47)).cell? ⟨w.heap.size, 0, none⟩ = some (.int .i64 sg) := by first | (simp; done) | (rw [World.cell?_alloc_at _ _ _ _ (by simp)]; rfl) | (rw [World.cell?_alloc_past _ _ _ (by simp <;> omega), World.cell?_alloc_at _ _ _ _ (by simp)]; rfl) | (rw [World.cell?_alloc_past _ _ _ (by simp <;> omega), World.cell?_alloc_past _ _ _ (by simp <;> omega), World.cell?_alloc_at _ _ _ _ (by simp)]; rfl)
        have tt1 : (w.alloc (.cells #[.int .i64 sg, .int .i64 pc, .int .i64 0, .bool false, .int .i64 0] 47)).cell? ⟨w.heap.size, 1, none⟩ = some (.int .i64 pc) := by first | (simp; done) | (rw [World.cell?_alloc_at _ _ _ _ (by simp)]; rfl) | (rw [World.cell?_alloc_past _ _ _ (by simp <;> omega), World.cell?_alloc_at _ _ _ _ (by simp)]; rfl) | (rw [World.cell?_alloc_past _ _ _ (by simp <;> omega), World.cell?_alloc_past _ _ _ (by simp <;> omega), World.cell?_alloc_at _ _ _ _ (by simp)]; rfl)
        have tt2 : (w.alloc (.cells #[.int .i64 sg, .int .i64 pc, .int .i64 0, .bool false, .int .i64 0] 47)).cell? ⟨w.heap.size, 2, none⟩ = some (.int .i64 0) := by first | (simp; done) | (rw [World.cell?_alloc_at _ _ _ _ (by simp)]; rfl) | (rw [World.cell?_alloc_past _ _ _ (by simp <;> omega), World.cell?_alloc_at _ _ _ _ (by simp)]; rfl) | (rw [World.cell?_alloc_past _ _ _ (by simp <;> omega), World.cell?_alloc_past _ _ _ (by simp <;> omega), World.cell?_alloc_at _ _ _ _ (by simp)]; rfl)
        have tt3 : (w.alloc (.cells #[.int .i64 sg, .int .i64 pc, .int .i64 0, .bool false, .int .i64 0] 47)).cell? ⟨w.heap.size, 3, none⟩ = some (.bool false) := by first | (simp; done) | (rw [World.cell?_alloc_at _ _ _ _ (by simp)]; rfl) | (rw [World.cell?_alloc_past _ _ _ (by simp <;> omega), World.cell?_alloc_at _ _ _ _ (by simp)]; rfl) | (rw [World.cell?_alloc_past _ _ _ (by simp <;> omega), World.cell?_alloc_past _ _ _ (by simp <;> omega), World.cell?_alloc_at _ _ _ _ (by simp)]; rfl)
        have tt4 : (w.alloc (.cells #[.int .i64 sg, .int .i64 pc, .int .i64 0, .bool false, .int .i64 0] 47)).cell? ⟨w.heap.size, 4, none⟩ = some (.int .i64 0) := by first | (simp; done) | (rw [World.cell?_alloc_at _ _ _ _ (by simp)]; rfl) | (rw [World.cell?_alloc_past _ _ _ (by simp <;> omega), World.cell?_alloc_at _ _ _ _ (by simp)]; rfl) | (rw [World.cell?_alloc_past _ _ _ (by simp <;> omega), World.cell?_alloc_past _ _ _ (by simp <;> omega), World.cell?_alloc_at _ _ _ _ (by simp)]; rfl)
        have hb2 := (by repeat (first | exact hbel | refine belAlloc ?_ _ | refine belDrew ?_ | refine belSet ?_ _ _ (by simp)) : Below w.heap.size w (w.alloc (.cells #[.int .i64 sg, .int .i64 pc, .int .i64 0, .bool false, .int .i64 0] 47)))
        replace hw := belStep hw hb2
        clear hb2 hbel
        generalize w.alloc (.cells #[.int .i64 sg, .int .i64 pc, .int .i64 0, .bool false, .int .i64 0] 47) = W1 at *
        replace tt0 := keep tt0
        replace tt1 := keep tt1
        replace tt2 := keep tt2
        replace tt3 := keep tt3
        replace tt4 := keep tt4
        have hbel : Below W1.heap.size W1 W1 := Below.refl _ _
        skip
        go_wp2_with (first | (go_at_call 36; (with_reducible refine (HP.out _).mono ?_); rintro e w' ⟨rfl, rfl⟩) | (go_at_call 37; (with_reducible refine (HX.out _).mono ?_); rintro e w' ⟨rfl, rfl⟩))
        go_ret
        exact ⟨rfl, belStep hw hbel⟩
    · rw [show (decide ((1 : Int) ≤ 0) && decide ((0 : Int) ≤ 100)) = false from rfl] at HP
      rcases hg with ⟨rfl, g1, g2⟩ | ⟨rfl, rfl⟩
      · rw [decide_eq_true g1, decide_eq_true g2] at HG
        clear g1 g2
        go_enter Try.func31, Try.ntmps31
        go_upto_region 1 with fail
        have tt0 : (w.alloc (.cells #[.int .i64 sg, .int .i64 0, .int .i64 am, .bool true, .int .i64 gr] 47)).cell? ⟨w.heap.size, 0, none⟩ = some (.int .i64 sg) := by first | (simp; done) | (rw [World.cell?_alloc_at _ _ _ _ (by simp)]; rfl) | (rw [World.cell?_alloc_past _ _ _ (by simp <;> omega), World.cell?_alloc_at _ _ _ _ (by simp)]; rfl) | (rw [World.cell?_alloc_past _ _ _ (by simp <;> omega), World.cell?_alloc_past _ _ _ (by simp <;> omega), World.cell?_alloc_at _ _ _ _ (by simp)]; rfl)
        have tt1 : (w.alloc (.cells #[.int .i64 sg, .int .i64 0, .int .i64 am, .bool true, .int .i64 gr] 47)).cell? ⟨w.heap.size, 1, none⟩ = some (.int .i64 0) := by first | (simp; done) | (rw [World.cell?_alloc_at _ _ _ _ (by simp)]; rfl) | (rw [World.cell?_alloc_past _ _ _ (by simp <;> omega), World.cell?_alloc_at _ _ _ _ (by simp)]; rfl) | (rw [World.cell?_alloc_past _ _ _ (by simp <;> omega), World.cell?_alloc_past _ _ _ (by simp <;> omega), World.cell?_alloc_at _ _ _ _ (by simp)]; rfl)
        have tt2 : (w.alloc (.cells #[.int .i64 sg, .int .i64 0, .int .i64 am, .bool true, .int .i64 gr] 47)).cell? ⟨w.heap.size, 2, none⟩ = some (.int .i64 am) := by first | (simp; done) | (rw [World.cell?_alloc_at _ _ _ _ (by simp)]; rfl) | (rw [World.cell?_alloc_past _ _ _ (by simp <;> omega), World.cell?_alloc_at _ _ _ _ (by simp)]; rfl) | (rw [World.cell?_alloc_past _ _ _ (by simp <;> omega), World.cell?_alloc_past _ _ _ (by simp <;> omega), World.cell?_alloc_at _ _ _ _ (by simp)]; rfl)
        have tt3 : (w.alloc (.cells #[.int .i64 sg, .int .i64 0, .int .i64 am, .bool true, .int .i64 gr] 47)).cell? ⟨w.heap.size, 3, none⟩ = some (.bool true) := by first | (simp; done) | (rw [World.cell?_alloc_at _ _ _ _ (by simp)]; rfl) | (rw [World.cell?_alloc_past _ _ _ (by simp <;> omega), World.cell?_alloc_at _ _ _ _ (by simp)]; rfl) | (rw [World.cell?_alloc_past _ _ _ (by simp <;> omega), World.cell?_alloc_past _ _ _ (by simp <;> omega), World.cell?_alloc_at _ _ _ _ (by simp)]; rfl)
        have tt4 : (w.alloc (.cells #[.int .i64 sg, .int .i64 0, .int .i64 am, .bool true, .int .i64 gr] 47)).cell? ⟨w.heap.size, 4, none⟩ = some (.int .i64 gr) := by first | (simp; done) | (rw [World.cell?_alloc_at _ _ _ _ (by simp)]; rfl) | (rw [World.cell?_alloc_past _ _ _ (by simp <;> omega), World.cell?_alloc_at _ _ _ _ (by simp)]; rfl) | (rw [World.cell?_alloc_past _ _ _ (by simp <;> omega), World.cell?_alloc_past _ _ _ (by simp <;> omega), World.cell?_alloc_at _ _ _ _ (by simp)]; rfl)
        have hb2 := (by repeat (first | exact hbel | refine belAlloc ?_ _ | refine belDrew ?_ | refine belSet ?_ _ _ (by simp)) : Below w.heap.size w (w.alloc (.cells #[.int .i64 sg, .int .i64 0, .int .i64 am, .bool true, .int .i64 gr] 47)))
        replace hw := belStep hw hb2
        clear hb2 hbel
        generalize w.alloc (.cells #[.int .i64 sg, .int .i64 0, .int .i64 am, .bool true, .int .i64 gr] 47) = W1 at *
        replace tt0 := keep tt0
        replace tt1 := keep tt1
        replace tt2 := keep tt2
        replace tt3 := keep tt3
        replace tt4 := keep tt4
        have hbel : Below W1.heap.size W1 W1 := Below.refl _ _
        skip
        go_wp2_with (first | (go_at_call 36; (with_reducible refine (HP.out _).mono ?_); rintro e w' ⟨rfl, rfl⟩) | (go_at_call 36; (with_reducible refine (HG.out _).mono ?_); rintro e w' ⟨rfl, rfl⟩) | (go_at_call 37; (with_reducible refine (HX.out _).mono ?_); rintro e w' ⟨rfl, rfl⟩))
        go_ret
        exact ⟨rfl, belStep hw hbel⟩
      · go_enter Try.func31, Try.ntmps31
        go_upto_region 1 with fail
        have tt0 : (w.alloc (.cells #[.int .i64 sg, .int .i64 0, .int .i64 am, .bool false, .int .i64 0] 47)).cell? ⟨w.heap.size, 0, none⟩ = some (.int .i64 sg) := by first | (simp; done) | (rw [World.cell?_alloc_at _ _ _ _ (by simp)]; rfl) | (rw [World.cell?_alloc_past _ _ _ (by simp <;> omega), World.cell?_alloc_at _ _ _ _ (by simp)]; rfl) | (rw [World.cell?_alloc_past _ _ _ (by simp <;> omega), World.cell?_alloc_past _ _ _ (by simp <;> omega), World.cell?_alloc_at _ _ _ _ (by simp)]; rfl)
        have tt1 : (w.alloc (.cells #[.int .i64 sg, .int .i64 0, .int .i64 am, .bool false, .int .i64 0] 47)).cell? ⟨w.heap.size, 1, none⟩ = some (.int .i64 0) := by first | (simp; done) | (rw [World.cell?_alloc_at _ _ _ _ (by simp)]; rfl) | (rw [World.cell?_alloc_past _ _ _ (by simp <;> omega), World.cell?_alloc_at _ _ _ _ (by simp)]; rfl) | (rw [World.cell?_alloc_past _ _ _ (by simp <;> omega), World.cell?_alloc_past _ _ _ (by simp <;> omega), World.cell?_alloc_at _ _ _ _ (by simp)]; rfl)
        have tt2 : (w.alloc (.cells #[.int .i64 sg, .int .i64 0, .int .i64 am, .bool false, .int .i64 0] 47)).cell? ⟨w.heap.size, 2, none⟩ = some (.int .i64 am) := by first | (simp; done) | (rw [World.cell?_alloc_at _ _ _ _ (by simp)]; rfl) | (rw [World.cell?_alloc_past _ _ _ (by simp <;> omega), World.cell?_alloc_at _ _ _ _ (by simp)]; rfl) | (rw [World.cell?_alloc_past _ _ _ (by simp <;> omega), World.cell?_alloc_past _ _ _ (by simp <;> omega), World.cell?_alloc_at _ _ _ _ (by simp)]; rfl)
        have tt3 : (w.alloc (.cells #[.int .i64 sg, .int .i64 0, .int .i64 am, .bool false, .int .i64 0] 47)).cell? ⟨w.heap.size, 3, none⟩ = some (.bool false) := by first | (simp; done) | (rw [World.cell?_alloc_at _ _ _ _ (by simp)]; rfl) | (rw [World.cell?_alloc_past _ _ _ (by simp <;> omega), World.cell?_alloc_at _ _ _ _ (by simp)]; rfl) | (rw [World.cell?_alloc_past _ _ _ (by simp <;> omega), World.cell?_alloc_past _ _ _ (by simp <;> omega), World.cell?_alloc_at _ _ _ _ (by simp)]; rfl)
        have tt4 : (w.alloc (.cells #[.int .i64 sg, .int .i64 0, .int .i64 am, .bool false, .int .i64 0] 47)).cell? ⟨w.heap.size, 4, none⟩ = some (.int .i64 0) := by first | (simp; done) | (rw [World.cell?_alloc_at _ _ _ _ (by simp)]; rfl) | (rw [World.cell?_alloc_past _ _ _ (by simp <;> omega), World.cell?_alloc_at _ _ _ _ (by simp)]; rfl) | (rw [World.cell?_alloc_past _ _ _ (by simp <;> omega), World.cell?_alloc_past _ _ _ (by simp <;> omega), World.cell?_alloc_at _ _ _ _ (by simp)]; rfl)
        have hb2 := (by repeat (first | exact hbel | refine belAlloc ?_ _ | refine belDrew ?_ | refine belSet ?_ _ _ (by simp)) : Below w.heap.size w (w.alloc (.cells #[.int .i64 sg, .int .i64 0, .int .i64 am, .bool false, .int .i64 0] 47)))
        replace hw := belStep hw hb2
        clear hb2 hbel
        generalize w.alloc (.cells #[.int .i64 sg, .int .i64 0, .int .i64 am, .bool false, .int .i64 0] 47) = W1 at *
        replace tt0 := keep tt0
        replace tt1 := keep tt1
        replace tt2 := keep tt2
        replace tt3 := keep tt3
        replace tt4 := keep tt4
        have hbel : Below W1.heap.size W1 W1 := Below.refl _ _
        skip
        go_wp2_with (first | (go_at_call 36; (with_reducible refine (HP.out _).mono ?_); rintro e w' ⟨rfl, rfl⟩) | (go_at_call 37; (with_reducible refine (HX.out _).mono ?_); rintro e w' ⟨rfl, rfl⟩))
        go_ret
        exact ⟨rfl, belStep hw hbel⟩

set_option maxRecDepth 100000 in
set_option maxHeartbeats 4000000 in
theorem ref_Met (t : ThrV) (c a : Int) (w : World) (ht : t.ok) (hc : InI c) (ha : InI a) : Calls Try.prog 34 #[.agg #[.int .i64 t.sig, .int .i64 t.pct, .int .i64 t.amt, .bool t.soft, .int .i64 t.grace], .int .i64 c, .int .i64 a] w fun e w' => e = .returned (.bool (metF t c a)) ∧ Below w.heap.size w w' := by
  have hw : Below w.heap.size w w := Below.refl _ _
  have hbel := hw
  obtain ⟨_, hp, _, _⟩ := ht
  have CB := Lib.hid (fun v => wref_Compare a 100 c t.pct v ha (by unfold InI; omega) hc hp)
  rw [show satNum 100 = 100 from rfl] at CB
  by_cases h0 : 0 < t.pct
  · have HM := Lib.hid (show metF t c a = decide (cmpI (satNum a * 100) (satNum c * satNum t.pct) < 0) by
      unfold metF; rw [if_pos h0]
      unfold cmpI
      rw [decide_eq_decide]
      constructor
      · intro h; rw [if_pos h]; omega
      · intro h; split at h
        · assumption
        · split at h <;> omega)
    generalize cmpI (satNum a * 100) (satNum c * satNum t.pct) = b at *
    go_enter Try.func34, Try.ntmps34
    go_upto_region 1 with fail
    have tt0 : (w.alloc (.cells #[.int .i64 t.sig, .int .i64 t.pct, .int .i64 t.amt, .bool t.soft, .int .i64 t.grace] 47)).cell? ⟨w.heap.size, 0, none⟩ = some (.int .i64 t.sig) := by first | (simp; done) | (rw [World.cell?_alloc_at _ _ _ _ (by simp)]; rfl) | (rw [World.cell?_alloc_past _ _ _ (by simp <;> omega), World.cell?_alloc_at _ _ _ _ (by simp)]; rfl) | (rw [World.cell?_alloc_past _ _ _ (by simp <;> omega), World.cell?_alloc_past _ _ _ (by simp <;> omega), World.cell?_alloc_at _ _ _ _ (by simp)]; rfl)
    have tt1 : (w.alloc (.cells #[.int .i64 t.sig, .int .i64 t.pct, .int .i64 t.amt, .bool t.soft, .int .i64 t.grace] 47)).cell? ⟨w.heap.size, 1, none⟩ = some (.int .i64 t.pct) := by first | (simp; done) | (rw [World.cell?_alloc_at _ _ _ _ (by simp)]; rfl) | (rw [World.cell?_alloc_past _ _ _ (by simp <;> omega), World.cell?_alloc_at _ _ _ _ (by simp)]; rfl) | (rw [World.cell?_alloc_past _ _ _ (by simp <;> omega), World.cell?_alloc_past _ _ _ (by simp <;> omega), World.cell?_alloc_at _ _ _ _ (by simp)]; rfl)
    have tt2 : (w.alloc (.cells #[.int .i64 t.sig, .int .i64 t.pct, .int .i64 t.amt, .bool t.soft, .int .i64 t.grace] 47)).cell? ⟨w.heap.size, 2, none⟩ = some (.int .i64 t.amt) := by first | (simp; done) | (rw [World.cell?_alloc_at _ _ _ _ (by simp)]; rfl) | (rw [World.cell?_alloc_past _ _ _ (by simp <;> omega), World.cell?_alloc_at _ _ _ _ (by simp)]; rfl) | (rw [World.cell?_alloc_past _ _ _ (by simp <;> omega), World.cell?_alloc_past _ _ _ (by simp <;> omega), World.cell?_alloc_at _ _ _ _ (by simp)]; rfl)
    have tt3 : (w.alloc (.cells #[.int .i64 t.sig, .int .i64 t.pct, .int .i64 t.amt, .bool t.soft, .int .i64 t.grace] 47)).cell? ⟨w.heap.size, 3, none⟩ = some (.bool t.soft) := by first | (simp; done) | (rw [World.cell?_alloc_at _ _ _ _ (by simp)]; rfl) | (rw [World.cell?_alloc_past _ _ _ (by simp <;> omega), World.cell?_alloc_at _ _ _ _ (by simp)]; rfl) | (rw [World.cell?_alloc_past _ _ _ (by simp <;> omega), World.cell?_alloc_past _ _ _ (by simp <;> omega), World.cell?_alloc_at _ _ _ _ (by simp)]; rfl)
    have tt4 : (w.alloc (.cells #[.int .i64 t.sig, .int .i64 t.pct, .int .i64 t.amt, .bool t.soft, .int .i64 t.grace] 47)).cell? ⟨w.heap.size, 4, none⟩ = some (.int .i64 t.grace) := by first | (simp; done) | (rw [World.cell?_alloc_at _ _ _ _ (by simp)]; rfl) | (rw [World.cell?_alloc_past _ _ _ (by simp <;> omega), World.cell?_alloc_at _ _ _ _ (by simp)]; rfl) | (rw [World.cell?_alloc_past _ _ _ (by simp <;> omega), World.cell?_alloc_past _ _ _ (by simp <;> omega), World.cell?_alloc_at _ _ _ _ (by simp)]; rfl)
    have hb2 := (by repeat (first | exact hbel | refine belAlloc ?_ _ | refine belDrew ?_ | refine belSet ?_ _ _ (by simp)) : Below w.heap.size w (w.alloc (.cells #[.int .i64 t.sig, .int .i64 t.pct, .int .i64 t.amt, .bool t.soft, .int .i64 t.grace] 47)))
    replace hw := belStep hw hb2
    clear hb2 hbel
    generalize w.alloc (.cells #[.int .i64 t.sig, .int .i64 t.pct, .int .i64 t.amt, .bool t.soft, .int .i64 t.grace] 47) = W1 at *
    replace tt0 := keep tt0
    replace tt1 := keep tt1
    replace tt2 := keep tt2
    replace tt3 := keep tt3
    replace tt4 := keep tt4
    have hbel : Below W1.heap.size W1 W1 := Below.refl _ _
    skip
    go_wp2_with (first | (go_at_call 40; (with_reducible refine (CB.out _).mono ?_); rintro e w' ⟨rfl, rfl⟩))
    go_ret
    exact ⟨by rw [HM.out]; rfl, belStep hw hbel⟩
  · have HM := Lib.hid (show metF t c a = decide (a < t.amt) by unfold metF; rw [if_neg h0])
    go_enter Try.func34, Try.ntmps34
    go_upto_region 1 with fail
    have tt0 : (w.alloc (.cells #[.int .i64 t.sig, .int .i64 t.pct, .int .i64 t.amt, .bool t.soft, .int .i64 t.grace] 47)).cell? ⟨w.heap.size, 0, none⟩ = some (.int .i64 t.sig) := by first | (simp; done) | (rw [World.cell?_alloc_at _ _ _ _ (by simp)]; rfl) | (rw [World.cell?_alloc_past _ _ _ (by simp <;> omega), World.cell?_alloc_at _ _ _ _ (by simp)]; rfl) | (rw [World.cell?_alloc_past _ _ _ (by simp <;> omega), World.cell?_alloc_past _ _ _ (by simp <;> omega), World.cell?_alloc_at _ _ _ _ (by simp)]; rfl)
    have tt1 : (w.alloc (.cells #[.int .i64 t.sig, .int .i64 t.pct, .int .i64 t.amt, .bool t.soft, .int .i64 t.grace] 47)).cell? ⟨w.heap.size, 1, none⟩ = some (.int .i64 t.pct) := by first | (simp; done) | (rw [World.cell?_alloc_at _ _ _ _ (by simp)]; rfl) | (rw [World.cell?_alloc_past _ _ _ (by simp <;> omega), World.cell?_alloc_at _ _ _ _ (by simp)]; rfl) | (rw [World.cell?_alloc_past _ _ _ (by simp <;> omega), World.cell?_alloc_past _ _ _ (by simp <;> omega), World.cell?_alloc_at _ _ _ _ (by simp)]; rfl)
    have tt2 : (w.alloc (.cells #[.int .i64 t.sig, .int .i64 t.pct, .int .i64 t.amt, .bool t.soft, .int .i64 t.grace] 47)).cell? ⟨w.heap.size, 2, none⟩ = some (.int .i64 t.amt) := by first | (simp; done) | (rw [World.cell?_alloc_at _ _ _ _ (by simp)]; rfl) | (rw [World.cell?_alloc_past _ _ _ (by simp <;> omega), World.cell?_alloc_at _ _ _ _ (by simp)]; rfl) | (rw [World.cell?_alloc_past _ _ _ (by simp <;> omega), World.cell?_alloc_past _ _ _ (by simp <;> omega), World.cell?_alloc_at _ _ _ _ (by simp)]; rfl)
    have tt3 : (w.alloc (.cells #[.int .i64 t.sig, .int .i64 t.pct, .int .i64 t.amt, .bool t.soft, .int .i64 t.grace] 47)).cell? ⟨w.heap.size, 3, none⟩ = some (.bool t.soft) := by first | (simp; done) | (rw [World.cell?_alloc_at _ _ _ _ (by simp)]; rfl) | (rw [World.cell?_alloc_past _ _ _ (by simp <;> omega), World.cell?_alloc_at _ _ _ _ (by simp)]; rfl) | (rw [World.cell?_alloc_past _ _ _ (by simp <;> omega), World.cell?_alloc_past _ _ _ (by simp <;> omega), World.cell?_alloc_at _ _ _ _ (by simp)]; rfl)
    have tt4 : (w.alloc (.cells #[.int .i64 t.sig, .int .i64 t.pct, .int .i64 t.amt, .bool t.soft, .int .i64 t.grace] 47)).cell? ⟨w.heap.size, 4, none⟩ = some (.int .i64 t.grace) := by first | (simp; done) | (rw [World.cell?_alloc_at _ _ _ _ (by simp)]; rfl) | (rw [World.cell?_alloc_past _ _ _ (by simp <;> omega), World.cell?_alloc_at _ _ _ _ (by simp)]; rfl) | (rw [World.cell?_alloc_past _ _ _ (by simp <;> omega), World.cell?_alloc_past _ _ _ (by simp <;> omega), World.cell?_alloc_at _ _ _ _ (by simp)]; rfl)
    have hb2 := (by repeat (first | exact hbel | refine belAlloc ?_ _ | refine belDrew ?_ | refine belSet ?_ _ _ (by simp)) : Below w.heap.size w (w.alloc (.cells #[.int .i64 t.sig, .int .i64 t.pct, .int .i64 t.amt, .bool t.soft, .int .i64 t.grace] 47)))
    replace hw := belStep hw hb2
    clear hb2 hbel
    generalize w.alloc (.cells #[.int .i64 t.sig, .int .i64 t.pct, .int .i64 t.amt, .bool t.soft, .int .i64 t.grace] 47) = W1 at *
    replace tt0 := keep tt0
    replace tt1 := keep tt1
    replace tt2 := keep tt2
    replace tt3 := keep tt3
    replace tt4 := keep tt4
    have hbel : Below W1.heap.size W1 W1 := Below.refl _ _
    skip
    go_wp2
    go_ret
    exact ⟨by rw [HM.out]; rfl, belStep hw hbel⟩
end Go.Proofs.Ytbancemkajgljaa
