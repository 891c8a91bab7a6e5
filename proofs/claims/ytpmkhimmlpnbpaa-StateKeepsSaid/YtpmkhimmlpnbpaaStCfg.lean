
/- Configs that came in; bilgeref06.Right, bilgeref07.Right: contracts (taken out of stage 18). -/
import Derived.Test.YtpmkhimmlpnbpaaStRd
import Derived.Test.YtpmkhimmlpnbpaaPod1
namespace Go.Proofs.Ytpmkhimmlpnbpaa
open Go.ChangeShapes Go.WideShapes Go.ChangeAt Go.RowKit
set_option linter.unusedVariables false
set_option linter.unusedSimpArgs false
/-- A threshold. -/
structure ThrV where
  sig : Int
  pct : Int
  amt : Int
  soft : Bool
  grace : Int
def ThrV.cells (t : ThrV) : List Value := [.int .i64 t.sig, .int .i64 t.pct, .int .i64 t.amt, .bool t.soft, .int .i64 t.grace]
theorem ThrV.cells_len (t : ThrV) : t.cells.length = 5 := rfl
def ThrV.right (t : ThrV) : Bool := decide (0 ≤ t.sig) && decide (t.sig ≤ 2) && ((decide (1 ≤ t.pct) && decide (t.pct ≤ 100) && t.amt == 0) || (t.pct == 0 && decide (0 < t.amt))) && (if t.soft then decide (1 ≤ t.grace) && decide (t.grace ≤ 1000) else t.grace == 0)
theorem rt_false {sg pc am gr : Int} {so : Bool} (h : sg < 0 ∨ 2 < sg ∨ pc < 0 ∨ 100 < pc ∨ am < 0 ∨ (pc = 0 ∧ am = 0) ∨ (pc ≠ 0 ∧ am ≠ 0)) : (⟨sg, pc, am, so, gr⟩ : ThrV).right = false := by
  rw [Bool.eq_false_iff]
  intro q
  unfold ThrV.right at q
  simp only [Bool.and_eq_true, Bool.or_eq_true, decide_eq_true_eq, beq_iff_eq] at q
  obtain ⟨⟨⟨q1, q2⟩, q3⟩, q4⟩ := q
  omega
theorem rt_so {sg pc am gr : Int} (h1 : 0 ≤ sg ∧ sg ≤ 2) (h2 : 0 ≤ pc ∧ pc ≤ 100) (h3 : 0 ≤ am) (h4 : (pc = 0 ∧ am ≠ 0) ∨ (pc ≠ 0 ∧ am = 0)) : (⟨sg, pc, am, true, gr⟩ : ThrV).right = (decide (1 ≤ gr) && decide (gr ≤ 1000)) ∧ (⟨sg, pc, am, false, gr⟩ : ThrV).right = (gr == 0) := by
  unfold ThrV.right
  have e : (decide (0 ≤ sg) && decide (sg ≤ 2) && ((decide (1 ≤ pc) && decide (pc ≤ 100) && am == 0) || (pc == 0 && decide (0 < am)))) = true := by
    simp only [Bool.and_eq_true, Bool.or_eq_true, decide_eq_true_eq, beq_iff_eq]
    omega
  simp only
  rw [e]
  simp only [Bool.true_and, if_true, Bool.false_eq_true, if_false, and_self]
/-- What is known of a right threshold. -/
theorem ThrV.facts {t : ThrV} (h : t.right = true) : (0 ≤ t.sig ∧ t.sig ≤ 2) ∧ ((1 ≤ t.pct ∧ t.pct ≤ 100 ∧ t.amt = 0) ∨ (t.pct = 0 ∧ 0 < t.amt)) ∧ ((t.soft = true ∧ 1 ≤ t.grace ∧ t.grace ≤ 1000) ∨ (t.soft = false ∧ t.grace = 0)) := by
  unfold ThrV.right at h
  cases hs : t.soft <;> rw [hs] at h <;> simp only [Bool.and_eq_true, Bool.or_eq_true, decide_eq_true_eq, beq_iff_eq, if_true, Bool.false_eq_true, if_false, true_and, false_and, and_true, or_false, false_or, reduceCtorEq] at h ⊢ <;> omega
def ThrV.ok (t : ThrV) : Prop := InI t.sig ∧ InI t.pct ∧ InI t.amt ∧ InI t.grace
theorem rd_thr {w : World} {cs : List Value} (h : Rd Try.prog w 80 cs) : ∃ t : ThrV, cs = t.cells ∧ t.ok := by
  obtain ⟨hl, hf⟩ := Rd.struct Try.underlying80 h
  rw [show Try.prog.cellsOf 80 = 5 by kernel_rfl] at hl
  obtain ⟨a, b, c, d, e, rfl⟩ := list5 hl
  have h0 := hf 0 _ rfl
  have h1 := hf 1 _ rfl
  have h2 := hf 2 _ rfl
  have h3 := hf 3 _ rfl
  have h4 := hf 4 _ rfl
  simp [show Try.prog.cellsOf 3 = 1 by kernel_rfl, show Try.prog.cellsOf 4 = 1 by kernel_rfl] at h0 h1 h2 h3 h4
  obtain ⟨x0, e0, w0⟩ := Rd.int Try.underlying3 h0
  obtain ⟨x1, e1, w1⟩ := Rd.int Try.underlying3 h1
  obtain ⟨x2, e2, w2⟩ := Rd.int Try.underlying3 h2
  obtain ⟨x3, e3⟩ := Rd.bool Try.underlying4 h3
  obtain ⟨x4, e4, w4⟩ := Rd.int Try.underlying3 h4
  simp at e0 e1 e2 e3 e4
  subst e0 e1 e2 e3 e4
  exact ⟨⟨x0, x1, x2, x3, x4⟩, rfl, inI_of_wf w0, inI_of_wf w1, inI_of_wf w2, inI_of_wf w4⟩
/-- A config. -/
structure CfgV where
  k0 : Int
  k1 : Int
  k2 : Int
  a0 : Int
  a1 : Int
  a2 : Int
  ta : Option Addr
  tl : Nat
  tc : Nat
  per : Int
  ret : Int
  age : Int
  dead : Int
  L : List ThrV
def CfgV.v (c : CfgV) : Value := .agg #[.int .i64 c.k0, .int .i64 c.k1, .int .i64 c.k2, .int .i64 c.a0, .int .i64 c.a1, .int .i64 c.a2, .slice c.ta c.tl c.tc, .int .i64 c.per, .int .i64 c.ret, .int .i64 c.age, .int .i64 c.dead]
/-- What is known of one that came in. -/
structure CfgV.ok (c : CfgV) (w : World) : Prop where
  ck : InI c.k0 ∧ InI c.k1 ∧ InI c.k2
  ca : InI c.a0 ∧ InI c.a1 ∧ InI c.a2
  cp : InI c.per ∧ InI c.ret ∧ InI c.age ∧ InI c.dead
  len : c.L.length = c.tl
  row : Row w c.ta c.tl c.tc 5 (c.L.flatMap ThrV.cells)
  thr : ∀ t ∈ c.L, t.ok
theorem CfgV.ok.later {c : CfgV} {w w' : World} (h : c.ok w) (hb : Below w.heap.size w w') : c.ok w' := ⟨h.ck, h.ca, h.cp, h.len, h.row.later hb, h.thr⟩
theorem rd_sl {w : World} {g : Value} (h : Rd Try.prog w 55 [g]) : ∃ ta tl tc, g = .slice ta tl tc := by
  rcases Rd.slice Try.underlying55 h with h0 | ⟨ad, len, cap, h1, _⟩
  · simp at h0; exact ⟨_, _, _, h0⟩
  · simp at h1; exact ⟨_, _, _, h1⟩
theorem rd_cfg {w : World} {cs : List Value} (h : Rd Try.prog w 57 cs) : ∃ c : CfgV, Value.agg cs.toArray = c.v ∧ c.ok w := by
  obtain ⟨hl, hf⟩ := Rd.struct Try.underlying57 h
  rw [show Try.prog.cellsOf 57 = 11 by kernel_rfl] at hl
  obtain ⟨a, b, c, d, e, f, g, i, j, k, m, rfl⟩ := list11 hl
  have h0 := hf 0 _ rfl
  have h1 := hf 1 _ rfl
  have h2 := hf 2 _ rfl
  have h3 := hf 3 _ rfl
  have h4 := hf 4 _ rfl
  have h5 := hf 5 _ rfl
  have h6 := hf 6 _ rfl
  simp [show Try.prog.cellsOf 3 = 1 by kernel_rfl, show Try.prog.cellsOf 42 = 3 by kernel_rfl, show Try.prog.cellsOf 55 = 1 by kernel_rfl] at h0 h1 h2 h3 h4 h5 h6
  obtain ⟨x0, x1, x2, rfl, rfl, rfl, i0, i1, i2⟩ := rd_three h0
  obtain ⟨y0, y1, y2, rfl, rfl, rfl, j0, j1, j2⟩ := rd_three h1
  obtain ⟨ta, tl, tc, rfl⟩ := rd_sl h2
  obtain ⟨p, e3, w3⟩ := Rd.int Try.underlying3 h3
  obtain ⟨q, e4, w4⟩ := Rd.int Try.underlying3 h4
  obtain ⟨r, e5, w5⟩ := Rd.int Try.underlying3 h5
  obtain ⟨s, e6, w6⟩ := Rd.int Try.underlying3 h6
  simp at e3 e4 e5 e6
  subst e3 e4 e5 e6
  obtain ⟨L, hL1, hL2, hL3⟩ := Rd.rows ThrV.cells 5 Try.underlying55 (by kernel_rfl) (by omega) ThrV.cells_len ThrV.ok (fun es hes => rd_thr hes) h2
  exact ⟨⟨x0, x1, x2, y0, y1, y2, ta, tl, tc, p, q, r, s, L⟩, rfl, ⟨i0, i1, i2⟩, ⟨j0, j1, j2⟩, ⟨inI_of_wf w3, inI_of_wf w4, inI_of_wf w5, inI_of_wf w6⟩, hL1, hL3, hL2⟩
set_option maxRecDepth 100000 in
theorem open_cfg {H : Type} {enc : TypeId × Value → H} {W : World} {v : Value} {b : Nat} {d : DataW H} {p : List MemPlace} (o : Value.okWide Try.prog W .any b 57 v) (h : DataW.Trod enc Try.prog W 0 (fun _ => true) true 57 v d p) :
    ∃ c : CfgV, v = c.v ∧ c.ok W := by
  obtain ⟨cs, rfl⟩ := agg_of_struct Try.underlying57 o
  obtain ⟨c, hc, hok⟩ := rd_cfg (Rd.of h)
  rw [agg_cells] at hc
  exact ⟨c, by rw [← hc], hok⟩
set_option maxRecDepth 100000 in
set_option maxHeartbeats 8000000 in
theorem ref_Right (sg pc am gr : Int) (so : Bool) (w : World) : Calls Try.prog 47 #[.agg #[.int .i64 sg, .int .i64 pc, .int .i64 am, .bool so, .int .i64 gr]] w fun e w' => e = .returned (.bool (⟨sg, pc, am, so, gr⟩ : ThrV).right) ∧ Below w.heap.size w w' := by
  have hw : Below w.heap.size w w := Below.refl _ _
  have hbel := hw
  rcases Int.lt_or_le sg 0 with h1 | h1
  · have HR := Lib.hid (rt_false (so := so) (gr := gr) (show sg < 0 ∨ 2 < sg ∨ pc < 0 ∨ 100 < pc ∨ am < 0 ∨ (pc = 0 ∧ am = 0) ∨ (pc ≠ 0 ∧ am ≠ 0) by omega))
    go_enter Try.func47, Try.ntmps47
    go_upto_region 1 with fail
    have tt0 : (w.alloc (.cells #[.int .i64 sg, .int .i64 pc, .int .i64 am, .bool so, .int .i64 gr] 80)).cell? ⟨w.heap.size, 0, none⟩ = some (.int .i64 sg) := by first | (simp; done) | (rw [World.cell?_alloc_at _ _ _ _ (by simp)]; rfl) | (rw [World.cell?_alloc_past _ _ _ (by simp <;> omega), World.cell?_alloc_at _ _ _ _ (by simp)]; rfl) | (rw [World.cell?_alloc_past _ _ _ (by simp <;> omega), World.cell?_alloc_past _ _ _ (by simp <;> omega), World.cell?_alloc_at _ _ _ _ (by simp)]; rfl)
    have tt1 : (w.alloc (.cells #[.int .i64 sg, .int .i64 pc, .int .i64 am, .bool so, .int .i64 gr] 80)).cell? ⟨w.heap.size, 1, none⟩ = some (.int .i64 pc) := by first | (simp; done) | (rw [World.cell?_alloc_at _ _ _ _ (by simp)]; rfl) | (rw [World.cell?_alloc_past _ _ _ (by simp <;> omega), World.cell?_alloc_at _ _ _ _ (by simp)]; rfl) | (rw [World.cell?_alloc_past _ _ _ (by simp <;> omega), World.cell?_alloc_past _ _ _ (by simp <;> omega), World.cell?_alloc_at _ _ _ _ (by simp)]; rfl)
    have tt2 : (w.alloc (.cells #[.int .i64 sg, .int .i64 pc, .int .i64 am, .bool so, .int .i64 gr] 80)).cell? ⟨w.heap.size, 2, none⟩ = some (.int .i64 am) := by first | (simp; done) | (rw [World.cell?_alloc_at _ _ _ _ (by simp)]; rfl) | (rw [World.cell?_alloc_past _ _ _ (by simp <;> omega), World.cell?_alloc_at _ _ _ _ (by simp)]; rfl) | (rw [World.cell?_alloc_past _ _ _ (by simp <;> omega), World.cell?_alloc_past _ _ _ (by simp <;> omega), World.cell?_alloc_at _ _ _ _ (by simp)]; rfl)
    have tt3 : (w.alloc (.cells #[.int .i64 sg, .int .i64 pc, .int .i64 am, .bool so, .int .i64 gr] 80)).cell? ⟨w.heap.size, 3, none⟩ = some (.bool so) := by first | (simp; done) | (rw [World.cell?_alloc_at _ _ _ _ (by simp)]; rfl) | (rw [World.cell?_alloc_past _ _ _ (by simp <;> omega), World.cell?_alloc_at _ _ _ _ (by simp)]; rfl) | (rw [World.cell?_alloc_past _ _ _ (by simp <;> omega), World.cell?_alloc_past _ _ _ (by simp <;> omega), World.cell?_alloc_at _ _ _ _ (by simp)]; rfl)
    have tt4 : (w.alloc (.cells #[.int .i64 sg, .int .i64 pc, .int .i64 am, .bool so, .int .i64 gr] 80)).cell? ⟨w.heap.size, 4, none⟩ = some (.int .i64 gr) := by first | (simp; done) | (rw [World.cell?_alloc_at _ _ _ _ (by simp)]; rfl) | (rw [World.cell?_alloc_past _ _ _ (by simp <;> omega), World.cell?_alloc_at _ _ _ _ (by simp)]; rfl) | (rw [World.cell?_alloc_past _ _ _ (by simp <;> omega), World.cell?_alloc_past _ _ _ (by simp <;> omega), World.cell?_alloc_at _ _ _ _ (by simp)]; rfl)
    have hb2 := (by repeat (first | exact hbel | refine belAlloc ?_ _ | refine belDrew ?_ | refine belSet ?_ _ _ (by simp)) : Below w.heap.size w (w.alloc (.cells #[.int .i64 sg, .int .i64 pc, .int .i64 am, .bool so, .int .i64 gr] 80)))
    replace hw := belStep hw hb2
    clear hb2 hbel
    generalize w.alloc (.cells #[.int .i64 sg, .int .i64 pc, .int .i64 am, .bool so, .int .i64 gr] 80) = W1 at *
    replace tt0 := keep tt0
    replace tt1 := keep tt1
    replace tt2 := keep tt2
    replace tt3 := keep tt3
    replace tt4 := keep tt4
    have hbel : Below W1.heap.size W1 W1 := Below.refl _ _
    skip
    go_wp2
    go_ret
    exact ⟨by rw [HR.out]; rfl, belStep hw hbel⟩
  rcases Int.lt_or_le 2 sg with h2 | h2
  · have HR := Lib.hid (rt_false (so := so) (gr := gr) (show sg < 0 ∨ 2 < sg ∨ pc < 0 ∨ 100 < pc ∨ am < 0 ∨ (pc = 0 ∧ am = 0) ∨ (pc ≠ 0 ∧ am ≠ 0) by omega))
    go_enter Try.func47, Try.ntmps47
    go_upto_region 1 with fail
    have tt0 : (w.alloc (.cells #[.int .i64 sg, .int .i64 pc, .int .i64 am, .bool so, .int .i64 gr] 80)).cell? ⟨w.heap.size, 0, none⟩ = some (.int .i64 sg) := by first | (simp; done) | (rw [World.cell?_alloc_at _ _ _ _ (by simp)]; rfl) | (rw [World.cell?_alloc_past _ _ _ (by simp <;> omega), World.cell?_alloc_at _ _ _ _ (by simp)]; rfl) | (rw [World.cell?_alloc_past _ _ _ (by simp <;> omega), World.cell?_alloc_past _ _ _ (by simp <;> omega), World.cell?_alloc_at _ _ _ _ (by simp)]; rfl)
    have tt1 : (w.alloc (.cells #[.int .i64 sg, .int .i64 pc, .int .i64 am, .bool so, .int .i64 gr] 80)).cell? ⟨w.heap.size, 1, none⟩ = some (.int .i64 pc) := by first | (simp; done) | (rw [World.cell?_alloc_at _ _ _ _ (by simp)]; rfl) | (rw [World.cell?_alloc_past _ _ _ (by simp <;> omega), World.cell?_alloc_at _ _ _ _ (by simp)]; rfl) | (rw [World.cell?_alloc_past _ _ _ (by simp <;> omega), World.cell?_alloc_past _ _ _ (by simp <;> omega), World.cell?_alloc_at _ _ _ _ (by simp)]; rfl)
    have tt2 : (w.alloc (.cells #[.int .i64 sg, .int .i64 pc, .int .i64 am, .bool so, .int .i64 gr] 80)).cell? ⟨w.heap.size, 2, none⟩ = some (.int .i64 am) := by first | (simp; done) | (rw [World.cell?_alloc_at _ _ _ _ (by simp)]; rfl) | (rw [World.cell?_alloc_past _ _ _ (by simp <;> omega), World.cell?_alloc_at _ _ _ _ (by simp)]; rfl) | (rw [World.cell?_alloc_past _ _ _ (by simp <;> omega), World.cell?_alloc_past _ _ _ (by simp <;> omega), World.cell?_alloc_at _ _ _ _ (by simp)]; rfl)
    have tt3 : (w.alloc (.cells #[.int .i64 sg, .int .i64 pc, .int .i64 am, .bool so, .int .i64 gr] 80)).cell? ⟨w.heap.size, 3, none⟩ = some (.bool so) := by first | (simp; done) | (rw [World.cell?_alloc_at _ _ _ _ (by simp)]; rfl) | (rw [World.cell?_alloc_past _ _ _ (by simp <;> omega), World.cell?_alloc_at _ _ _ _ (by simp)]; rfl) | (rw [World.cell?_alloc_past _ _ _ (by simp <;> omega), World.cell?_alloc_past _ _ _ (by simp <;> omega), World.cell?_alloc_at _ _ _ _ (by simp)]; rfl)
    have tt4 : (w.alloc (.cells #[.int .i64 sg, .int .i64 pc, .int .i64 am, .bool so, .int .i64 gr] 80)).cell? ⟨w.heap.size, 4, none⟩ = some (.int .i64 gr) := by first | (simp; done) | (rw [World.cell?_alloc_at _ _ _ _ (by simp)]; rfl) | (rw [World.cell?_alloc_past _ _ _ (by simp <;> omega), World.cell?_alloc_at _ _ _ _ (by simp)]; rfl) | (rw [World.cell?_alloc_past _ _ _ (by simp <;> omega), World.cell?_alloc_past _ _ _ (by simp <;> omega), World.cell?_alloc_at _ _ _ _ (by simp)]; rfl)
    have hb2 := (by repeat (first | exact hbel | refine belAlloc ?_ _ | refine belDrew ?_ | refine belSet ?_ _ _ (by simp)) : Below w.heap.size w (w.alloc (.cells #[.int .i64 sg, .int .i64 pc, .int .i64 am, .bool so, .int .i64 gr] 80)))
    replace hw := belStep hw hb2
    clear hb2 hbel
    generalize w.alloc (.cells #[.int .i64 sg, .int .i64 pc, .int .i64 am, .bool so, .int .i64 gr] 80) = W1 at *
    replace tt0 := keep tt0
    replace tt1 := keep tt1
    replace tt2 := keep tt2
    replace tt3 := keep tt3
    replace tt4 := keep tt4
    have hbel : Below W1.heap.size W1 W1 := Below.refl _ _
    skip
    go_wp2
    go_ret
    exact ⟨by rw [HR.out]; rfl, belStep hw hbel⟩
  rcases Int.lt_or_le pc 0 with h3 | h3
  · have HR := Lib.hid (rt_false (so := so) (gr := gr) (show sg < 0 ∨ 2 < sg ∨ pc < 0 ∨ 100 < pc ∨ am < 0 ∨ (pc = 0 ∧ am = 0) ∨ (pc ≠ 0 ∧ am ≠ 0) by omega))
    go_enter Try.func47, Try.ntmps47
    go_upto_region 1 with fail
    have tt0 : (w.alloc (.cells #[.int .i64 sg, .int .i64 pc, .int .i64 am, .bool so, .int .i64 gr] 80)).cell? ⟨w.heap.size, 0, none⟩ = some (.int .i64 sg) := by first | (simp; done) | (rw [World.cell?_alloc_at _ _ _ _ (by simp)]; rfl) | (rw [World.cell?_alloc_past _ _ _ (by simp <;> omega), World.cell?_alloc_at _ _ _ _ (by simp)]; rfl) | (rw [World.cell?_alloc_past _ _ _ (by simp <;> omega), World.cell?_alloc_past _ _ _ (by simp <;> omega), World.cell?_alloc_at _ _ _ _ (by simp)]; rfl)
    have tt1 : (w.alloc (.cells #[.int .i64 sg, .int .i64 pc, .int .i64 am, .bool so, .int .i64 gr] 80)).cell? ⟨w.heap.size, 1, none⟩ = some (.int .i64 pc) := by first | (simp; done) | (rw [World.cell?_alloc_at _ _ _ _ (by simp)]; rfl) | (rw [World.cell?_alloc_past _ _ _ (by simp <;> omega), World.cell?_alloc_at _ _ _ _ (by simp)]; rfl) | (rw [World.cell?_alloc_past _ _ _ (by simp <;> omega), World.cell?_alloc_past _ _ _ (by simp <;> omega), World.cell?_alloc_at _ _ _ _ (by simp)]; rfl)
    have tt2 : (w.alloc (.cells #[.int .i64 sg, .int .i64 pc, .int .i64 am, .bool so, .int .i64 gr] 80)).cell? ⟨w.heap.size, 2, none⟩ = some (.int .i64 am) := by first | (simp; done) | (rw [World.cell?_alloc_at _ _ _ _ (by simp)]; rfl) | (rw [World.cell?_alloc_past _ _ _ (by simp <;> omega), World.cell?_alloc_at _ _ _ _ (by simp)]; rfl) | (rw [World.cell?_alloc_past _ _ _ (by simp <;> omega), World.cell?_alloc_past _ _ _ (by simp <;> omega), World.cell?_alloc_at _ _ _ _ (by simp)]; rfl)
    have tt3 : (w.alloc (.cells #[.int .i64 sg, .int .i64 pc, .int .i64 am, .bool so, .int .i64 gr] 80)).cell? ⟨w.heap.size, 3, none⟩ = some (.bool so) := by first | (simp; done) | (rw [World.cell?_alloc_at _ _ _ _ (by simp)]; rfl) | (rw [World.cell?_alloc_past _ _ _ (by simp <;> omega), World.cell?_alloc_at _ _ _ _ (by simp)]; rfl) | (rw [World.cell?_alloc_past _ _ _ (by simp <;> omega), World.cell?_alloc_past _ _ _ (by simp <;> omega), World.cell?_alloc_at _ _ _ _ (by simp)]; rfl)
    have tt4 : (w.alloc (.cells #[.int .i64 sg, .int .i64 pc, .int .i64 am, .bool so, .int .i64 gr] 80)).cell? ⟨w.heap.size, 4, none⟩ = some (.int .i64 gr) := by first | (simp; done) | (rw [World.cell?_alloc_at _ _ _ _ (by simp)]; rfl) | (rw [World.cell?_alloc_past _ _ _ (by simp <;> omega), World.cell?_alloc_at _ _ _ _ (by simp)]; rfl) | (rw [World.cell?_alloc_past _ _ _ (by simp <;> omega), World.cell?_alloc_past _ _ _ (by simp <;> omega), World.cell?_alloc_at _ _ _ _ (by simp)]; rfl)
    have hb2 := (by repeat (first | exact hbel | refine belAlloc ?_ _ | refine belDrew ?_ | refine belSet ?_ _ _ (by simp)) : Below w.heap.size w (w.alloc (.cells #[.int .i64 sg, .int .i64 pc, .int .i64 am, .bool so, .int .i64 gr] 80)))
    replace hw := belStep hw hb2
    clear hb2 hbel
    generalize w.alloc (.cells #[.int .i64 sg, .int .i64 pc, .int .i64 am, .bool so, .int .i64 gr] 80) = W1 at *
    replace tt0 := keep tt0
    replace tt1 := keep tt1
    replace tt2 := keep tt2
    replace tt3 := keep tt3
    replace tt4 := keep tt4
    have hbel : Below W1.heap.size W1 W1 := Below.refl _ _
    skip
    go_wp2
    go_ret
    exact ⟨by rw [HR.out]; rfl, belStep hw hbel⟩
  rcases Int.lt_or_le 100 pc with h4 | h4
  · have HR := Lib.hid (rt_false (so := so) (gr := gr) (show sg < 0 ∨ 2 < sg ∨ pc < 0 ∨ 100 < pc ∨ am < 0 ∨ (pc = 0 ∧ am = 0) ∨ (pc ≠ 0 ∧ am ≠ 0) by omega))
    go_enter Try.func47, Try.ntmps47
    go_upto_region 1 with fail
    have tt0 : (w.alloc (.cells #[.int .i64 sg, .int .i64 pc, .int .i64 am, .bool so, .int .i64 gr] 80)).cell? ⟨w.heap.size, 0, none⟩ = some (.int .i64 sg) := by first | (simp; done) | (rw [World.cell?_alloc_at _ _ _ _ (by simp)]; rfl) | (rw [World.cell?_alloc_past _ _ _ (by simp <;> omega), World.cell?_alloc_at _ _ _ _ (by simp)]; rfl) | (rw [World.cell?_alloc_past _ _ _ (by simp <;> omega), World.cell?_alloc_past _ _ _ (by simp <;> omega), World.cell?_alloc_at _ _ _ _ (by simp)]; rfl)
    have tt1 : (w.alloc (.cells #[.int .i64 sg, .int .i64 pc, .int .i64 am, .bool so, .int .i64 gr] 80)).cell? ⟨w.heap.size, 1, none⟩ = some (.int .i64 pc) := by first | (simp; done) | (rw [World.cell?_alloc_at _ _ _ _ (by simp)]; rfl) | (rw [World.cell?_alloc_past _ _ _ (by simp <;> omega), World.cell?_alloc_at _ _ _ _ (by simp)]; rfl) | (rw [World.cell?_alloc_past _ _ _ (by simp <;> omega), World.cell?_alloc_past _ _ _ (by simp <;> omega), World.cell?_alloc_at _ _ _ _ (by simp)]; rfl)
    have tt2 : (w.alloc (.cells #[.int .i64 sg, .int .i64 pc, .int .i64 am, .bool so, .int .i64 gr] 80)).cell? ⟨w.heap.size, 2, none⟩ = some (.int .i64 am) := by first | (simp; done) | (rw [World.cell?_alloc_at _ _ _ _ (by simp)]; rfl) | (rw [World.cell?_alloc_past _ _ _ (by simp <;> omega), World.cell?_alloc_at _ _ _ _ (by simp)]; rfl) | (rw [World.cell?_alloc_past _ _ _ (by simp <;> omega), World.cell?_alloc_past _ _ _ (by simp <;> omega), World.cell?_alloc_at _ _ _ _ (by simp)]; rfl)
    have tt3 : (w.alloc (.cells #[.int .i64 sg, .int .i64 pc, .int .i64 am, .bool so, .int .i64 gr] 80)).cell? ⟨w.heap.size, 3, none⟩ = some (.bool so) := by first | (simp; done) | (rw [World.cell?_alloc_at _ _ _ _ (by simp)]; rfl) | (rw [World.cell?_alloc_past _ _ _ (by simp <;> omega), World.cell?_alloc_at _ _ _ _ (by simp)]; rfl) | (rw [World.cell?_alloc_past _ _ _ (by simp <;> omega), World.cell?_alloc_past _ _ _ (by simp <;> omega), World.cell?_alloc_at _ _ _ _ (by simp)]; rfl)
    have tt4 : (w.alloc (.cells #[.int .i64 sg, .int .i64 pc, .int .i64 am, .bool so, .int .i64 gr] 80)).cell? ⟨w.heap.size, 4, none⟩ = some (.int .i64 gr) := by first | (simp; done) | (rw [World.cell?_alloc_at _ _ _ _ (by simp)]; rfl) | (rw [World.cell?_alloc_past _ _ _ (by simp <;> omega), World.cell?_alloc_at _ _ _ _ (by simp)]; rfl) | (rw [World.cell?_alloc_past _ _ _ (by simp <;> omega), World.cell?_alloc_past _ _ _ (by simp <;> omega), World.cell?_alloc_at _ _ _ _ (by simp)]; rfl)
    have hb2 := (by repeat (first | exact hbel | refine belAlloc ?_ _ | refine belDrew ?_ | refine belSet ?_ _ _ (by simp)) : Below w.heap.size w (w.alloc (.cells #[.int .i64 sg, .int .i64 pc, .int .i64 am, .bool so, .int .i64 gr] 80)))
    replace hw := belStep hw hb2
    clear hb2 hbel
    generalize w.alloc (.cells #[.int .i64 sg, .int .i64 pc, .int .i64 am, .bool so, .int .i64 gr] 80) = W1 at *
    replace tt0 := keep tt0
    replace tt1 := keep tt1
    replace tt2 := keep tt2
    replace tt3 := keep tt3
    replace tt4 := keep tt4
    have hbel : Below W1.heap.size W1 W1 := Below.refl _ _
    skip
    go_wp2
    go_ret
    exact ⟨by rw [HR.out]; rfl, belStep hw hbel⟩
  rcases Int.lt_or_le am 0 with h5 | h5
  · have HR := Lib.hid (rt_false (so := so) (gr := gr) (show sg < 0 ∨ 2 < sg ∨ pc < 0 ∨ 100 < pc ∨ am < 0 ∨ (pc = 0 ∧ am = 0) ∨ (pc ≠ 0 ∧ am ≠ 0) by omega))
    go_enter Try.func47, Try.ntmps47
    go_upto_region 1 with fail
    have tt0 : (w.alloc (.cells #[.int .i64 sg, .int .i64 pc, .int .i64 am, .bool so, .int .i64 gr] 80)).cell? ⟨w.heap.size, 0, none⟩ = some (.int .i64 sg) := by first | (simp; done) | (rw [World.cell?_alloc_at _ _ _ _ (by simp)]; rfl) | (rw [World.cell?_alloc_past _ _ _ (by simp <;> omega), World.cell?_alloc_at _ _ _ _ (by simp)]; rfl) | (rw [World.cell?_alloc_past _ _ _ (by simp <;> omega), World.cell?_alloc_past _ _ _ (by simp <;> omega), World.cell?_alloc_at _ _ _ _ (by simp)]; rfl)
    have tt1 : (w.alloc (.cells #[.int .i64 sg, .int .i64 pc, .int .i64 am, .bool so, .int .i64 gr] 80)).cell? ⟨w.heap.size, 1, none⟩ = some (.int .i64 pc) := by first | (simp; done) | (rw [World.cell?_alloc_at _ _ _ _ (by simp)]; rfl) | (rw [World.cell?_alloc_past _ _ _ (by simp <;> omega), World.cell?_alloc_at _ _ _ _ (by simp)]; rfl) | (rw [World.cell?_alloc_past _ _ _ (by simp <;> omega), World.cell?_alloc_past _ _ _ (by simp <;> omega), World.cell?_alloc_at _ _ _ _ (by simp)]; rfl)
    have tt2 : (w.alloc (.cells #[.int .i64 sg, .int .i64 pc, .int .i64 am, .bool so, .int .i64 gr] 80)).cell? ⟨w.heap.size, 2, none⟩ = some (.int .i64 am) := by first | (simp; done) | (rw [World.cell?_alloc_at _ _ _ _ (by simp)]; rfl) | (rw [World.cell?_alloc_past _ _ _ (by simp <;> omega), World.cell?_alloc_at _ _ _ _ (by simp)]; rfl) | (rw [World.cell?_alloc_past _ _ _ (by simp <;> omega), World.cell?_alloc_past _ _ _ (by simp <;> omega), World.cell?_alloc_at _ _ _ _ (by simp)]; rfl)
    have tt3 : (w.alloc (.cells #[.int .i64 sg, .int .i64 pc, .int .i64 am, .bool so, .int .i64 gr] 80)).cell? ⟨w.heap.size, 3, none⟩ = some (.bool so) := by first | (simp; done) | (rw [World.cell?_alloc_at _ _ _ _ (by simp)]; rfl) | (rw [World.cell?_alloc_past _ _ _ (by simp <;> omega), World.cell?_alloc_at _ _ _ _ (by simp)]; rfl) | (rw [World.cell?_alloc_past _ _ _ (by simp <;> omega), World.cell?_alloc_past _ _ _ (by simp <;> omega), World.cell?_alloc_at _ _ _ _ (by simp)]; rfl)
    have tt4 : (w.alloc (.cells #[.int .i64 sg, .int .i64 pc, .int .i64 am, .bool so, .int .i64 gr] 80)).cell? ⟨w.heap.size, 4, none⟩ = some (.int .i64 gr) := by first | (simp; done) | (rw [World.cell?_alloc_at _ _ _ _ (by simp)]; rfl) | (rw [World.cell?_alloc_past _ _ _ (by simp <;> omega), World.cell?_alloc_at _ _ _ _ (by simp)]; rfl) | (rw [World.cell?_alloc_past _ _ _ (by simp <;> omega), World.cell?_alloc_past _ _ _ (by simp <;> omega), World.cell?_alloc_at _ _ _ _ (by simp)]; rfl)
    have hb2 := (by repeat (first | exact hbel | refine belAlloc ?_ _ | refine belDrew ?_ | refine belSet ?_ _ _ (by simp)) : Below w.heap.size w (w.alloc (.cells #[.int .i64 sg, .int .i64 pc, .int .i64 am, .bool so, .int .i64 gr] 80)))
    replace hw := belStep hw hb2
    clear hb2 hbel
    generalize w.alloc (.cells #[.int .i64 sg, .int .i64 pc, .int .i64 am, .bool so, .int .i64 gr] 80) = W1 at *
    replace tt0 := keep tt0
    replace tt1 := keep tt1
    replace tt2 := keep tt2
    replace tt3 := keep tt3
    replace tt4 := keep tt4
    have hbel : Below W1.heap.size W1 W1 := Below.refl _ _
    skip
    go_wp2
    go_ret
    exact ⟨by rw [HR.out]; rfl, belStep hw hbel⟩
  have key : ((pc == 0) = true ∧ (am == 0) = true ∧ pc = 0 ∧ am = 0) ∨ ((pc == 0) = false ∧ (am == 0) = false ∧ pc ≠ 0 ∧ am ≠ 0) ∨ ((pc == 0) = true ∧ (am == 0) = false ∧ pc = 0 ∧ am ≠ 0) ∨ ((pc == 0) = false ∧ (am == 0) = true ∧ pc ≠ 0 ∧ am = 0) := by
    rcases Int.decEq pc 0 with a | a <;> rcases Int.decEq am 0 with b | b <;> simp [a, b]
  rcases key with ⟨t1, t2, k1, k2⟩ | ⟨t1, t2, k1, k2⟩ | ⟨t1, t2, k1, k2⟩ | ⟨t1, t2, k1, k2⟩
  · have HR := Lib.hid (rt_false (sg := sg) (so := so) (gr := gr) (show sg < 0 ∨ 2 < sg ∨ pc < 0 ∨ 100 < pc ∨ am < 0 ∨ (pc = 0 ∧ am = 0) ∨ (pc ≠ 0 ∧ am ≠ 0) by omega))
    clear k1 k2
    go_enter Try.func47, Try.ntmps47
    go_upto_region 1 with fail
    have tt0 : (w.alloc (.cells #[.int .i64 sg, .int .i64 pc, .int .i64 am, .bool so, .int .i64 gr] 80)).cell? ⟨w.heap.size, 0, none⟩ = some (.int .i64 sg) := by first | (simp; done) | (rw [World.cell?_alloc_at _ _ _ _ (by simp)]; rfl) | (rw [World.cell?_alloc_past _ _ _ (by simp <;> omega), World.cell?_alloc_at _ _ _ _ (by simp)]; rfl) | (rw [World.cell?_alloc_past _ _ _ (by simp <;> omega), World.cell?_alloc_past _ _ _ (by simp <;> omega), World.cell?_alloc_at _ _ _ _ (by simp)]; rfl)
    have tt1 : (w.alloc (.cells #[.int .i64 sg, .int .i64 pc, .int .i64 am, .bool so, .int .i64 gr] 80)).cell? ⟨w.heap.size, 1, none⟩ = some (.int .i64 pc) := by first | (simp; done) | (rw [World.cell?_alloc_at _ _ _ _ (by simp)]; rfl) | (rw [World.cell?_alloc_past _ _ _ (by simp <;> omega), World.cell?_alloc_at _ _ _ _ (by simp)]; rfl) | (rw [World.cell?_alloc_past _ _ _ (by simp <;> omega), World.cell?_alloc_past _ _ _ (by simp <;> omega), World.cell?_alloc_at _ _ _ _ (by simp)]; rfl)
    have tt2 : (w.alloc (.cells #[.int .i64 sg, .int .i64 pc, .int .i64 am, .bool so, .int .i64 gr] 80)).cell? ⟨w.heap.size, 2, none⟩ = some (.int .i64 am) := by first | (simp; done) | (rw [World.cell?_alloc_at _ _ _ _ (by simp)]; rfl) | (rw [World.cell?_alloc_past _ _ _ (by simp <;> omega), World.cell?_alloc_at _ _ _ _ (by simp)]; rfl) | (rw [World.cell?_alloc_past _ _ _ (by simp <;> omega), World.cell?_alloc_past _ _ _ (by simp <;> omega), World.cell?_alloc_at _ _ _ _ (by simp)]; rfl)
    have tt3 : (w.alloc (.cells #[.int .i64 sg, .int .i64 pc, .int .i64 am, .bool so, .int .i64 gr] 80)).cell? ⟨w.heap.size, 3, none⟩ = some (.bool so) := by first | (simp; done) | (rw [World.cell?_alloc_at _ _ _ _ (by simp)]; rfl) | (rw [World.cell?_alloc_past _ _ _ (by simp <;> omega), World.cell?_alloc_at _ _ _ _ (by simp)]; rfl) | (rw [World.cell?_alloc_past _ _ _ (by simp <;> omega), World.cell?_alloc_past _ _ _ (by simp <;> omega), World.cell?_alloc_at _ _ _ _ (by simp)]; rfl)
    have tt4 : (w.alloc (.cells #[.int .i64 sg, .int .i64 pc, .int .i64 am, .bool so, .int .i64 gr] 80)).cell? ⟨w.heap.size, 4, none⟩ = some (.int .i64 gr) := by first | (simp; done) | (rw [World.cell?_alloc_at _ _ _ _ (by simp)]; rfl) | (rw [World.cell?_alloc_past _ _ _ (by simp <;> omega), World.cell?_alloc_at _ _ _ _ (by simp)]; rfl) | (rw [World.cell?_alloc_past _ _ _ (by simp <;> omega), World.cell?_alloc_past _ _ _ (by simp <;> omega), World.cell?_alloc_at _ _ _ _ (by simp)]; rfl)
    have hb2 := (by repeat (first | exact hbel | refine belAlloc ?_ _ | refine belDrew ?_ | refine belSet ?_ _ _ (by simp)) : Below w.heap.size w (w.alloc (.cells #[.int .i64 sg, .int .i64 pc, .int .i64 am, .bool so, .int .i64 gr] 80)))
    replace hw := belStep hw hb2
    clear hb2 hbel
    generalize w.alloc (.cells #[.int .i64 sg, .int .i64 pc, .int .i64 am, .bool so, .int .i64 gr] 80) = W1 at *
    replace tt0 := keep tt0
    replace tt1 := keep tt1
    replace tt2 := keep tt2
    replace tt3 := keep tt3
    replace tt4 := keep tt4
    have hbel : Below W1.heap.size W1 W1 := Below.refl _ _
    skip
    go_wp2
    go_ret
    exact ⟨by rw [HR.out]; rfl, belStep hw hbel⟩
  · have HR := Lib.hid (rt_false (sg := sg) (so := so) (gr := gr) (show sg < 0 ∨ 2 < sg ∨ pc < 0 ∨ 100 < pc ∨ am < 0 ∨ (pc = 0 ∧ am = 0) ∨ (pc ≠ 0 ∧ am ≠ 0) by omega))
    clear k1 k2
    go_enter Try.func47, Try.ntmps47
    go_upto_region 1 with fail
    have tt0 : (w.alloc (.cells #[.int .i64 sg, .int .i64 pc, .int .i64 am, .bool so, .int .i64 gr] 80)).cell? ⟨w.heap.size, 0, none⟩ = some (.int .i64 sg) := by first | (simp; done) | (rw [World.cell?_alloc_at _ _ _ _ (by simp)]; rfl) | (rw [World.cell?_alloc_past _ _ _ (by simp <;> omega), World.cell?_alloc_at _ _ _ _ (by simp)]; rfl) | (rw [World.cell?_alloc_past _ _ _ (by simp <;> omega), World.cell?_alloc_past _ _ _ (by simp <;> omega), World.cell?_alloc_at _ _ _ _ (by simp)]; rfl)
    have tt1 : (w.alloc (.cells #[.int .i64 sg, .int .i64 pc, .int .i64 am, .bool so, .int .i64 gr] 80)).cell? ⟨w.heap.size, 1, none⟩ = some (.int .i64 pc) := by first | (simp; done) | (rw [World.cell?_alloc_at _ _ _ _ (by simp)]; rfl) | (rw [World.cell?_alloc_past _ _ _ (by simp <;> omega), World.cell?_alloc_at _ _ _ _ (by simp)]; rfl) | (rw [World.cell?_alloc_past _ _ _ (by simp <;> omega), World.cell?_alloc_past _ _ _ (by simp <;> omega), World.cell?_alloc_at _ _ _ _ (by simp)]; rfl)
    have tt2 : (w.alloc (.cells #[.int .i64 sg, .int .i64 pc, .int .i64 am, .bool so, .int .i64 gr] 80)).cell? ⟨w.heap.size, 2, none⟩ = some (.int .i64 am) := by first | (simp; done) | (rw [World.cell?_alloc_at _ _ _ _ (by simp)]; rfl) | (rw [World.cell?_alloc_past _ _ _ (by simp <;> omega), World.cell?_alloc_at _ _ _ _ (by simp)]; rfl) | (rw [World.cell?_alloc_past _ _ _ (by simp <;> omega), World.cell?_alloc_past _ _ _ (by simp <;> omega), World.cell?_alloc_at _ _ _ _ (by simp)]; rfl)
    have tt3 : (w.alloc (.cells #[.int .i64 sg, .int .i64 pc, .int .i64 am, .bool so, .int .i64 gr] 80)).cell? ⟨w.heap.size, 3, none⟩ = some (.bool so) := by first | (simp; done) | (rw [World.cell?_alloc_at _ _ _ _ (by simp)]; rfl) | (rw [World.cell?_alloc_past _ _ _ (by simp <;> omega), World.cell?_alloc_at _ _ _ _ (by simp)]; rfl) | (rw [World.cell?_alloc_past _ _ _ (by simp <;> omega), World.cell?_alloc_past _ _ _ (by simp <;> omega), World.cell?_alloc_at _ _ _ _ (by simp)]; rfl)
    have tt4 : (w.alloc (.cells #[.int .i64 sg, .int .i64 pc, .int .i64 am, .bool so, .int .i64 gr] 80)).cell? ⟨w.heap.size, 4, none⟩ = some (.int .i64 gr) := by first | (simp; done) | (rw [World.cell?_alloc_at _ _ _ _ (by simp)]; rfl) | (rw [World.cell?_alloc_past _ _ _ (by simp <;> omega), World.cell?_alloc_at _ _ _ _ (by simp)]; rfl) | (rw [World.cell?_alloc_past _ _ _ (by simp <;> omega), World.cell?_alloc_past _ _ _ (by simp <;> omega), World.cell?_alloc_at _ _ _ _ (by simp)]; rfl)
    have hb2 := (by repeat (first | exact hbel | refine belAlloc ?_ _ | refine belDrew ?_ | refine belSet ?_ _ _ (by simp)) : Below w.heap.size w (w.alloc (.cells #[.int .i64 sg, .int .i64 pc, .int .i64 am, .bool so, .int .i64 gr] 80)))
    replace hw := belStep hw hb2
    clear hb2 hbel
    generalize w.alloc (.cells #[.int .i64 sg, .int .i64 pc, .int .i64 am, .bool so, .int .i64 gr] 80) = W1 at *
    replace tt0 := keep tt0
    replace tt1 := keep tt1
    replace tt2 := keep tt2
    replace tt3 := keep tt3
    replace tt4 := keep tt4
    have hbel : Below W1.heap.size W1 W1 := Below.refl _ _
    skip
    go_wp2
    go_ret
    exact ⟨by rw [HR.out]; rfl, belStep hw hbel⟩
  · have hh := rt_so (sg := sg) (pc := pc) (am := am) (gr := gr) (by omega) (by omega) h5 (by omega)
    clear k1 k2
    cases so with
    | true =>
      have HR := Lib.hid hh.1
      clear hh
      rcases Int.lt_or_le gr 1 with g1 | g1
      · have HR := Lib.hid (show (⟨sg, pc, am, true, gr⟩ : ThrV).right = false by rw [HR.out, decide_eq_false (by omega)]; rfl)
        go_enter Try.func47, Try.ntmps47
        go_upto_region 1 with fail
        have tt0 : (w.alloc (.cells #[.int .i64 sg, .int .i64 pc, .int .i64 am, .bool true, .int .i64 gr] 80)).cell? ⟨w.heap.size, 0, none⟩ = some (.int .i64 sg) := by first | (simp; done) | (rw [World.cell?_alloc_at _ _ _ _ (by simp)]; rfl) | (rw [World.cell?_alloc_past _ _ _ (by simp <;> omega), World.cell?_alloc_at _ _ _ _ (by simp)]; rfl) | (rw [World.cell?_alloc_past _ _ _ (by simp <;> omega), World.cell?_alloc_past _ _ _ (by simp <;> omega), World.cell?_alloc_at _ _ _ _ (by simp)]; rfl)
        have tt1 : (w.alloc (.cells #[.int .i64 sg, .int .i64 pc, .int .i64 am, .bool true, .int .i64 gr] 80)).cell? ⟨w.heap.size, 1, none⟩ = some (.int .i64 pc) := by first | (simp; done) | (rw [World.cell?_alloc_at _ _ _ _ (by simp)]; rfl) | (rw [World.cell?_alloc_past _ _ _ (by simp <;> omega), World.cell?_alloc_at _ _ _ _ (by simp)]; rfl) | (rw [World.cell?_alloc_past _ _ _ (by simp <;> omega), World.cell?_alloc_past _ _ _ (by simp <;> omega), World.cell?_alloc_at _ _ _ _ (by simp)]; rfl)
        have tt2 : (w.alloc (.cells #[.int .i64 sg, .int .i64 pc, .int .i64 am, .bool true, .int .i64 gr] 80)).cell? ⟨w.heap.size, 2, none⟩ = some (.int .i64 am) := by first | (simp; done) | (rw [World.cell?_alloc_at _ _ _ _ (by simp)]; rfl) | (rw [World.cell?_alloc_past _ _ _ (by simp <;> omega), World.cell?_alloc_at _ _ _ _ (by simp)]; rfl) | (rw [World.cell?_alloc_past _ _ _ (by simp <;> omega), World.cell?_alloc_past _ _ _ (by simp <;> omega), World.cell?_alloc_at _ _ _ _ (by simp)]; rfl)
        have tt3 : (w.alloc (.cells #[.int .i64 sg, .int .i64 pc, .int .i64 am, .bool true, .int .i64 gr] 80)).cell? ⟨w.heap.size, 3, none⟩ = some (.bool true) := by first | (simp; done) | (rw [World.cell?_alloc_at _ _ _ _ (by simp)]; rfl) | (rw [World.cell?_alloc_past _ _ _ (by simp <;> omega), World.cell?_alloc_at _ _ _ _ (by simp)]; rfl) | (rw [World.cell?_alloc_past _ _ _ (by simp <;> omega), World.cell?_alloc_past _ _ _ (by simp <;> omega), World.cell?_alloc_at _ _ _ _ (by simp)]; rfl)
        have tt4 : (w.alloc (.cells #[.int .i64 sg, .int .i64 pc, .int .i64 am, .bool true, .int .i64 gr] 80)).cell? ⟨w.heap.size, 4, none⟩ = some (.int .i64 gr) := by first | (simp; done) | (rw [World.cell?_alloc_at _ _ _ _ (by simp)]; rfl) | (rw [World.cell?_alloc_past _ _ _ (by simp <;> omega), World.cell?_alloc_at _ _ _ _ (by simp)]; rfl) | (rw [World.cell?_alloc_past _ _ _ (by simp <;> omega), World.cell?_alloc_past _ _ _ (by simp <;> omega), World.cell?_alloc_at _ _ _ _ (by simp)]; rfl)
        have hb2 := (by repeat (first | exact hbel | refine belAlloc ?_ _ | refine belDrew ?_ | refine belSet ?_ _ _ (by simp)) : Below w.heap.size w (w.alloc (.cells #[.int .i64 sg, .int .i64 pc, .int .i64 am, .bool true, .int .i64 gr] 80)))
        replace hw := belStep hw hb2
        clear hb2 hbel
        generalize w.alloc (.cells #[.int .i64 sg, .int .i64 pc, .int .i64 am, .bool true, .int .i64 gr] 80) = W1 at *
        replace tt0 := keep tt0
        replace tt1 := keep tt1
        replace tt2 := keep tt2
        replace tt3 := keep tt3
        replace tt4 := keep tt4
        have hbel : Below W1.heap.size W1 W1 := Below.refl _ _
        skip
        go_wp2
        go_ret
        exact ⟨by rw [HR.out]; rfl, belStep hw hbel⟩
      · have HR := Lib.hid (show (⟨sg, pc, am, true, gr⟩ : ThrV).right = decide (gr ≤ 1000) by rw [HR.out, decide_eq_true (by omega)]; rfl)
        go_enter Try.func47, Try.ntmps47
        go_upto_region 1 with fail
        have tt0 : (w.alloc (.cells #[.int .i64 sg, .int .i64 pc, .int .i64 am, .bool true, .int .i64 gr] 80)).cell? ⟨w.heap.size, 0, none⟩ = some (.int .i64 sg) := by first | (simp; done) | (rw [World.cell?_alloc_at _ _ _ _ (by simp)]; rfl) | (rw [World.cell?_alloc_past _ _ _ (by simp <;> omega), World.cell?_alloc_at _ _ _ _ (by simp)]; rfl) | (rw [World.cell?_alloc_past _ _ _ (by simp <;> omega), World.cell?_alloc_past _ _ _ (by simp <;> omega), World.cell?_alloc_at _ _ _ _ (by simp)]; rfl)
        have tt1 : (w.alloc (.cells #[.int .i64 sg, .int .i64 pc, .int .i64 am, .bool true, .int .i64 gr] 80)).cell? ⟨w.heap.size, 1, none⟩ = some (.int .i64 pc) := by first | (simp; done) | (rw [World.cell?_alloc_at _ _ _ _ (by simp)]; rfl) | (rw [World.cell?_alloc_past _ _ _ (by simp <;> omega), World.cell?_alloc_at _ _ _ _ (by simp)]; rfl) | (rw [World.cell?_alloc_past _ _ _ (by simp <;> omega), World.cell?_alloc_past _ _ _ (by simp <;> omega), World.cell?_alloc_at _ _ _ _ (by simp)]; rfl)
        have tt2 : (w.alloc (.cells #[.int .i64 sg, .int .i64 pc, .int .i64 am, .bool true, .int .i64 gr] 80)).cell? ⟨w.heap.size, 2, none⟩ = some (.int .i64 am) := by first | (simp; done) | (rw [World.cell?_alloc_at _ _ _ _ (by simp)]; rfl) | (rw [World.cell?_alloc_past _ _ _ (by simp <;> omega), World.cell?_alloc_at _ _ _ _ (by simp)]; rfl) | (rw [World.cell?_alloc_past _ _ _ (by simp <;> omega), World.cell?_alloc_past _ _ _ (by simp <;> omega), World.cell?_alloc_at _ _ _ _ (by simp)]; rfl)
        have tt3 : (w.alloc (.cells #[.int .i64 sg, .int .i64 pc, .int .i64 am, .bool true, .int .i64 gr] 80)).cell? ⟨w.heap.size, 3, none⟩ = some (.bool true) := by first | (simp; done) | (rw [World.cell?_alloc_at _ _ _ _ (by simp)]; rfl) | (rw [World.cell?_alloc_past _ _ _ (by simp <;> omega), World.cell?_alloc_at _ _ _ _ (by simp)]; rfl) | (rw [World.cell?_alloc_past _ _ _ (by simp <;> omega), World.cell?_alloc_past _ _ _ (by simp <;> omega), World.cell?_alloc_at _ _ _ _ (by simp)]; rfl)
        have tt4 : (w.alloc (.cells #[.int .i64 sg, .int .i64 pc, .int .i64 am, .bool true, .int .i64 gr] 80)).cell? ⟨w.heap.size, 4, none⟩ = some (.int .i64 gr) := by first | (simp; done) | (rw [World.cell?_alloc_at _ _ _ _ (by simp)]; rfl) | (rw [World.cell?_alloc_past _ _ _ (by simp <;> omega), World.cell?_alloc_at _ _ _ _ (by simp)]; rfl) | (rw [World.cell?_alloc_past _ _ _ (by simp <;> omega), World.cell?_alloc_past _ _ _ (by simp <;> omega), World.cell?_alloc_at _ _ _ _ (by simp)]; rfl)
        have hb2 := (by repeat (first | exact hbel | refine belAlloc ?_ _ | refine belDrew ?_ | refine belSet ?_ _ _ (by simp)) : Below w.heap.size w (w.alloc (.cells #[.int .i64 sg, .int .i64 pc, .int .i64 am, .bool true, .int .i64 gr] 80)))
        replace hw := belStep hw hb2
        clear hb2 hbel
        generalize w.alloc (.cells #[.int .i64 sg, .int .i64 pc, .int .i64 am, .bool true, .int .i64 gr] 80) = W1 at *
        replace tt0 := keep tt0
        replace tt1 := keep tt1
        replace tt2 := keep tt2
        replace tt3 := keep tt3
        replace tt4 := keep tt4
        have hbel : Below W1.heap.size W1 W1 := Below.refl _ _
        skip
        go_wp2
        go_ret
        exact ⟨by rw [HR.out]; rfl, belStep hw hbel⟩
    | false =>
      have HR := Lib.hid hh.2
      clear hh
      go_enter Try.func47, Try.ntmps47
      go_upto_region 1 with fail
      have tt0 : (w.alloc (.cells #[.int .i64 sg, .int .i64 pc, .int .i64 am, .bool false, .int .i64 gr] 80)).cell? ⟨w.heap.size, 0, none⟩ = some (.int .i64 sg) := by first | (simp; done) | (rw [World.cell?_alloc_at _ _ _ _ (by simp)]; rfl) | (rw [World.cell?_alloc_past _ _ _ (by simp <;> omega), World.cell?_alloc_at _ _ _ _ (by simp)]; rfl) | (rw [World.cell?_alloc_past _ _ _ (by simp <;> omega), World.cell?_alloc_past _ _ _ (by simp <;> omega), World.cell?_alloc_at _ _ _ _ (by simp)]; rfl)
      have tt1 : (w.alloc (.cells #[.int .i64 sg, .int .i64 pc, .int .i64 am, .bool false, .int .i64 gr] 80)).cell? ⟨w.heap.size, 1, none⟩ = some (.int .i64 pc) := by first | (simp; done) | (rw [World.cell?_alloc_at _ _ _ _ (by simp)]; rfl) | (rw [World.cell?_alloc_past _ _ _ (by simp <;> omega), World.cell?_alloc_at _ _ _ _ (by simp)]; rfl) | (rw [World.cell?_alloc_past _ _ _ (by simp <;> omega), World.cell?_alloc_past _ _ _ (by simp <;> omega), World.cell?_alloc_at _ _ _ _ (by simp)]; rfl)
      have tt2 : (w.alloc (.cells #[.int .i64 sg, .int .i64 pc, .int .i64 am, .bool false, .int .i64 gr] 80)).cell? ⟨w.heap.size, 2, none⟩ = some (.int .i64 am) := by first | (simp; done) | (rw [World.cell?_alloc_at _ _ _ _ (by simp)]; rfl) | (rw [World.cell?_alloc_past _ _ _ (by simp <;> omega), World.cell?_alloc_at _ _ _ _ (by simp)]; rfl) | (rw [World.cell?_alloc_past _ _ _ (by simp <;> omega), World.cell?_alloc_past _ _ _ (by simp <;> omega), World.cell?_alloc_at _ _ _ _ (by simp)]; rfl)
      have tt3 : (w.alloc (.cells #[.int .i64 sg, .int .i64 pc, .int .i64 am, .bool false, .int .i64 gr] 80)).cell? ⟨w.heap.size, 3, none⟩ = some (.bool false) := by first | (simp; done) | (rw [World.cell?_alloc_at _ _ _ _ (by simp)]; rfl) | (rw [World.cell?_alloc_past _ _ _ (by simp <;> omega), World.cell?_alloc_at _ _ _ _ (by simp)]; rfl) | (rw [World.cell?_alloc_past _ _ _ (by simp <;> omega), World.cell?_alloc_past _ _ _ (by simp <;> omega), World.cell?_alloc_at _ _ _ _ (by simp)]; rfl)
      have tt4 : (w.alloc (.cells #[.int .i64 sg, .int .i64 pc, .int .i64 am, .bool false, .int .i64 gr] 80)).cell? ⟨w.heap.size, 4, none⟩ = some (.int .i64 gr) := by first | (simp; done) | (rw [World.cell?_alloc_at _ _ _ _ (by simp)]; rfl) | (rw [World.cell?_alloc_past _ _ _ (by simp <;> omega), World.cell?_alloc_at _ _ _ _ (by simp)]; rfl) | (rw [World.cell?_alloc_past _ _ _ (by simp <;> omega), World.cell?_alloc_past _ _ _ (by simp <;> omega), World.cell?_alloc_at _ _ _ _ (by simp)]; rfl)
      have hb2 := (by repeat (first | exact hbel | refine belAlloc ?_ _ | refine belDrew ?_ | refine belSet ?_ _ _ (by simp)) : Below w.heap.size w (w.alloc (.cells #[.int .i64 sg, .int .i64 pc, .int .i64 am, .bool false, .int .i64 gr] 80)))
      replace hw := belStep hw hb2
      clear hb2 hbel
      generalize w.alloc (.cells #[.int .i64 sg, .int .i64 pc, .int .i64 am, .bool false, .int .i64 gr] 80) = W1 at *
      replace tt0 := keep tt0
      replace tt1 := keep tt1
      replace tt2 := keep tt2
      replace tt3 := keep tt3
      replace tt4 := keep tt4
      have hbel : Below W1.heap.size W1 W1 := Below.refl _ _
      skip
      go_wp2
      go_ret
      exact ⟨by rw [HR.out]; rfl, belStep hw hbel⟩
  · have hh := rt_so (sg := sg) (pc := pc) (am := am) (gr := gr) (by omega) (by omega) h5 (by omega)
    clear k1 k2
    cases so with
    | true =>
      have HR := Lib.hid hh.1
      clear hh
      rcases Int.lt_or_le gr 1 with g1 | g1
      · have HR := Lib.hid (show (⟨sg, pc, am, true, gr⟩ : ThrV).right = false by rw [HR.out, decide_eq_false (by omega)]; rfl)
        go_enter Try.func47, Try.ntmps47
        go_upto_region 1 with fail
        have tt0 : (w.alloc (.cells #[.int .i64 sg, .int .i64 pc, .int .i64 am, .bool true, .int .i64 gr] 80)).cell? ⟨w.heap.size, 0, none⟩ = some (.int .i64 sg) := by first | (simp; done) | (rw [World.cell?_alloc_at _ _ _ _ (by simp)]; rfl) | (rw [World.cell?_alloc_past _ _ _ (by simp <;> omega), World.cell?_alloc_at _ _ _ _ (by simp)]; rfl) | (rw [World.cell?_alloc_past _ _ _ (by simp <;> omega), World.cell?_alloc_past _ _ _ (by simp <;> omega), World.cell?_alloc_at _ _ _ _ (by simp)]; rfl)
        have tt1 : (w.alloc (.cells #[.int .i64 sg, .int .i64 pc, .int .i64 am, .bool true, .int .i64 gr] 80)).cell? ⟨w.heap.size, 1, none⟩ = some (.int .i64 pc) := by first | (simp; done) | (rw [World.cell?_alloc_at _ _ _ _ (by simp)]; rfl) | (rw [World.cell?_alloc_past _ _ _ (by simp <;> omega), World.cell?_alloc_at _ _ _ _ (by simp)]; rfl) | (rw [World.cell?_alloc_past _ _ _ (by simp <;> omega), World.cell?_alloc_past _ _ _ (by simp <;> omega), World.cell?_alloc_at _ _ _ _ (by simp)]; rfl)
        have tt2 : (w.alloc (.cells #[.int .i64 sg, .int .i64 pc, .int .i64 am, .bool true, .int .i64 gr] 80)).cell? ⟨w.heap.size, 2, none⟩ = some (.int .i64 am) := by first | (simp; done) | (rw [World.cell?_alloc_at _ _ _ _ (by simp)]; rfl) | (rw [World.cell?_alloc_past _ _ _ (by simp <;> omega), World.cell?_alloc_at _ _ _ _ (by simp)]; rfl) | (rw [World.cell?_alloc_past _ _ _ (by simp <;> omega), World.cell?_alloc_past _ _ _ (by simp <;> omega), World.cell?_alloc_at _ _ _ _ (by simp)]; rfl)
        have tt3 : (w.alloc (.cells #[.int .i64 sg, .int .i64 pc, .int .i64 am, .bool true, .int .i64 gr] 80)).cell? ⟨w.heap.size, 3, none⟩ = some (.bool true) := by first | (simp; done) | (rw [World.cell?_alloc_at _ _ _ _ (by simp)]; rfl) | (rw [World.cell?_alloc_past _ _ _ (by simp <;> omega), World.cell?_alloc_at _ _ _ _ (by simp)]; rfl) | (rw [World.cell?_alloc_past _ _ _ (by simp <;> omega), World.cell?_alloc_past _ _ _ (by simp <;> omega), World.cell?_alloc_at _ _ _ _ (by simp)]; rfl)
        have tt4 : (w.alloc (.cells #[.int .i64 sg, .int .i64 pc, .int .i64 am, .bool true, .int .i64 gr] 80)).cell? ⟨w.heap.size, 4, none⟩ = some (.int .i64 gr) := by first | (simp; done) | (rw [World.cell?_alloc_at _ _ _ _ (by simp)]; rfl) | (rw [World.cell?_alloc_past _ _ _ (by simp <;> omega), World.cell?_alloc_at _ _ _ _ (by simp)]; rfl) | (rw [World.cell?_alloc_past _ _ _ (by simp <;> omega), World.cell?_alloc_past _ _ _ (by simp <;> omega), World.cell?_alloc_at _ _ _ _ (by simp)]; rfl)
        have hb2 := (by repeat (first | exact hbel | refine belAlloc ?_ _ | refine belDrew ?_ | refine belSet ?_ _ _ (by simp)) : Below w.heap.size w (w.alloc (.cells #[.int .i64 sg, .int .i64 pc, .int .i64 am, .bool true, .int .i64 gr] 80)))
        replace hw := belStep hw hb2
        clear hb2 hbel
        generalize w.alloc (.cells #[.int .i64 sg, .int .i64 pc, .int .i64 am, .bool true, .int .i64 gr] 80) = W1 at *
        replace tt0 := keep tt0
        replace tt1 := keep tt1
        replace tt2 := keep tt2
        replace tt3 := keep tt3
        replace tt4 := keep tt4
        have hbel : Below W1.heap.size W1 W1 := Below.refl _ _
        skip
        go_wp2
        go_ret
        exact ⟨by rw [HR.out]; rfl, belStep hw hbel⟩
      · have HR := Lib.hid (show (⟨sg, pc, am, true, gr⟩ : ThrV).right = decide (gr ≤ 1000) by rw [HR.out, decide_eq_true (by omega)]; rfl)
        go_enter Try.func47, Try.ntmps47
        go_upto_region 1 with fail
        have tt0 : (w.alloc (.cells #[.int .i64 sg, .int .i64 pc, .int .i64 am, .bool true, .int .i64 gr] 80)).cell? ⟨w.heap.size, 0, none⟩ = some (.int .i64 sg) := by first | (simp; done) | (rw [World.cell?_alloc_at _ _ _ _ (by simp)]; rfl) | (rw [World.cell?_alloc_past _ _ _ (by simp <;> omega), World.cell?_alloc_at _ _ _ _ (by simp)]; rfl) | (rw [World.cell?_alloc_past _ _ _ (by simp <;> omega), World.cell?_alloc_past _ _ _ (by simp <;> omega), World.cell?_alloc_at _ _ _ _ (by simp)]; rfl)
        have tt1 : (w.alloc (.cells #[.int .i64 sg, .int .i64 pc, .int .i64 am, .bool true, .int .i64 gr] 80)).cell? ⟨w.heap.size, 1, none⟩ = some (.int .i64 pc) := by first | (simp; done) | (rw [World.cell?_alloc_at _ _ _ _ (by simp)]; rfl) | (rw [World.cell?_alloc_past _ _ _ (by simp <;> omega), World.cell?_alloc_at _ _ _ _ (by simp)]; rfl) | (rw [World.cell?_alloc_past _ _ _ (by simp <;> omega), World.cell?_alloc_past _ _ _ (by simp <;> omega), World.cell?_alloc_at _ _ _ _ (by simp)]; rfl)
        have tt2 : (w.alloc (.cells #[.int .i64 sg, .int .i64 pc, .int .i64 am, .bool true, .int .i64 gr] 80)).cell? ⟨w.heap.size, 2, none⟩ = some (.int .i64 am) := by first | (simp; done) | (rw [World.cell?_alloc_at _ _ _ _ (by simp)]; rfl) | (rw [World.cell?_alloc_past _ _ _ (by simp <;> omega), World.cell?_alloc_at _ _ _ _ (by simp)]; rfl) | (rw [World.cell?_alloc_past _ _ _ (by simp <;> omega), World.cell?_alloc_past _ _ _ (by simp <;> omega), World.cell?_alloc_at _ _ _ _ (by simp)]; rfl)
        have tt3 : (w.alloc (.cells #[.int .i64 sg, .int .i64 pc, .int .i64 am, .bool true, .int .i64 gr] 80)).cell? ⟨w.heap.size, 3, none⟩ = some (.bool true) := by first | (simp; done) | (rw [World.cell?_alloc_at _ _ _ _ (by simp)]; rfl) | (rw [World.cell?_alloc_past _ _ _ (by simp <;> omega), World.cell?_alloc_at _ _ _ _ (by simp)]; rfl) | (rw [World.cell?_alloc_past _ _ _ (by simp <;> omega), World.cell?_alloc_past _ _ _ (by simp <;> omega), World.cell?_alloc_at _ _ _ _ (by simp)]; rfl)
        have tt4 : (w.alloc (.cells #[.int .i64 sg, .int .i64 pc, .int .i64 am, .bool true, .int .i64 gr] 80)).cell? ⟨w.heap.size, 4, none⟩ = some (.int .i64 gr) := by first | (simp; done) | (rw [World.cell?_alloc_at _ _ _ _ (by simp)]; rfl) | (rw [World.cell?_alloc_past _ _ _ (by simp <;> omega), World.cell?_alloc_at _ _ _ _ (by simp)]; rfl) | (rw [World.cell?_alloc_past _ _ _ (by simp <;> omega), World.cell?_alloc_past _ _ _ (by simp <;> omega), World.cell?_alloc_at _ _ _ _ (by simp)]; rfl)
        have hb2 := (by repeat (first | exact hbel | refine belAlloc ?_ _ | refine belDrew ?_ | refine belSet ?_ _ _ (by simp)) : Below w.heap.size w (w.alloc (.cells #[.int .i64 sg, .int .i64 pc, .int .i64 am, .bool true, .int .i64 gr] 80)))
        replace hw := belStep hw hb2
        clear hb2 hbel
        generalize w.alloc (.cells #[.int .i64 sg, .int .i64 pc, .int .i64 am, .bool true, .int .i64 gr] 80) = W1 at *
        replace tt0 := keep tt0
        replace tt1 := keep tt1
        replace tt2 := keep tt2
        replace tt3 := keep tt3
        replace tt4 := keep tt4
        have hbel : Below W1.heap.size W1 W1 := Below.refl _ _
        skip
        go_wp2
        go_ret
        exact ⟨by rw [HR.out]; rfl, belStep hw hbel⟩
    | false =>
      have HR := Lib.hid hh.2
      clear hh
      go_enter Try.func47, Try.ntmps47
      go_upto_region 1 with fail
      have tt0 : (w.alloc (.cells #[.int .i64 sg, .int .i64 pc, .int .i64 am, .bool false, .int .i64 gr] 80)).cell? ⟨w.heap.size, 0, none⟩ = some (.int .i64 sg) := by first | (simp; done) | (rw [World.cell?_alloc_at _ _ _ _ (by simp)]; rfl) | (rw [World.cell?_alloc_past _ _ _ (by simp <;> omega), World.cell?_alloc_at _ _ _ _ (by simp)]; rfl) | (rw [World.cell?_alloc_past _ _ _ (by simp <;> omega), World.cell?_alloc_past _ _ _ (by simp <;> omega), World.cell?_alloc_at _ _ _ _ (by simp)]; rfl)
      have tt1 : (w.alloc (.cells #[.int .i64 sg, .int .i64 pc, .int .i64 am, .bool false, .int .i64 gr] 80)).cell? ⟨w.heap.size, 1, none⟩ = some (.int .i64 pc) := by first | (simp; done) | (rw [World.cell?_alloc_at _ _ _ _ (by simp)]; rfl) | (rw [World.cell?_alloc_past _ _ _ (by simp <;> omega), World.cell?_alloc_at _ _ _ _ (by simp)]; rfl) | (rw [World.cell?_alloc_past _ _ _ (by simp <;> omega), World.cell?_alloc_past _ _ _ (by simp <;> omega), World.cell?_alloc_at _ _ _ _ (by simp)]; rfl)
      have tt2 : (w.alloc (.cells #[.int .i64 sg, .int .i64 pc, .int .i64 am, .bool false, .int .i64 gr] 80)).cell? ⟨w.heap.size, 2, none⟩ = some (.int .i64 am) := by first | (simp; done) | (rw [World.cell?_alloc_at _ _ _ _ (by simp)]; rfl) | (rw [World.cell?_alloc_past _ _ _ (by simp <;> omega), World.cell?_alloc_at _ _ _ _ (by simp)]; rfl) | (rw [World.cell?_alloc_past _ _ _ (by simp <;> omega), World.cell?_alloc_past _ _ _ (by simp <;> omega), World.cell?_alloc_at _ _ _ _ (by simp)]; rfl)
      have tt3 : (w.alloc (.cells #[.int .i64 sg, .int .i64 pc, .int .i64 am, .bool false, .int .i64 gr] 80)).cell? ⟨w.heap.size, 3, none⟩ = some (.bool false) := by first | (simp; done) | (rw [World.cell?_alloc_at _ _ _ _ (by simp)]; rfl) | (rw [World.cell?_alloc_past _ _ _ (by simp <;> omega), World.cell?_alloc_at _ _ _ _ (by simp)]; rfl) | (rw [World.cell?_alloc_past _ _ _ (by simp <;> omega), World.cell?_alloc_past _ _ _ (by simp <;> omega), World.cell?_alloc_at _ _ _ _ (by simp)]; rfl)
      have tt4 : (w.alloc (.cells #[.int .i64 sg, .int .i64 pc, .int .i64 am, .bool false, .int .i64 gr] 80)).cell? ⟨w.heap.size, 4, none⟩ = some (.int .i64 gr) := by first | (simp; done) | (rw [World.cell?_alloc_at _ _ _ _ (by simp)]; rfl) | (rw [World.cell?_alloc_past _ _ _ (by simp <;> omega), World.cell?_alloc_at _ _ _ _ (by simp)]; rfl) | (rw [World.cell?_alloc_past _ _ _ (by simp <;> omega), World.cell?_alloc_past _ _ _ (by simp <;> omega), World.cell?_alloc_at _ _ _ _ (by simp)]; rfl)
      have hb2 := (by repeat (first | exact hbel | refine belAlloc ?_ _ | refine belDrew ?_ | refine belSet ?_ _ _ (by simp)) : Below w.heap.size w (w.alloc (.cells #[.int .i64 sg, .int .i64 pc, .int .i64 am, .bool false, .int .i64 gr] 80)))
      replace hw := belStep hw hb2
      clear hb2 hbel
      generalize w.alloc (.cells #[.int .i64 sg, .int .i64 pc, .int .i64 am, .bool false, .int .i64 gr] 80) = W1 at *
      replace tt0 := keep tt0
      replace tt1 := keep tt1
      replace tt2 := keep tt2
      replace tt3 := keep tt3
      replace tt4 := keep tt4
      have hbel : Below W1.heap.size W1 W1 := Below.refl _ _
      skip
      go_wp2
      go_ret
      exact ⟨by rw [HR.out]; rfl, belStep hw hbel⟩
/-- A bool is answered, and where it is true, so is P. -/
def Tells (P : Prop) (e : Ending) : Prop := ∃ b, e = .returned (.bool b) ∧ (b = true → P)
theorem Tells.no {P : Prop} : Tells P (.returned (.bool false)) := ⟨false, rfl, fun h => by cases h⟩
theorem Tells.any {P : Prop} (h : P) (b : Bool) : Tells P (.returned (.bool b)) := ⟨b, rfl, fun _ => h⟩
/-- What Right tells of a config. -/
structure RightC (c : CfgV) : Prop where
  few : c.tl ≤ 12
  right : ∀ t ∈ c.L, t.right = true
  caps : (1 ≤ c.k0 ∧ 0 ≤ c.a0) ∧ (1 ≤ c.k1 ∧ 0 ≤ c.a1) ∧ (1 ≤ c.k2 ∧ 0 ≤ c.a2)
theorem take_all {α : Type} {p : α → Prop} {L : List α} {n : Nat} (hn : L.length = n) (h : ∀ x ∈ L.take n, p x) : ∀ x ∈ L, p x := by
  rw [List.take_of_length_le (by omega)] at h; exact h
set_option maxRecDepth 100000 in
set_option maxHeartbeats 8000000 in
theorem ref7_Right (c : CfgV) (w : World) (hc : c.ok w) : Calls Try.prog 29 #[.agg #[.int .i64 c.k0, .int .i64 c.k1, .int .i64 c.k2, .int .i64 c.a0, .int .i64 c.a1, .int .i64 c.a2, .slice c.ta c.tl c.tc, .int .i64 c.per, .int .i64 c.ret, .int .i64 c.age, .int .i64 c.dead]] w fun e w' => Tells (RightC c) e ∧ Below w.heap.size w w' := by
  have hw : Below w.heap.size w w := Below.refl _ _
  have hbel := hw
  have HC := Lib.hid hc
  have hbd : c.tl ≤ c.tc ∧ c.tc ≤ 9223372036854775807 := by obtain ⟨_, h1, h2, _⟩ := hc.row; unfold maxLen at h2; exact ⟨h1, h2⟩
  obtain ⟨hbd1, hbd2⟩ := hbd
  clear hc
  go_enter Try.func29, Try.ntmps29
  go_upto_region 1 with fail
  have cc0 : (w.alloc (.cells #[.int .i64 c.k0, .int .i64 c.k1, .int .i64 c.k2, .int .i64 c.a0, .int .i64 c.a1, .int .i64 c.a2, .slice c.ta c.tl c.tc, .int .i64 c.per, .int .i64 c.ret, .int .i64 c.age, .int .i64 c.dead] 57)).cell? ⟨w.heap.size, 0, none⟩ = some (.int .i64 c.k0) := by first | (simp; done) | (rw [World.cell?_alloc_at _ _ _ _ (by simp)]; rfl) | (rw [World.cell?_alloc_past _ _ _ (by simp <;> omega), World.cell?_alloc_at _ _ _ _ (by simp)]; rfl) | (rw [World.cell?_alloc_past _ _ _ (by simp <;> omega), World.cell?_alloc_past _ _ _ (by simp <;> omega), World.cell?_alloc_at _ _ _ _ (by simp)]; rfl)
  have cc1 : (w.alloc (.cells #[.int .i64 c.k0, .int .i64 c.k1, .int .i64 c.k2, .int .i64 c.a0, .int .i64 c.a1, .int .i64 c.a2, .slice c.ta c.tl c.tc, .int .i64 c.per, .int .i64 c.ret, .int .i64 c.age, .int .i64 c.dead] 57)).cell? ⟨w.heap.size, 1, none⟩ = some (.int .i64 c.k1) := by first | (simp; done) | (rw [World.cell?_alloc_at _ _ _ _ (by simp)]; rfl) | (rw [World.cell?_alloc_past _ _ _ (by simp <;> omega), World.cell?_alloc_at _ _ _ _ (by simp)]; rfl) | (rw [World.cell?_alloc_past _ _ _ (by simp <;> omega), World.cell?_alloc_past _ _ _ (by simp <;> omega), World.cell?_alloc_at _ _ _ _ (by simp)]; rfl)
  have cc2 : (w.alloc (.cells #[.int .i64 c.k0, .int .i64 c.k1, .int .i64 c.k2, .int .i64 c.a0, .int .i64 c.a1, .int .i64 c.a2, .slice c.ta c.tl c.tc, .int .i64 c.per, .int .i64 c.ret, .int .i64 c.age, .int .i64 c.dead] 57)).cell? ⟨w.heap.size, 2, none⟩ = some (.int .i64 c.k2) := by first | (simp; done) | (rw [World.cell?_alloc_at _ _ _ _ (by simp)]; rfl) | (rw [World.cell?_alloc_past _ _ _ (by simp <;> omega), World.cell?_alloc_at _ _ _ _ (by simp)]; rfl) | (rw [World.cell?_alloc_past _ _ _ (by simp <;> omega), World.cell?_alloc_past _ _ _ (by simp <;> omega), World.cell?_alloc_at _ _ _ _ (by simp)]; rfl)
  have cc3 : (w.alloc (.cells #[.int .i64 c.k0, .int .i64 c.k1, .int .i64 c.k2, .int .i64 c.a0, .int .i64 c.a1, .int .i64 c.a2, .slice c.ta c.tl c.tc, .int .i64 c.per, .int .i64 c.ret, .int .i64 c.age, .int .i64 c.dead] 57)).cell? ⟨w.heap.size, 3, none⟩ = some (.int .i64 c.a0) := by first | (simp; done) | (rw [World.cell?_alloc_at _ _ _ _ (by simp)]; rfl) | (rw [World.cell?_alloc_past _ _ _ (by simp <;> omega), World.cell?_alloc_at _ _ _ _ (by simp)]; rfl) | (rw [World.cell?_alloc_past _ _ _ (by simp <;> omega), World.cell?_alloc_past _ _ _ (by simp <;> omega), World.cell?_alloc_at _ _ _ _ (by simp)]; rfl)
  have cc4 : (w.alloc (.cells #[.int .i64 c.k0, .int .i64 c.k1, .int .i64 c.k2, .int .i64 c.a0, .int .i64 c.a1, .int .i64 c.a2, .slice c.ta c.tl c.tc, .int .i64 c.per, .int .i64 c.ret, .int .i64 c.age, .int .i64 c.dead] 57)).cell? ⟨w.heap.size, 4, none⟩ = some (.int .i64 c.a1) := by first | (simp; done) | (rw [World.cell?_alloc_at _ _ _ _ (by simp)]; rfl) | (rw [World.cell?_alloc_past _ _ _ (by simp <;> omega), World.cell?_alloc_at _ _ _ _ (by simp)]; rfl) | (rw [World.cell?_alloc_past _ _ _ (by simp <;> omega), World.cell?_alloc_past _ _ _ (by simp <;> omega), World.cell?_alloc_at _ _ _ _ (by simp)]; rfl)
  have cc5 : (w.alloc (.cells #[.int .i64 c.k0, .int .i64 c.k1, .int .i64 c.k2, .int .i64 c.a0, .int .i64 c.a1, .int .i64 c.a2, .slice c.ta c.tl c.tc, .int .i64 c.per, .int .i64 c.ret, .int .i64 c.age, .int .i64 c.dead] 57)).cell? ⟨w.heap.size, 5, none⟩ = some (.int .i64 c.a2) := by first | (simp; done) | (rw [World.cell?_alloc_at _ _ _ _ (by simp)]; rfl) | (rw [World.cell?_alloc_past _ _ _ (by simp <;> omega), World.cell?_alloc_at _ _ _ _ (by simp)]; rfl) | (rw [World.cell?_alloc_past _ _ _ (by simp <;> omega), World.cell?_alloc_past _ _ _ (by simp <;> omega), World.cell?_alloc_at _ _ _ _ (by simp)]; rfl)
  have cc6 : (w.alloc (.cells #[.int .i64 c.k0, .int .i64 c.k1, .int .i64 c.k2, .int .i64 c.a0, .int .i64 c.a1, .int .i64 c.a2, .slice c.ta c.tl c.tc, .int .i64 c.per, .int .i64 c.ret, .int .i64 c.age, .int .i64 c.dead] 57)).cell? ⟨w.heap.size, 6, none⟩ = some (.slice c.ta c.tl c.tc) := by first | (simp; done) | (rw [World.cell?_alloc_at _ _ _ _ (by simp)]; rfl) | (rw [World.cell?_alloc_past _ _ _ (by simp <;> omega), World.cell?_alloc_at _ _ _ _ (by simp)]; rfl) | (rw [World.cell?_alloc_past _ _ _ (by simp <;> omega), World.cell?_alloc_past _ _ _ (by simp <;> omega), World.cell?_alloc_at _ _ _ _ (by simp)]; rfl)
  have cc7 : (w.alloc (.cells #[.int .i64 c.k0, .int .i64 c.k1, .int .i64 c.k2, .int .i64 c.a0, .int .i64 c.a1, .int .i64 c.a2, .slice c.ta c.tl c.tc, .int .i64 c.per, .int .i64 c.ret, .int .i64 c.age, .int .i64 c.dead] 57)).cell? ⟨w.heap.size, 7, none⟩ = some (.int .i64 c.per) := by first | (simp; done) | (rw [World.cell?_alloc_at _ _ _ _ (by simp)]; rfl) | (rw [World.cell?_alloc_past _ _ _ (by simp <;> omega), World.cell?_alloc_at _ _ _ _ (by simp)]; rfl) | (rw [World.cell?_alloc_past _ _ _ (by simp <;> omega), World.cell?_alloc_past _ _ _ (by simp <;> omega), World.cell?_alloc_at _ _ _ _ (by simp)]; rfl)
  have cc8 : (w.alloc (.cells #[.int .i64 c.k0, .int .i64 c.k1, .int .i64 c.k2, .int .i64 c.a0, .int .i64 c.a1, .int .i64 c.a2, .slice c.ta c.tl c.tc, .int .i64 c.per, .int .i64 c.ret, .int .i64 c.age, .int .i64 c.dead] 57)).cell? ⟨w.heap.size, 8, none⟩ = some (.int .i64 c.ret) := by first | (simp; done) | (rw [World.cell?_alloc_at _ _ _ _ (by simp)]; rfl) | (rw [World.cell?_alloc_past _ _ _ (by simp <;> omega), World.cell?_alloc_at _ _ _ _ (by simp)]; rfl) | (rw [World.cell?_alloc_past _ _ _ (by simp <;> omega), World.cell?_alloc_past _ _ _ (by simp <;> omega), World.cell?_alloc_at _ _ _ _ (by simp)]; rfl)
  have cc9 : (w.alloc (.cells #[.int .i64 c.k0, .int .i64 c.k1, .int .i64 c.k2, .int .i64 c.a0, .int .i64 c.a1, .int .i64 c.a2, .slice c.ta c.tl c.tc, .int .i64 c.per, .int .i64 c.ret, .int .i64 c.age, .int .i64 c.dead] 57)).cell? ⟨w.heap.size, 9, none⟩ = some (.int .i64 c.age) := by first | (simp; done) | (rw [World.cell?_alloc_at _ _ _ _ (by simp)]; rfl) | (rw [World.cell?_alloc_past _ _ _ (by simp <;> omega), World.cell?_alloc_at _ _ _ _ (by simp)]; rfl) | (rw [World.cell?_alloc_past _ _ _ (by simp <;> omega), World.cell?_alloc_past _ _ _ (by simp <;> omega), World.cell?_alloc_at _ _ _ _ (by simp)]; rfl)
  have cc10 : (w.alloc (.cells #[.int .i64 c.k0, .int .i64 c.k1, .int .i64 c.k2, .int .i64 c.a0, .int .i64 c.a1, .int .i64 c.a2, .slice c.ta c.tl c.tc, .int .i64 c.per, .int .i64 c.ret, .int .i64 c.age, .int .i64 c.dead] 57)).cell? ⟨w.heap.size, 10, none⟩ = some (.int .i64 c.dead) := by first | (simp; done) | (rw [World.cell?_alloc_at _ _ _ _ (by simp)]; rfl) | (rw [World.cell?_alloc_past _ _ _ (by simp <;> omega), World.cell?_alloc_at _ _ _ _ (by simp)]; rfl) | (rw [World.cell?_alloc_past _ _ _ (by simp <;> omega), World.cell?_alloc_past _ _ _ (by simp <;> omega), World.cell?_alloc_at _ _ _ _ (by simp)]; rfl)
  have hb2 := (by repeat (first | exact hbel | refine belAlloc ?_ _ | refine belDrew ?_ | refine belSet ?_ _ _ (by simp)) : Below w.heap.size w (w.alloc (.cells #[.int .i64 c.k0, .int .i64 c.k1, .int .i64 c.k2, .int .i64 c.a0, .int .i64 c.a1, .int .i64 c.a2, .slice c.ta c.tl c.tc, .int .i64 c.per, .int .i64 c.ret, .int .i64 c.age, .int .i64 c.dead] 57)))
  replace hw := belStep hw hb2
  clear hb2 hbel
  generalize w.alloc (.cells #[.int .i64 c.k0, .int .i64 c.k1, .int .i64 c.k2, .int .i64 c.a0, .int .i64 c.a1, .int .i64 c.a2, .slice c.ta c.tl c.tc, .int .i64 c.per, .int .i64 c.ret, .int .i64 c.age, .int .i64 c.dead] 57) = W1 at *
  replace cc0 := keep cc0
  replace cc1 := keep cc1
  replace cc2 := keep cc2
  replace cc3 := keep cc3
  replace cc4 := keep cc4
  replace cc5 := keep cc5
  replace cc6 := keep cc6
  replace cc7 := keep cc7
  replace cc8 := keep cc8
  replace cc9 := keep cc9
  replace cc10 := keep cc10
  have hbel : Below W1.heap.size W1 W1 := Below.refl _ _
  skip
  have hs1 : w.heap.size ≤ W1.heap.size := hw.size
  have HSZ := Lib.hid hs1
  have HW := Lib.hid hw
  have HCW := Lib.hid (HC.out.later hw)
  clear hs1 hw HC
  go_wp2
  clear hbel
  go_loopw [3] (fun i wr => ((i = .int .i64 0) ∨ (i = .int .i64 1 ∧ (1 ≤ c.k0 ∧ 0 ≤ c.a0)) ∨ (i = .int .i64 2 ∧ (1 ≤ c.k0 ∧ 0 ≤ c.a0) ∧ (1 ≤ c.k1 ∧ 0 ≤ c.a1)) ∨ (i = .int .i64 3 ∧ (1 ≤ c.k0 ∧ 0 ≤ c.a0) ∧ (1 ≤ c.k1 ∧ 0 ≤ c.a1) ∧ (1 ≤ c.k2 ∧ 0 ≤ c.a2))) ∧ W1 = wr) (fun i _ => 3 - (intOf i).toNat)
  case atStart => exact ⟨.inl rfl, rfl⟩
  case round =>
    obtain ⟨hi, rfl⟩ := hrel
    have hbel : Below W1.heap.size W1 W1 := Below.refl _ _
    rcases hi with rfl | ⟨rfl, h0⟩ | ⟨rfl, h0, h1⟩ | ⟨rfl, h0, h1, h2⟩
    · by_cases g1 : c.k0 < 1
      · go_wp2
        go_ret
        exact ⟨Tells.no, HW.out⟩
      · by_cases g2 : c.a0 < 0
        · go_wp2
          go_ret
          exact ⟨Tells.no, HW.out⟩
        · have g3 : ¬ c.k0 < 1 := g1
          go_wp2
          go_roundw
          case rel => exact ⟨.inr (.inl ⟨rfl, by omega⟩), by first | rfl | trivial⟩
          case measure => simp [intOf]
    · by_cases g1 : c.k1 < 1
      · go_wp2
        go_ret
        exact ⟨Tells.no, HW.out⟩
      · by_cases g2 : c.a1 < 0
        · go_wp2
          go_ret
          exact ⟨Tells.no, HW.out⟩
        · have g3 : ¬ c.k1 < 1 := g1
          go_wp2
          go_roundw
          case rel => exact ⟨.inr (.inr (.inl ⟨rfl, by omega, by omega⟩)), by first | rfl | trivial⟩
          case measure => simp [intOf]
    · by_cases g1 : c.k2 < 1
      · go_wp2
        go_ret
        exact ⟨Tells.no, HW.out⟩
      · by_cases g2 : c.a2 < 0
        · go_wp2
          go_ret
          exact ⟨Tells.no, HW.out⟩
        · have g3 : ¬ c.k2 < 1 := g1
          go_wp2
          go_roundw
          case rel => exact ⟨.inr (.inr (.inr ⟨rfl, by omega, by omega, by omega⟩)), by first | rfl | trivial⟩
          case measure => simp [intOf]
    · have key : (c.k0 < c.a1) ∨ (¬ c.k0 < c.a1 ∧ c.k2 < c.a2) ∨ (¬ c.k0 < c.a1 ∧ ¬ c.k2 < c.a2 ∧ 12 < c.tl) ∨ (¬ c.k0 < c.a1 ∧ ¬ c.k2 < c.a2 ∧ ¬ 12 < c.tl) := by omega
      rcases key with q1 | ⟨q1, q2⟩ | ⟨q1, q2, q3⟩ | ⟨q1, q2, q3⟩
      · go_wp2
        go_ret
        exact ⟨Tells.no, HW.out⟩
      · go_wp2
        go_ret
        exact ⟨Tells.no, HW.out⟩
      · have q4 : (12 : Int) < c.tl := by omega
        go_wp2
        go_ret
        exact ⟨Tells.no, HW.out⟩
      · have q4 : ¬ (12 : Int) < c.tl := by omega
        have HF := Lib.hid q3
        have HK := Lib.hid (show (1 ≤ c.k0 ∧ 0 ≤ c.a0) ∧ (1 ≤ c.k1 ∧ 0 ≤ c.a1) ∧ (1 ≤ c.k2 ∧ 0 ≤ c.a2) from ⟨h0, h1, h2⟩)
        clear q3 h0 h1 h2
        go_wp2
        go_loopw [4] (fun i wr => ∃ k : Nat, k ≤ c.tl ∧ i = .int .i64 k ∧ (∀ t ∈ c.L.take k, t.right = true) ∧ Below W1.heap.size W1 wr) (fun i _ => c.tl - (intOf i).toNat)
        case atStart => exact ⟨0, by omega, rfl, fun t ht => by simp at ht, Below.refl _ _⟩
        case round =>
          obtain ⟨k, hk, rfl, hall, hbel⟩ := hrel
          have HA := Lib.hid hall
          have HB := Lib.hid hbel
          clear hall
          by_cases hlt : k < c.tl
          · have hk' : k < c.L.length := by rw [HCW.out.len]; exact hlt
            obtain ⟨t, hx⟩ : ∃ t, c.L[k]? = some t := ⟨_, List.getElem?_eq_getElem hk'⟩
            obtain ⟨b, off, hta, hbb, hcell⟩ := (HCW.out.row.later hbel).elem ThrV.cells_len (by omega) hx
            have x0 := hcell 0 _ rfl
            have x1 := hcell 1 _ rfl
            have x2 := hcell 2 _ rfl
            have x3 := hcell 3 _ rfl
            have x4 := hcell 4 _ rfl
            rw [Nat.add_zero] at x0
            have hki : (k : Int) < (c.tl : Int) := by omega
            have CR := Lib.hid (fun u => ref_Right t.sig t.pct t.amt t.grace t.soft u)
            have HT := Lib.hid (show c.L.take (k + 1) = c.L.take k ++ [t] by rw [List.take_add_one, hx]; rfl)
            simp only [hta] at cc6 ⊢
            clear hx hcell hk'
            rcases Bool.eq_false_or_eq_true t.right with hr | hr
            · have HR := Lib.hid hr
              have e : (⟨t.sig, t.pct, t.amt, t.soft, t.grace⟩ : ThrV).right = true := hr
              rw [e] at CR
              clear hr e
              go_wp2_with (first | (go_at_call 47; (with_reducible refine (CR.out _).mono ?_); rintro e w3 ⟨rfl, hb3⟩; have HB3 := Lib.hid (belStep HB.out hb3); replace hbel := HB3.out; clear hb3))
              go_roundw
              case rel =>
                refine ⟨k + 1, by omega, by push_cast; rfl, fun u hu => ?_, HB3.out⟩
                rw [HT.out] at hu
                rcases List.mem_append.1 hu with q | q
                · exact HA.out u q
                · simp at q; rw [q]; exact HR.out
              case measure => simp [intOf] <;> omega
            · have e : (⟨t.sig, t.pct, t.amt, t.soft, t.grace⟩ : ThrV).right = false := hr
              rw [e] at CR
              clear hr e
              go_wp2_with (first | (go_at_call 47; (with_reducible refine (CR.out _).mono ?_); rintro e w3 ⟨rfl, hb3⟩; have HB3 := Lib.hid (belStep HB.out hb3); replace hbel := HB3.out; clear hb3))
              go_ret
              exact ⟨Tells.no, HW.out.trans (HB3.out.mono HSZ.out)⟩
          · obtain rfl : k = c.tl := by omega
            have hki : ¬ (c.tl : Int) < (c.tl : Int) := by omega
            have HR := Lib.hid (show RightC c from ⟨by have := HF.out; omega, take_all HCW.out.len HA.out, HK.out⟩)
            have key2 : (¬ 1 ≤ c.per) ∨ (1 ≤ c.per ∧ ¬ c.per ≤ 1000) ∨ (1 ≤ c.per ∧ c.per ≤ 1000 ∧ ¬ 1 ≤ c.age) ∨ (1 ≤ c.per ∧ c.per ≤ 1000 ∧ 1 ≤ c.age ∧ ¬ c.age ≤ 1000) ∨ (1 ≤ c.per ∧ c.per ≤ 1000 ∧ 1 ≤ c.age ∧ c.age ≤ 1000 ∧ ¬ 0 ≤ c.ret) ∨ (1 ≤ c.per ∧ c.per ≤ 1000 ∧ 1 ≤ c.age ∧ c.age ≤ 1000 ∧ 0 ≤ c.ret ∧ ¬ c.ret ≤ 20) ∨ (1 ≤ c.per ∧ c.per ≤ 1000 ∧ 1 ≤ c.age ∧ c.age ≤ 1000 ∧ 0 ≤ c.ret ∧ c.ret ≤ 20 ∧ ¬ 0 ≤ c.dead) ∨ (1 ≤ c.per ∧ c.per ≤ 1000 ∧ 1 ≤ c.age ∧ c.age ≤ 1000 ∧ 0 ≤ c.ret ∧ c.ret ≤ 20 ∧ 0 ≤ c.dead) := by omega
            clear q1 q2 q4
            rcases key2 with g1 | ⟨g1, g2⟩ | ⟨g1, g2, g3⟩ | ⟨g1, g2, g3, g4⟩ | ⟨g1, g2, g3, g4, g5⟩ | ⟨g1, g2, g3, g4, g5, g6⟩ | ⟨g1, g2, g3, g4, g5, g6, g7⟩ | ⟨g1, g2, g3, g4, g5, g6, g7⟩
            all_goals
              go_wp2
              go_ret
              exact ⟨Tells.any HR.out _, HW.out.trans (HB.out.mono HSZ.out)⟩
end Go.Proofs.Ytpmkhimmlpnbpaa
