
/- Configs that came in; bilgeref06.Right, bilgeref07.Right: contracts (taken out of stage 18). -/
import Derived.Test.YtbifmmdiekodjaaEntRd
namespace Go.Proofs.Ytbifmmdiekodjaa
open Go.ChangeShapes Go.WideShapes Go.ChangeAt Go.RowKit
set_option linter.unusedVariables false
set_option linter.unusedSimpArgs false
/-- A threshold. -/
structure ThrV where
  sig : Int
  pct : Int
  amt : Int
  soft : Bool
  grace : Int
def ThrV.cells (t : ThrV) : List Value := [.int .i64 t.sig, .int .i64 t.pct, .int .i64 t.amt, .bool t.soft, .int .i64 t.grace]
theorem ThrV.cells_len (t : ThrV) : t.cells.length = 5 := rfl
def ThrV.right (t : ThrV) : Bool := decide (0 ≤ t.sig) && decide (t.sig ≤ 2) && ((decide (1 ≤ t.pct) && decide (t.pct ≤ 100) && t.amt == 0) || (t.pct == 0 && decide (0 < t.amt))) && (if t.soft then decide (1 ≤ t.grace) && decide (t.grace ≤ 1000) else t.grace == 0)
theorem rt_false {sg pc am gr : Int} {so : Bool} (h : sg < 0 ∨ 2 < sg ∨ pc < 0 ∨ 100 < pc ∨ am < 0 ∨ (pc = 0 ∧ am = 0) ∨ (pc ≠ 0 ∧ am ≠ 0)) : (⟨sg, pc, am, so, gr⟩ : ThrV).right = false := by
  rw [Bool.eq_false_iff]
  intro q
  unfold ThrV.right at q
  simp only [Bool.and_eq_true, Bool.or_eq_true, decide_eq_true_eq, beq_iff_eq] at q
  obtain ⟨⟨⟨q1, q2⟩, q3⟩, q4⟩ := q
  omega
theorem rt_so {sg pc am gr : Int} (h1 : 0 ≤ sg ∧ sg ≤ 2) (h2 : 0 ≤ pc ∧ pc ≤ 100) (h3 : 0 ≤ am) (h4 : (pc = 0 ∧ am ≠ 0) ∨ (pc ≠ 0 ∧ am = 0)) : (⟨sg, pc, am, true, gr⟩ : ThrV).right = (decide (1 ≤ gr) && decide (gr ≤ 1000)) ∧ (⟨sg, pc, am, false, gr⟩ : ThrV).right = (gr == 0) := by
  unfold ThrV.right
  have e : (decide (0 ≤ sg) && decide (sg ≤ 2) && ((decide (1 ≤ pc) && decide (pc ≤ 100) && am == 0) || (pc == 0 && decide (0 < am)))) = true := by
    simp only [Bool.and_eq_true, Bool.or_eq_true, decide_eq_true_eq, beq_iff_eq]
    omega
  simp only
  rw [e]
  simp only [Bool.true_and, if_true, Bool.false_eq_true, if_false, and_self]
/-- What is known of a right threshold. -/
theorem ThrV.facts {t : ThrV} (h : t.right = true) : (0 ≤ t.sig ∧ t.sig ≤ 2) ∧ ((1 ≤ t.pct ∧ t.pct ≤ 100 ∧ t.amt = 0) ∨ (t.pct = 0 ∧ 0 < t.amt)) ∧ ((t.soft = true ∧ 1 ≤ t.grace ∧ t.grace ≤ 1000) ∨ (t.soft = false ∧ t.grace = 0)) := by
  unfold ThrV.right at h
  cases hs : t.soft <;> rw [hs] at h <;> simp only [Bool.and_eq_true, Bool.or_eq_true, decide_eq_true_eq, beq_iff_eq, if_true, Bool.false_eq_true, if_false, true_and, false_and, and_true, or_false, false_or, reduceCtorEq] at h ⊢ <;> omega
def ThrV.ok (t : ThrV) : Prop := InI t.sig ∧ InI t.pct ∧ InI t.amt ∧ InI t.grace
theorem rd_thr {w : World} {cs : List Value} (h : Rd Try.prog w 122 cs) : ∃ t : ThrV, cs = t.cells ∧ t.ok := by
  obtain ⟨hl, hf⟩ := Rd.struct Try.underlying122 h
  rw [show Try.prog.cellsOf 122 = 5 by kernel_rfl] at hl
  obtain ⟨a, b, c, d, e, rfl⟩ := list5 hl
  have h0 := hf 0 _ rfl
  have h1 := hf 1 _ rfl
  have h2 := hf 2 _ rfl
  have h3 := hf 3 _ rfl
  have h4 := hf 4 _ rfl
  simp [show Try.prog.cellsOf 3 = 1 by kernel_rfl, show Try.prog.cellsOf 4 = 1 by kernel_rfl] at h0 h1 h2 h3 h4
  obtain ⟨x0, e0, w0⟩ := Rd.int Try.underlying3 h0
  obtain ⟨x1, e1, w1⟩ := Rd.int Try.underlying3 h1
  obtain ⟨x2, e2, w2⟩ := Rd.int Try.underlying3 h2
  obtain ⟨x3, e3⟩ := Rd.bool Try.underlying4 h3
  obtain ⟨x4, e4, w4⟩ := Rd.int Try.underlying3 h4
  simp at e0 e1 e2 e3 e4
  subst e0 e1 e2 e3 e4
  exact ⟨⟨x0, x1, x2, x3, x4⟩, rfl, inI_of_wf w0, inI_of_wf w1, inI_of_wf w2, inI_of_wf w4⟩
/-- A config. -/
structure CfgV where
  k0 : Int
  k1 : Int
  k2 : Int
  a0 : Int
  a1 : Int
  a2 : Int
  ta : Option Addr
  tl : Nat
  tc : Nat
  per : Int
  ret : Int
  age : Int
  dead : Int
  L : List ThrV
def CfgV.v (c : CfgV) : Value := .agg #[.int .i64 c.k0, .int .i64 c.k1, .int .i64 c.k2, .int .i64 c.a0, .int .i64 c.a1, .int .i64 c.a2, .slice c.ta c.tl c.tc, .int .i64 c.per, .int .i64 c.ret, .int .i64 c.age, .int .i64 c.dead]
/-- What is known of one that came in. -/
structure CfgV.ok (c : CfgV) (w : World) : Prop where
  ck : InI c.k0 ∧ InI c.k1 ∧ InI c.k2
  ca : InI c.a0 ∧ InI c.a1 ∧ InI c.a2
  cp : InI c.per ∧ InI c.ret ∧ InI c.age ∧ InI c.dead
  len : c.L.length = c.tl
  row : Row w c.ta c.tl c.tc 5 (c.L.flatMap ThrV.cells)
  thr : ∀ t ∈ c.L, t.ok
theorem CfgV.ok.later {c : CfgV} {w w' : World} (h : c.ok w) (hb : Below w.heap.size w w') : c.ok w' := ⟨h.ck, h.ca, h.cp, h.len, h.row.later hb, h.thr⟩
theorem rd_sl {w : World} {g : Value} (h : Rd Try.prog w 38 [g]) : ∃ ta tl tc, g = .slice ta tl tc := by
  rcases Rd.slice Try.underlying38 h with h0 | ⟨ad, len, cap, h1, _⟩
  · simp at h0; exact ⟨_, _, _, h0⟩
  · simp at h1; exact ⟨_, _, _, h1⟩
theorem rd_cfg {w : World} {cs : List Value} (h : Rd Try.prog w 40 cs) : ∃ c : CfgV, Value.agg cs.toArray = c.v ∧ c.ok w := by
  obtain ⟨hl, hf⟩ := Rd.struct Try.underlying40 h
  rw [show Try.prog.cellsOf 40 = 11 by kernel_rfl] at hl
  obtain ⟨a, b, c, d, e, f, g, i, j, k, m, rfl⟩ := list11 hl
  have h0 := hf 0 _ rfl
  have h1 := hf 1 _ rfl
  have h2 := hf 2 _ rfl
  have h3 := hf 3 _ rfl
  have h4 := hf 4 _ rfl
  have h5 := hf 5 _ rfl
  have h6 := hf 6 _ rfl
  simp [show Try.prog.cellsOf 3 = 1 by kernel_rfl, show Try.prog.cellsOf 22 = 3 by kernel_rfl, show Try.prog.cellsOf 38 = 1 by kernel_rfl] at h0 h1 h2 h3 h4 h5 h6
  obtain ⟨x0, x1, x2, rfl, rfl, rfl, i0, i1, i2⟩ := rd_three h0
  obtain ⟨y0, y1, y2, rfl, rfl, rfl, j0, j1, j2⟩ := rd_three h1
  obtain ⟨ta, tl, tc, rfl⟩ := rd_sl h2
  obtain ⟨p, e3, w3⟩ := Rd.int Try.underlying3 h3
  obtain ⟨q, e4, w4⟩ := Rd.int Try.underlying3 h4
  obtain ⟨r, e5, w5⟩ := Rd.int Try.underlying3 h5
  obtain ⟨s, e6, w6⟩ := Rd.int Try.underlying3 h6
  simp at e3 e4 e5 e6
  subst e3 e4 e5 e6
  obtain ⟨L, hL1, hL2, hL3⟩ := Rd.rows ThrV.cells 5 Try.underlying38 (by kernel_rfl) (by omega) ThrV.cells_len ThrV.ok (fun es hes => rd_thr hes) h2
  exact ⟨⟨x0, x1, x2, y0, y1, y2, ta, tl, tc, p, q, r, s, L⟩, rfl, ⟨i0, i1, i2⟩, ⟨j0, j1, j2⟩, ⟨inI_of_wf w3, inI_of_wf w4, inI_of_wf w5, inI_of_wf w6⟩, hL1, hL3, hL2⟩
set_option maxRecDepth 100000 in
theorem open_cfg {H : Type} {enc : TypeId × Value → H} {W : World} {v : Value} {b : Nat} {d : DataW H} {p : List MemPlace} (o : Value.okWide Try.prog W .any b 40 v) (h : DataW.Trod enc Try.prog W 0 (fun _ => true) true 40 v d p) :
    ∃ c : CfgV, v = c.v ∧ c.ok W := by
  obtain ⟨cs, rfl⟩ := agg_of_struct Try.underlying40 o
  obtain ⟨c, hc, hok⟩ := rd_cfg (Rd.of h)
  rw [agg_cells] at hc
  exact ⟨c, by rw [← hc], hok⟩
/-- A bool is answered, and where it is true, so is P. -/
def Tells (P : Prop) (e : Ending) : Prop := ∃ b, e = .returned (.bool b) ∧ (b = true → P)
theorem Tells.no {P : Prop} : Tells P (.returned (.bool false)) := ⟨false, rfl, fun h => by cases h⟩
theorem Tells.any {P : Prop} (h : P) (b : Bool) : Tells P (.returned (.bool b)) := ⟨b, rfl, fun _ => h⟩
/-- What Right tells of a config. -/
structure RightC (c : CfgV) : Prop where
  few : c.tl ≤ 12
  right : ∀ t ∈ c.L, t.right = true
  caps : (1 ≤ c.k0 ∧ 0 ≤ c.a0) ∧ (1 ≤ c.k1 ∧ 0 ≤ c.a1) ∧ (1 ≤ c.k2 ∧ 0 ≤ c.a2)
theorem take_all {α : Type} {p : α → Prop} {L : List α} {n : Nat} (hn : L.length = n) (h : ∀ x ∈ L.take n, p x) : ∀ x ∈ L, p x := by
  rw [List.take_of_length_le (by omega)] at h; exact h
end Go.Proofs.Ytbifmmdiekodjaa
