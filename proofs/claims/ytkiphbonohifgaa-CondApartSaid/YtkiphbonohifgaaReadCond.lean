
/- Arguments of layer 19's statements, opened. -/
import Derived.Test.YtkiphbonohifgaaRead
namespace Go.Proofs.Ytkiphbonohifgaa
open Go.RowKit Go.WideShapes
set_option linter.unusedVariables false
theorem rd_cond {w : World} {cs : List Value} (h : Rd Try.prog w 23 cs) : ∃ on calm, cs = [.bool on, .int .i64 calm] ∧ InI calm := by
  obtain ⟨hl, hf⟩ := Rd.struct Try.underlying23 h
  rw [show Try.prog.cellsOf 23 = 2 by kernel_rfl] at hl
  obtain ⟨a, b, rfl⟩ := list2 hl
  have h0 := hf 0 _ rfl
  have h1 := hf 1 _ rfl
  simp [show Try.prog.cellsOf 4 = 1 by kernel_rfl, show Try.prog.cellsOf 3 = 1 by kernel_rfl] at h0 h1
  obtain ⟨on, e0⟩ := Rd.bool Try.underlying4 h0
  obtain ⟨c, e1, hw⟩ := Rd.int Try.underlying3 h1
  simp at e0 e1
  subst e0 e1
  exact ⟨on, c, rfl, inI_of_wf hw⟩
theorem open_cond {H : Type} {enc : TypeId × Value → H} {W : World} {v : Value} {b : Nat} {d : DataW H} {p : List MemPlace} (o : Value.okWide Try.prog W .any b 23 v) (h : DataW.Trod enc Try.prog W 0 (fun _ => true) true 23 v d p) :
    ∃ on calm, v = .agg #[.bool on, .int .i64 calm] ∧ InI calm := by
  obtain ⟨cs, rfl⟩ := agg_of_struct Try.underlying23 o
  obtain ⟨on, calm, e, hi⟩ := rd_cond (Rd.of h)
  rw [agg_cells] at e
  exact ⟨on, calm, by rw [← e], hi⟩
theorem open_conds {H : Type} {enc : TypeId × Value → H} {W : World} {v : Value} {b : Nat} {d : DataW H} {p : List MemPlace} (o : Value.okWide Try.prog W .any b 24 v) (h : DataW.Trod enc Try.prog W 0 (fun _ => true) true 24 v d p) :
    ∃ b0 c0 b1 c1 b2 c2, v = .agg #[.bool b0, .int .i64 c0, .bool b1, .int .i64 c1, .bool b2, .int .i64 c2] ∧ InI c0 ∧ InI c1 ∧ InI c2 := by
  obtain ⟨cs, rfl⟩ := agg_of_array Try.underlying24 o
  obtain ⟨hl, hf⟩ := Rd.array Try.underlying24 (Rd.of h)
  rw [agg_cells] at hl hf
  rw [show Try.prog.cellsOf 24 = 6 by kernel_rfl] at hl
  obtain ⟨a0, a1, a2, a3, a4, a5, e⟩ := list6 hl
  rw [e] at hf
  have h0 := hf 0 (by omega)
  have h1 := hf 1 (by omega)
  have h2 := hf 2 (by omega)
  simp [show Try.prog.cellsOf 23 = 2 by kernel_rfl] at h0 h1 h2
  obtain ⟨b0, c0, e0, i0⟩ := rd_cond h0
  obtain ⟨b1, c1, e1, i1⟩ := rd_cond h1
  obtain ⟨b2, c2, e2, i2⟩ := rd_cond h2
  simp at e0 e1 e2
  obtain ⟨rfl, rfl⟩ := e0
  obtain ⟨rfl, rfl⟩ := e1
  obtain ⟨rfl, rfl⟩ := e2
  exact ⟨b0, c0, b1, c1, b2, c2, by rw [← e], i0, i1, i2⟩
theorem open_bools {H : Type} {enc : TypeId × Value → H} {W : World} {v : Value} {b : Nat} {d : DataW H} {p : List MemPlace} (o : Value.okWide Try.prog W .any b 25 v) (h : DataW.Trod enc Try.prog W 0 (fun _ => true) true 25 v d p) :
    ∃ b0 b1 b2, v = .agg #[.bool b0, .bool b1, .bool b2] := by
  obtain ⟨cs, rfl⟩ := agg_of_array Try.underlying25 o
  obtain ⟨hl, hf⟩ := Rd.array Try.underlying25 (Rd.of h)
  rw [agg_cells] at hl hf
  rw [show Try.prog.cellsOf 25 = 3 by kernel_rfl] at hl
  obtain ⟨a0, a1, a2, e⟩ := list3 hl
  rw [e] at hf
  have h0 := hf 0 (by omega)
  have h1 := hf 1 (by omega)
  have h2 := hf 2 (by omega)
  simp [show Try.prog.cellsOf 4 = 1 by kernel_rfl] at h0 h1 h2
  obtain ⟨b0, e0⟩ := Rd.bool Try.underlying4 h0
  obtain ⟨b1, e1⟩ := Rd.bool Try.underlying4 h1
  obtain ⟨b2, e2⟩ := Rd.bool Try.underlying4 h2
  simp at e0 e1 e2
  subst e0 e1 e2
  exact ⟨b0, b1, b2, by rw [← e]⟩

/-- What is told of a round: its cells. -/
def roundCells (r : Bool × Bool × Bool) : List Value := [.bool r.1, .bool r.2.1, .bool r.2.2]
theorem roundCells_len (r : Bool × Bool × Bool) : (roundCells r).length = 3 := rfl
end Go.Proofs.Ytkiphbonohifgaa
