/- Arguments of layer 19's statements, opened. -/
import Derived.Test.YthhpkmpaldcloaaRead
namespace Go.Proofs.Ythhpkmpaldcloaa
open Go.RowKit Go.WideShapes
set_option linter.unusedVariables false
theorem rd_cond {w : World} {cs : List Value} (h : Rd Try.prog w 45 cs) : ∃ on calm, cs = [.bool on, .int .i64 calm] ∧ InI calm := by
  obtain ⟨hl, hf⟩ := Rd.struct Try.underlying45 h
  rw [show Try.prog.cellsOf 45 = 2 by kernel_rfl] at hl
  obtain ⟨a, b, rfl⟩ := list2 hl
  have h0 := hf 0 _ rfl
  have h1 := hf 1 _ rfl
  simp [show Try.prog.cellsOf 4 = 1 by kernel_rfl, show Try.prog.cellsOf 3 = 1 by kernel_rfl] at h0 h1
  obtain ⟨on, e0⟩ := Rd.bool Try.underlying4 h0
  obtain ⟨c, e1, hw⟩ := Rd.int Try.underlying3 h1
  simp at e0 e1
  subst e0 e1
  exact ⟨on, c, rfl, inI_of_wf hw⟩
theorem open_cond {H : Type} {enc : TypeId × Value → H} {W : World} {v : Value} {b : Nat} {d : DataW H} {p : List MemPlace} (o : Value.okWide Try.prog W .any b 45 v) (h : DataW.Trod enc Try.prog W 0 (fun _ => true) true 45 v d p) :
    ∃ on calm, v = .agg #[.bool on, .int .i64 calm] ∧ InI calm := by
  obtain ⟨cs, rfl⟩ := agg_of_struct Try.underlying45 o
  obtain ⟨on, calm, e, hi⟩ := rd_cond (Rd.of h)
  rw [agg_cells] at e
  exact ⟨on, calm, by rw [← e], hi⟩
theorem open_conds {H : Type} {enc : TypeId × Value → H} {W : World} {v : Value} {b : Nat} {d : DataW H} {p : List MemPlace} (o : Value.okWide Try.prog W .any b 57 v) (h : DataW.Trod enc Try.prog W 0 (fun _ => true) true 57 v d p) :
    ∃ b0 c0 b1 c1 b2 c2, v = .agg #[.bool b0, .int .i64 c0, .bool b1, .int .i64 c1, .bool b2, .int .i64 c2] ∧ InI c0 ∧ InI c1 ∧ InI c2 := by
  obtain ⟨cs, rfl⟩ := agg_of_array Try.underlying57 o
  obtain ⟨hl, hf⟩ := Rd.array Try.underlying57 (Rd.of h)
  rw [agg_cells] at hl hf
  rw [show Try.prog.cellsOf 57 = 6 by kernel_rfl] at hl
  obtain ⟨a0, a1, a2, a3, a4, a5, e⟩ := list6 hl
  rw [e] at hf
  have h0 := hf 0 (by omega)
  have h1 := hf 1 (by omega)
  have h2 := hf 2 (by omega)
  simp [show Try.prog.cellsOf 45 = 2 by kernel_rfl] at h0 h1 h2
  obtain ⟨b0, c0, e0, i0⟩ := rd_cond h0
  obtain ⟨b1, c1, e1, i1⟩ := rd_cond h1
  obtain ⟨b2, c2, e2, i2⟩ := rd_cond h2
  simp at e0 e1 e2
  obtain ⟨rfl, rfl⟩ := e0
  obtain ⟨rfl, rfl⟩ := e1
  obtain ⟨rfl, rfl⟩ := e2
  exact ⟨b0, c0, b1, c1, b2, c2, by rw [← e], i0, i1, i2⟩
theorem open_bools {H : Type} {enc : TypeId × Value → H} {W : World} {v : Value} {b : Nat} {d : DataW H} {p : List MemPlace} (o : Value.okWide Try.prog W .any b 58 v) (h : DataW.Trod enc Try.prog W 0 (fun _ => true) true 58 v d p) :
    ∃ b0 b1 b2, v = .agg #[.bool b0, .bool b1, .bool b2] := by
  obtain ⟨cs, rfl⟩ := agg_of_array Try.underlying58 o
  obtain ⟨hl, hf⟩ := Rd.array Try.underlying58 (Rd.of h)
  rw [agg_cells] at hl hf
  rw [show Try.prog.cellsOf 58 = 3 by kernel_rfl] at hl
  obtain ⟨a0, a1, a2, e⟩ := list3 hl
  rw [e] at hf
  have h0 := hf 0 (by omega)
  have h1 := hf 1 (by omega)
  have h2 := hf 2 (by omega)
  simp [show Try.prog.cellsOf 4 = 1 by kernel_rfl] at h0 h1 h2
  obtain ⟨b0, e0⟩ := Rd.bool Try.underlying4 h0
  obtain ⟨b1, e1⟩ := Rd.bool Try.underlying4 h1
  obtain ⟨b2, e2⟩ := Rd.bool Try.underlying4 h2
  simp at e0 e1 e2
  subst e0 e1 e2
  exact ⟨b0, b1, b2, by rw [← e]⟩

/-- What is told of a round: its cells. -/
def roundCells (r : Bool × Bool × Bool) : List Value := [.bool r.1, .bool r.2.1, .bool r.2.2]
theorem roundCells_len (r : Bool × Bool × Bool) : (roundCells r).length = 3 := rfl
theorem rd_round {w : World} {cs : List Value} (h : Rd Try.prog w 52 cs) : ∃ r, cs = roundCells r ∧ True := by
  obtain ⟨hl, hf⟩ := Rd.struct Try.underlying52 h
  rw [show Try.prog.cellsOf 52 = 3 by kernel_rfl] at hl
  obtain ⟨a, b, c, rfl⟩ := list3 hl
  have h0 := hf 0 _ rfl
  have h1 := hf 1 _ rfl
  have h2 := hf 2 _ rfl
  simp [show Try.prog.cellsOf 4 = 1 by kernel_rfl] at h0 h1 h2
  obtain ⟨x, e0⟩ := Rd.bool Try.underlying4 h0
  obtain ⟨y, e1⟩ := Rd.bool Try.underlying4 h1
  obtain ⟨z, e2⟩ := Rd.bool Try.underlying4 h2
  simp at e0 e1 e2
  subst e0 e1 e2
  exact ⟨(x, y, z), rfl, trivial⟩
theorem open_rounds {H : Type} {enc : TypeId × Value → H} {W : World} {v : Value} {b : Nat} {d : DataW H} {p : List MemPlace} (o : Value.okWide Try.prog W .any b 50 v) (h : DataW.Trod enc Try.prog W 0 (fun _ => true) true 50 v d p) :
    ∃ a len cap, ∃ L : List (Bool × Bool × Bool), v = .slice a len cap ∧ L.length = len ∧ Row W a len cap 3 (L.flatMap roundCells) := by
  obtain ⟨a, len, cap, rfl⟩ := slice_of_ok Try.underlying50 o
  obtain ⟨L, h1, _, h2⟩ := Rd.rows roundCells 3 Try.underlying50 (by kernel_rfl) (by omega) roundCells_len (fun _ => True) (fun es hes => rd_round hes) (Rd.of h)
  exact ⟨a, len, cap, L, rfl, h1, h2⟩
end Go.Proofs.Ythhpkmpaldcloaa
