
/- A threshold as an argument. -/
import Derived.Test.YtdmnogljdkncpaaDoorRead
import Derived.Test.YtdmnogljdkncpaaDoorThr4
namespace Go.Proofs.YtdmnogljdkncpaaDoor
open Go.RowKit
set_option linter.unusedVariables false
set_option linter.unusedSimpArgs false
def ThrV.cells (t : ThrV) : List Value := [.int .i64 t.sig, .int .i64 t.pct, .int .i64 t.amt, .bool t.soft, .int .i64 t.grace]
theorem rd_thr {w : World} {cs : List Value} (h : Rd Tryd.prog w 23 cs) : ∃ t : ThrV, cs = t.cells ∧ t.ok := by
  obtain ⟨hl, hf⟩ := Rd.struct Tryd.underlying23 h
  rw [show Tryd.prog.cellsOf 23 = 5 by kernel_rfl] at hl
  obtain ⟨a, b, c, d, e, rfl⟩ := list5 hl
  have h0 := hf 0 _ rfl
  have h1 := hf 1 _ rfl
  have h2 := hf 2 _ rfl
  have h3 := hf 3 _ rfl
  have h4 := hf 4 _ rfl
  simp [show Tryd.prog.cellsOf 3 = 1 by kernel_rfl, show Tryd.prog.cellsOf 4 = 1 by kernel_rfl] at h0 h1 h2 h3 h4
  obtain ⟨x0, e0, w0⟩ := Rd.int Tryd.underlying3 h0
  obtain ⟨x1, e1, w1⟩ := Rd.int Tryd.underlying3 h1
  obtain ⟨x2, e2, w2⟩ := Rd.int Tryd.underlying3 h2
  obtain ⟨x3, e3⟩ := Rd.bool Tryd.underlying4 h3
  obtain ⟨x4, e4, w4⟩ := Rd.int Tryd.underlying3 h4
  simp at e0 e1 e2 e3 e4
  subst e0 e1 e2 e3 e4
  exact ⟨⟨x0, x1, x2, x3, x4⟩, rfl, inI_of_wf w0, inI_of_wf w1, inI_of_wf w2, inI_of_wf w4⟩

set_option maxRecDepth 100000 in
theorem open_thr {H : Type} {enc : TypeId × Value → H} {W : World} {v : Value} {b : Nat} {d : DataW H} {p : List MemPlace} (o : Value.okWide Tryd.prog W .any b 23 v) (h : DataW.Trod enc Tryd.prog W 0 (fun _ => true) true 23 v d p) :
    ∃ (sg pc am gr : Int) (so : Bool), v = .agg #[.int .i64 sg, .int .i64 pc, .int .i64 am, .bool so, .int .i64 gr] ∧ InI am := by
  obtain ⟨cs, rfl⟩ := agg_of_struct Tryd.underlying23 o
  have hr := Rd.of h
  rw [agg_cells] at hr
  obtain ⟨t, e, ht⟩ := rd_thr hr
  exact ⟨t.sig, t.pct, t.amt, t.grace, t.soft, by rw [show cs = cs.toList.toArray by simp, e]; rfl, ht.2.2.1⟩
end Go.Proofs.YtdmnogljdkncpaaDoor
