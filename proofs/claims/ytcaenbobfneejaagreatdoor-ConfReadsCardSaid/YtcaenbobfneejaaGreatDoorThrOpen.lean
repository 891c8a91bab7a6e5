
/- A threshold as an argument. -/
import Derived.Test.YtcaenbobfneejaaGreatDoorRead
import Derived.Test.YtcaenbobfneejaaGreatDoorThr4
namespace Go.Proofs.YtcaenbobfneejaaGreatDoor
open Go.RowKit
set_option linter.unusedVariables false
set_option linter.unusedSimpArgs false
def ThrV.cells (t : ThrV) : List Value := [.int .i64 t.sig, .int .i64 t.pct, .int .i64 t.amt, .bool t.soft, .int .i64 t.grace]
theorem rd_three {w : World} {a b c : Value} (h : Rd Tryz.prog w 24 [a, b, c]) : ∃ x y z : Int, a = .int .i64 x ∧ b = .int .i64 y ∧ c = .int .i64 z ∧ InI x ∧ InI y ∧ InI z := by
  obtain ⟨_, hf⟩ := Rd.array Tryz.underlying24 h
  have h0 := hf 0 (by omega)
  have h1 := hf 1 (by omega)
  have h2 := hf 2 (by omega)
  simp [show Tryz.prog.cellsOf 3 = 1 by kernel_rfl] at h0 h1 h2
  obtain ⟨x, e0, w0⟩ := Rd.int Tryz.underlying3 h0
  obtain ⟨y, e1, w1⟩ := Rd.int Tryz.underlying3 h1
  obtain ⟨z, e2, w2⟩ := Rd.int Tryz.underlying3 h2
  exact ⟨x, y, z, one_int e0, one_int e1, one_int e2, inI_of_wf w0, inI_of_wf w1, inI_of_wf w2⟩
theorem rd_thr {w : World} {cs : List Value} (h : Rd Tryz.prog w 54 cs) : ∃ t : ThrV, cs = t.cells ∧ t.ok := by
  obtain ⟨hl, hf⟩ := Rd.struct Tryz.underlying54 h
  rw [show Tryz.prog.cellsOf 54 = 5 by kernel_rfl] at hl
  obtain ⟨a, b, c, d, e, rfl⟩ := list5 hl
  have h0 := hf 0 _ rfl
  have h1 := hf 1 _ rfl
  have h2 := hf 2 _ rfl
  have h3 := hf 3 _ rfl
  have h4 := hf 4 _ rfl
  simp [show Tryz.prog.cellsOf 3 = 1 by kernel_rfl, show Tryz.prog.cellsOf 4 = 1 by kernel_rfl] at h0 h1 h2 h3 h4
  obtain ⟨x0, e0, w0⟩ := Rd.int Tryz.underlying3 h0
  obtain ⟨x1, e1, w1⟩ := Rd.int Tryz.underlying3 h1
  obtain ⟨x2, e2, w2⟩ := Rd.int Tryz.underlying3 h2
  obtain ⟨x3, e3⟩ := Rd.bool Tryz.underlying4 h3
  obtain ⟨x4, e4, w4⟩ := Rd.int Tryz.underlying3 h4
  simp at e0 e1 e2 e3 e4
  subst e0 e1 e2 e3 e4
  exact ⟨⟨x0, x1, x2, x3, x4⟩, rfl, inI_of_wf w0, inI_of_wf w1, inI_of_wf w2, inI_of_wf w4⟩

set_option maxRecDepth 100000 in
theorem open_thr {H : Type} {enc : TypeId × Value → H} {W : World} {v : Value} {b : Nat} {d : DataW H} {p : List MemPlace} (o : Value.okWide Tryz.prog W .any b 54 v) (h : DataW.Trod enc Tryz.prog W 0 (fun _ => true) true 54 v d p) :
    ∃ (sg pc am gr : Int) (so : Bool), v = .agg #[.int .i64 sg, .int .i64 pc, .int .i64 am, .bool so, .int .i64 gr] ∧ InI am := by
  obtain ⟨cs, rfl⟩ := agg_of_struct Tryz.underlying54 o
  have hr := Rd.of h
  rw [agg_cells] at hr
  obtain ⟨t, e, ht⟩ := rd_thr hr
  exact ⟨t.sig, t.pct, t.amt, t.grace, t.soft, by rw [show cs = cs.toList.toArray by simp, e]; rfl, ht.2.2.1⟩
end Go.Proofs.YtcaenbobfneejaaGreatDoor
