
/- Pods as arguments: their readings. -/
import Derived.Test.YtpmkhimmlpnbpaaRead
namespace Go.Proofs.Ytpmkhimmlpnbpaa
open Go.RowKit Go.WideShapes
set_option linter.unusedVariables false
set_option linter.unusedSimpArgs false

/-- A pod. -/
structure PodV where
  id : ByteArray
  prio : Int
  crit : Bool
  r0 : Int
  r1 : Int
  r2 : Int
  l0 : Int
  l1 : Int
  l2 : Int
  img : ByteArray
  size : Int

def PodV.cells (p : PodV) : List Value := [.string p.id, .int .i64 p.prio, .bool p.crit, .int .i64 p.r0, .int .i64 p.r1, .int .i64 p.r2, .int .i64 p.l0, .int .i64 p.l1, .int .i64 p.l2, .string p.img, .int .i64 p.size]
theorem PodV.cells_len (p : PodV) : p.cells.length = 11 := rfl
/-- Its numbers are an int's each, its texts no longer than a text may be. -/
def PodV.ok (p : PodV) : Prop := p.id.size ≤ maxLen ∧ p.img.size ≤ maxLen ∧ InI p.prio ∧ InI p.r0 ∧ InI p.r1 ∧ InI p.r2 ∧ InI p.l0 ∧ InI p.l1 ∧ InI p.l2 ∧ InI p.size

theorem list11 {l : List Value} (h : l.length = 11) : ∃ a b c d e f g i j k m, l = [a, b, c, d, e, f, g, i, j, k, m] := by
  match l, h with | [a, b, c, d, e, f, g, i, j, k, m], _ => exact ⟨a, b, c, d, e, f, g, i, j, k, m, rfl⟩

theorem rd_three {w : World} {a b c : Value} (h : Rd Try.prog w 42 [a, b, c]) : ∃ x y z : Int, a = .int .i64 x ∧ b = .int .i64 y ∧ c = .int .i64 z ∧ InI x ∧ InI y ∧ InI z := by
  obtain ⟨_, hf⟩ := Rd.array Try.underlying42 h
  have h0 := hf 0 (by omega)
  have h1 := hf 1 (by omega)
  have h2 := hf 2 (by omega)
  simp [show Try.prog.cellsOf 3 = 1 by kernel_rfl] at h0 h1 h2
  obtain ⟨x, e0, w0⟩ := Rd.int Try.underlying3 h0
  obtain ⟨y, e1, w1⟩ := Rd.int Try.underlying3 h1
  obtain ⟨z, e2, w2⟩ := Rd.int Try.underlying3 h2
  exact ⟨x, y, z, one_int e0, one_int e1, one_int e2, inI_of_wf w0, inI_of_wf w1, inI_of_wf w2⟩

theorem rd_pod {w : World} {cs : List Value} (h : Rd Try.prog w 44 cs) : ∃ p : PodV, cs = p.cells ∧ p.ok := by
  obtain ⟨hl, hf⟩ := Rd.struct Try.underlying44 h
  rw [show Try.prog.cellsOf 44 = 11 by kernel_rfl] at hl
  obtain ⟨a, b, c, d, e, f, g, i, j, k, m, rfl⟩ := list11 hl
  have h0 := hf 0 _ rfl
  have h1 := hf 1 _ rfl
  have h2 := hf 2 _ rfl
  have h3 := hf 3 _ rfl
  have h4 := hf 4 _ rfl
  have h5 := hf 5 _ rfl
  have h6 := hf 6 _ rfl
  simp [show Try.prog.cellsOf 3 = 1 by kernel_rfl, show Try.prog.cellsOf 4 = 1 by kernel_rfl, show Try.prog.cellsOf 9 = 1 by kernel_rfl, show Try.prog.cellsOf 42 = 3 by kernel_rfl] at h0 h1 h2 h3 h4 h5 h6
  obtain ⟨id, e0, w0⟩ := Rd.string Try.underlying9 h0
  obtain ⟨prio, e1, w1⟩ := Rd.int Try.underlying3 h1
  obtain ⟨crit, e2⟩ := Rd.bool Try.underlying4 h2
  obtain ⟨r0, r1, r2, rfl, rfl, rfl, i0, i1, i2⟩ := rd_three h3
  obtain ⟨l0, l1, l2, rfl, rfl, rfl, k0, k1, k2⟩ := rd_three h4
  obtain ⟨img, e5, w5⟩ := Rd.string Try.underlying9 h5
  obtain ⟨size, e6, w6⟩ := Rd.int Try.underlying3 h6
  simp at e0 e1 e2 e5 e6
  subst e0 e1 e2 e5 e6
  exact ⟨⟨id, prio, crit, r0, r1, r2, l0, l1, l2, img, size⟩, rfl, w0, w5, inI_of_wf w1, i0, i1, i2, k0, k1, k2, inI_of_wf w6⟩

def PodV.v (p : PodV) : Value := .agg #[.string p.id, .int .i64 p.prio, .bool p.crit, .int .i64 p.r0, .int .i64 p.r1, .int .i64 p.r2, .int .i64 p.l0, .int .i64 p.l1, .int .i64 p.l2, .string p.img, .int .i64 p.size]

set_option maxRecDepth 100000 in
theorem open_pod {H : Type} {enc : TypeId × Value → H} {W : World} {v : Value} {b : Nat} {d : DataW H} {p : List MemPlace} (o : Value.okWide Try.prog W .any b 44 v) (h : DataW.Trod enc Try.prog W 0 (fun _ => true) true 44 v d p) :
    ∃ p : PodV, v = p.v ∧ p.ok := by
  obtain ⟨cs, rfl⟩ := agg_of_struct Try.underlying44 o
  obtain ⟨p, e, hp⟩ := rd_pod (Rd.of h)
  rw [agg_cells] at e
  refine ⟨p, ?_, hp⟩
  unfold PodV.v
  rw [show cs = cs.toList.toArray by simp, e]
  rfl

set_option maxRecDepth 100000 in
theorem open_pods {H : Type} {enc : TypeId × Value → H} {W : World} {v : Value} {b : Nat} {d : DataW H} {p : List MemPlace} (o : Value.okWide Try.prog W .any b 61 v) (h : DataW.Trod enc Try.prog W 0 (fun _ => true) true 61 v d p) :
    ∃ (a : Option Addr) (len cap : Nat) (L : List PodV), v = .slice a len cap ∧ L.length = len ∧ (∀ x ∈ L, x.ok) ∧ Row W a len cap 11 (L.flatMap PodV.cells) := by
  obtain ⟨a, len, cap, rfl⟩ := slice_of_ok Try.underlying61 o
  obtain ⟨L, h1, h2, h3⟩ := Rd.rows PodV.cells 11 Try.underlying61 (by kernel_rfl) (by omega) PodV.cells_len PodV.ok (fun es hes => rd_pod hes) (Rd.of h)
  exact ⟨a, len, cap, L, rfl, h1, h2, h3⟩
end Go.Proofs.Ytpmkhimmlpnbpaa
