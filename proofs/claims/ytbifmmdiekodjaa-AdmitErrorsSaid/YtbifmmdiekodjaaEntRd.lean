
/- Tables that came in, rows of entries; three bools. -/
import Derived.Test.YtbifmmdiekodjaaVicRD
namespace Go.Proofs.Ytbifmmdiekodjaa
open Go.ChangeShapes Go.WideShapes Go.ChangeAt Go.RowKit
set_option linter.unusedVariables false
set_option linter.unusedSimpArgs false
structure EntV where
  pod : PodV
  phase : Int
def EntV.cells (x : EntV) : List Value := [.string x.pod.id, .int .i64 x.pod.prio, .bool x.pod.crit, .int .i64 x.pod.r0, .int .i64 x.pod.r1, .int .i64 x.pod.r2, .int .i64 x.pod.l0, .int .i64 x.pod.l1, .int .i64 x.pod.l2, .string x.pod.img, .int .i64 x.pod.size, .int .i64 x.phase]
theorem EntV.cells_len (x : EntV) : x.cells.length = 12 := rfl
def EntV.ok (x : EntV) : Prop := x.pod.ok ∧ InI x.phase
theorem list12 {l : List Value} (h : l.length = 12) : ∃ a b c d e f g i j k m n, l = [a, b, c, d, e, f, g, i, j, k, m, n] := by
  match l, h with
  | [a, b, c, d, e, f, g, i, j, k, m, n], _ => exact ⟨_, _, _, _, _, _, _, _, _, _, _, _, rfl⟩
theorem rd_ent {w : World} {cs : List Value} (h : Rd Try.prog w 31 cs) : ∃ x : EntV, cs = x.cells ∧ x.ok := by
  obtain ⟨hl, hf⟩ := Rd.struct Try.underlying31 h
  rw [show Try.prog.cellsOf 31 = 12 by kernel_rfl] at hl
  obtain ⟨a, b, c, d, e, f, g, i, j, k, m, n, rfl⟩ := list12 hl
  have h0 := hf 0 _ rfl
  have h1 := hf 1 _ rfl
  simp [show Try.prog.cellsOf 24 = 11 by kernel_rfl, show Try.prog.cellsOf 3 = 1 by kernel_rfl] at h0 h1
  obtain ⟨p, ep, hp⟩ := rd_pod h0
  obtain ⟨ph, e1, w1⟩ := Rd.int Try.underlying3 h1
  simp at e1
  subst e1
  unfold PodV.cells at ep
  simp only [List.cons.injEq, and_true] at ep
  obtain ⟨rfl, rfl, rfl, rfl, rfl, rfl, rfl, rfl, rfl, rfl, rfl⟩ := ep
  exact ⟨⟨p, ph⟩, rfl, hp, inI_of_wf w1⟩
set_option maxRecDepth 100000 in
theorem open_ents {H : Type} {enc : TypeId × Value → H} {W : World} {v : Value} {b : Nat} {d : DataW H} {p : List MemPlace} (o : Value.okWide Try.prog W .any b 28 v) (h : DataW.Trod enc Try.prog W 0 (fun _ => true) true 28 v d p) :
    ∃ (a : Option Addr) (len cap : Nat) (L : List EntV), v = .slice a len cap ∧ L.length = len ∧ (∀ x ∈ L, x.ok) ∧ Row W a len cap 12 (L.flatMap EntV.cells) := by
  obtain ⟨a, len, cap, rfl⟩ := slice_of_ok Try.underlying28 o
  obtain ⟨L, h1, h2, h3⟩ := Rd.rows EntV.cells 12 Try.underlying28 (by kernel_rfl) (by omega) EntV.cells_len EntV.ok (fun es hes => rd_ent hes) (Rd.of h)
  exact ⟨a, len, cap, L, rfl, h1, h2, h3⟩
structure On where
  a : Bool
  b : Bool
  c : Bool
theorem list3b {l : List Value} (h : l.length = 3) : ∃ a b c, l = [a, b, c] := by
  match l, h with
  | [a, b, c], _ => exact ⟨_, _, _, rfl⟩
set_option maxRecDepth 100000 in
theorem open_on {H : Type} {enc : TypeId × Value → H} {W : World} {v : Value} {b : Nat} {d : DataW H} {p : List MemPlace} (o : Value.okWide Try.prog W .any b 25 v) (h : DataW.Trod enc Try.prog W 0 (fun _ => true) true 25 v d p) :
    ∃ O : On, v = .agg #[.bool O.a, .bool O.b, .bool O.c] := by
  obtain ⟨cs, rfl⟩ := agg_of_array Try.underlying25 o
  have hr := Rd.of h
  rw [agg_cells] at hr
  obtain ⟨hl, hf⟩ := Rd.array Try.underlying25 hr
  rw [show Try.prog.cellsOf 25 = 3 by kernel_rfl] at hl
  obtain ⟨x, y, z, e⟩ := list3b hl
  rw [e] at hf
  have h0 := hf 0 (by omega)
  have h1 := hf 1 (by omega)
  have h2 := hf 2 (by omega)
  simp [show Try.prog.cellsOf 4 = 1 by kernel_rfl] at h0 h1 h2
  obtain ⟨x', e0⟩ := Rd.bool Try.underlying4 h0
  obtain ⟨y', e1⟩ := Rd.bool Try.underlying4 h1
  obtain ⟨z', e2⟩ := Rd.bool Try.underlying4 h2
  simp at e0 e1 e2
  subst e0 e1 e2
  exact ⟨⟨x', y', z'⟩, by rw [show cs = cs.toList.toArray by simp, e]⟩
end Go.Proofs.Ytbifmmdiekodjaa
