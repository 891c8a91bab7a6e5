
/- States that came in: a round, three bools, a row of entries. -/
import Derived.Test.YtpmkhimmlpnbpaaPodRd
import Derived.Test.YtpmkhimmlpnbpaaRead
namespace Go.Proofs.Ytpmkhimmlpnbpaa
open Go.ChangeShapes Go.WideShapes Go.ChangeAt Go.RowKit
set_option linter.unusedVariables false
set_option linter.unusedSimpArgs false
structure EntV where
  pod : PodV
  phase : Int
def EntV.cells (x : EntV) : List Value := [.string x.pod.id, .int .i64 x.pod.prio, .bool x.pod.crit, .int .i64 x.pod.r0, .int .i64 x.pod.r1, .int .i64 x.pod.r2, .int .i64 x.pod.l0, .int .i64 x.pod.l1, .int .i64 x.pod.l2, .string x.pod.img, .int .i64 x.pod.size, .int .i64 x.phase]
theorem EntV.cells_len (x : EntV) : x.cells.length = 12 := rfl
def EntV.ok (x : EntV) : Prop := x.pod.ok ∧ InI x.phase
theorem list12 {l : List Value} (h : l.length = 12) : ∃ a b c d e f g i j k m n, l = [a, b, c, d, e, f, g, i, j, k, m, n] := by
  match l, h with
  | [a, b, c, d, e, f, g, i, j, k, m, n], _ => exact ⟨_, _, _, _, _, _, _, _, _, _, _, _, rfl⟩
theorem rd_ent {w : World} {cs : List Value} (h : Rd Try.prog w 46 cs) : ∃ x : EntV, cs = x.cells ∧ x.ok := by
  obtain ⟨hl, hf⟩ := Rd.struct Try.underlying46 h
  rw [show Try.prog.cellsOf 46 = 12 by kernel_rfl] at hl
  obtain ⟨a, b, c, d, e, f, g, i, j, k, m, n, rfl⟩ := list12 hl
  have h0 := hf 0 _ rfl
  have h1 := hf 1 _ rfl
  simp [show Try.prog.cellsOf 44 = 11 by kernel_rfl, show Try.prog.cellsOf 3 = 1 by kernel_rfl] at h0 h1
  obtain ⟨p, ep, hp⟩ := rd_pod h0
  obtain ⟨ph, e1, w1⟩ := Rd.int Try.underlying3 h1
  simp at e1
  subst e1
  unfold PodV.cells at ep
  simp only [List.cons.injEq, and_true] at ep
  obtain ⟨rfl, rfl, rfl, rfl, rfl, rfl, rfl, rfl, rfl, rfl, rfl⟩ := ep
  exact ⟨⟨p, ph⟩, rfl, hp, inI_of_wf w1⟩
set_option maxRecDepth 100000 in
theorem open_ents {H : Type} {enc : TypeId × Value → H} {W : World} {v : Value} {b : Nat} {d : DataW H} {p : List MemPlace} (o : Value.okWide Try.prog W .any b 22 v) (h : DataW.Trod enc Try.prog W 0 (fun _ => true) true 22 v d p) :
    ∃ (a : Option Addr) (len cap : Nat) (L : List EntV), v = .slice a len cap ∧ L.length = len ∧ (∀ x ∈ L, x.ok) ∧ Row W a len cap 12 (L.flatMap EntV.cells) := by
  obtain ⟨a, len, cap, rfl⟩ := slice_of_ok Try.underlying22 o
  obtain ⟨L, h1, h2, h3⟩ := Rd.rows EntV.cells 12 Try.underlying22 (by kernel_rfl) (by omega) EntV.cells_len EntV.ok (fun es hes => rd_ent hes) (Rd.of h)
  exact ⟨a, len, cap, L, rfl, h1, h2, h3⟩
structure On where
  a : Bool
  b : Bool
  c : Bool
theorem list3b {l : List Value} (h : l.length = 3) : ∃ a b c, l = [a, b, c] := by
  match l, h with
  | [a, b, c], _ => exact ⟨_, _, _, rfl⟩
set_option maxRecDepth 100000 in
theorem open_on {H : Type} {enc : TypeId × Value → H} {W : World} {v : Value} {b : Nat} {d : DataW H} {p : List MemPlace} (o : Value.okWide Try.prog W .any b 23 v) (h : DataW.Trod enc Try.prog W 0 (fun _ => true) true 23 v d p) :
    ∃ O : On, v = .agg #[.bool O.a, .bool O.b, .bool O.c] := by
  obtain ⟨cs, rfl⟩ := agg_of_array Try.underlying23 o
  have hr := Rd.of h
  rw [agg_cells] at hr
  obtain ⟨hl, hf⟩ := Rd.array Try.underlying23 hr
  rw [show Try.prog.cellsOf 23 = 3 by kernel_rfl] at hl
  obtain ⟨x, y, z, e⟩ := list3b hl
  rw [e] at hf
  have h0 := hf 0 (by omega)
  have h1 := hf 1 (by omega)
  have h2 := hf 2 (by omega)
  simp [show Try.prog.cellsOf 4 = 1 by kernel_rfl] at h0 h1 h2
  obtain ⟨x', e0⟩ := Rd.bool Try.underlying4 h0
  obtain ⟨y', e1⟩ := Rd.bool Try.underlying4 h1
  obtain ⟨z', e2⟩ := Rd.bool Try.underlying4 h2
  simp at e0 e1 e2
  subst e0 e1 e2
  exact ⟨⟨x', y', z'⟩, by rw [show cs = cs.toList.toArray by simp, e]⟩
theorem list5s {l : List Value} (h : l.length = 5) : ∃ a b c d e, l = [a, b, c, d, e] := by
  match l, h with
  | [a, b, c, d, e], _ => exact ⟨_, _, _, _, _, rfl⟩
theorem rd_on {w : World} {a b c : Value} (h : Rd Try.prog w 23 [a, b, c]) : ∃ o : On, a = .bool o.a ∧ b = .bool o.b ∧ c = .bool o.c := by
  obtain ⟨hl, hf⟩ := Rd.array Try.underlying23 h
  have h0 := hf 0 (by omega)
  have h1 := hf 1 (by omega)
  have h2 := hf 2 (by omega)
  simp [show Try.prog.cellsOf 4 = 1 by kernel_rfl] at h0 h1 h2
  obtain ⟨x', e0⟩ := Rd.bool Try.underlying4 h0
  obtain ⟨y', e1⟩ := Rd.bool Try.underlying4 h1
  obtain ⟨z', e2⟩ := Rd.bool Try.underlying4 h2
  simp at e0 e1 e2
  exact ⟨⟨x', y', z'⟩, e0, e1, e2⟩
theorem rd_esl {w : World} {g : Value} (h : Rd Try.prog w 22 [g]) : ∃ ta tl tc, g = .slice ta tl tc := by
  rcases Rd.slice Try.underlying22 h with h0 | ⟨ad, len, cap, h1, _⟩
  · simp at h0; exact ⟨_, _, _, h0⟩
  · simp at h1; exact ⟨_, _, _, h1⟩
set_option maxRecDepth 100000 in
theorem open_state {H : Type} {enc : TypeId × Value → H} {W : World} {v : Value} {b : Nat} {d : DataW H} {p : List MemPlace} (o : Value.okWide Try.prog W .any b 25 v) (h : DataW.Trod enc Try.prog W 0 (fun _ => true) true 25 v d p) :
    ∃ (r : Int) (a : Option Addr) (n c : Nat) (O : On) (L : List EntV), v = .agg #[.int .i64 r, .slice a n c, .bool O.a, .bool O.b, .bool O.c] ∧ InI r ∧ L.length = n ∧ (∀ x ∈ L, x.ok) ∧ Row W a n c 12 (L.flatMap EntV.cells) := by
  obtain ⟨cs, rfl⟩ := agg_of_struct Try.underlying25 o
  have hr := Rd.of h
  rw [agg_cells] at hr
  obtain ⟨hl, hf⟩ := Rd.struct Try.underlying25 hr
  rw [show Try.prog.cellsOf 25 = 5 by kernel_rfl] at hl
  obtain ⟨x0, x1, x2, x3, x4, e⟩ := list5s hl
  rw [e] at hf
  have h0 := hf 0 _ rfl
  have h1 := hf 1 _ rfl
  have h2 := hf 2 _ rfl
  simp [show Try.prog.cellsOf 3 = 1 by kernel_rfl, show Try.prog.cellsOf 22 = 1 by kernel_rfl, show Try.prog.cellsOf 23 = 3 by kernel_rfl] at h0 h1 h2
  obtain ⟨r, e0, w0⟩ := Rd.int Try.underlying3 h0
  obtain ⟨ta, tl, tc, rfl⟩ := rd_esl h1
  obtain ⟨O, rfl, rfl, rfl⟩ := rd_on h2
  simp at e0
  subst e0
  obtain ⟨L, hL1, hL2, hL3⟩ := Rd.rows EntV.cells 12 Try.underlying22 (by kernel_rfl) (by omega) EntV.cells_len EntV.ok (fun es hes => rd_ent hes) h1
  exact ⟨r, ta, tl, tc, O, L, by rw [show cs = cs.toList.toArray by simp, e], inI_of_wf w0, hL1, hL2, hL3⟩
end Go.Proofs.Ytpmkhimmlpnbpaa
