
/- Stage 27: steps and events that came in: a row of steps, each with a round and a row of events. -/
import Derived.Test.YtekakalhknjdaaaDoorLgM
import Derived.Test.YtekakalhknjdaaaDoorRead
namespace Go.Proofs.YtekakalhknjdaaaDoor
open Go.ChangeShapes Go.WideShapes Go.ChangeAt Go.RowKit
set_option linter.unusedVariables false
set_option linter.unusedSimpArgs false
def EvV.ok (e : EvV) : Prop := InI e.kind ∧ e.id.size ≤ maxLen ∧ InI e.sig ∧ InI e.n
theorem EvV.cells_len (e : EvV) : e.cells.length = 4 := rfl
theorem list4e {l : List Value} (h : l.length = 4) : ∃ a b c d, l = [a, b, c, d] := by
  match l, h with
  | [a, b, c, d], _ => exact ⟨_, _, _, _, rfl⟩
theorem list7e {l : List Value} (h : l.length = 7) : ∃ a b c d e f g, l = [a, b, c, d, e, f, g] := by
  match l, h with
  | [a, b, c, d, e, f, g], _ => exact ⟨_, _, _, _, _, _, _, rfl⟩
theorem list5e {l : List Value} (h : l.length = 5) : ∃ a b c d e, l = [a, b, c, d, e] := by
  match l, h with
  | [a, b, c, d, e], _ => exact ⟨_, _, _, _, _, rfl⟩
theorem rd_ev {w : World} {cs : List Value} (h : Rd Tryd.prog w 23 cs) : ∃ e : EvV, cs = e.cells ∧ e.ok := by
  obtain ⟨hl, hf⟩ := Rd.struct Tryd.underlying23 h
  rw [show Tryd.prog.cellsOf 23 = 4 by kernel_rfl] at hl
  obtain ⟨a, b, c, d, rfl⟩ := list4e hl
  have h0 := hf 0 _ rfl
  have h1 := hf 1 _ rfl
  have h2 := hf 2 _ rfl
  have h3 := hf 3 _ rfl
  simp [show Tryd.prog.cellsOf 3 = 1 by kernel_rfl, show Tryd.prog.cellsOf 9 = 1 by kernel_rfl] at h0 h1 h2 h3
  obtain ⟨k, e0, w0⟩ := Rd.int Tryd.underlying3 h0
  obtain ⟨s, e1, w1⟩ := Rd.string Tryd.underlying9 h1
  obtain ⟨g, e2, w2⟩ := Rd.int Tryd.underlying3 h2
  obtain ⟨n, e3, w3⟩ := Rd.int Tryd.underlying3 h3
  simp at e0 e1 e2 e3
  subst e0 e1 e2 e3
  exact ⟨⟨k, s, g, n⟩, rfl, inI_of_wf w0, w1, inI_of_wf w2, inI_of_wf w3⟩
set_option maxRecDepth 100000 in
theorem open_event {H : Type} {enc : TypeId × Value → H} {W : World} {v : Value} {b : Nat} {d : DataW H} {p : List MemPlace} (o : Value.okWide Tryd.prog W .any b 23 v) (h : DataW.Trod enc Tryd.prog W 0 (fun _ => true) true 23 v d p) :
    ∃ e : EvV, v = .agg #[.int .i64 e.kind, .string e.id, .int .i64 e.sig, .int .i64 e.n] ∧ e.ok := by
  obtain ⟨cs, rfl⟩ := agg_of_struct Tryd.underlying23 o
  have hr := Rd.of h
  rw [agg_cells] at hr
  obtain ⟨e, he, hok⟩ := rd_ev hr
  exact ⟨e, by rw [show cs = cs.toList.toArray by simp, he]; rfl, hok⟩
/-- A step: its round, and its events. -/
structure StepV where
  err : Int
  ea : Option Addr
  en : Nat
  ec : Nat
  round : Int
  pa : Option Addr
  pn : Nat
  pc : Nat
  o0 : Bool
  o1 : Bool
  o2 : Bool
  E : List EvV
def StepV.cells (x : StepV) : List Value := [.int .i64 x.err, .slice x.ea x.en x.ec, .int .i64 x.round, .slice x.pa x.pn x.pc, .bool x.o0, .bool x.o1, .bool x.o2]
theorem StepV.cells_len (x : StepV) : x.cells.length = 7 := rfl
def StepV.good (W : World) (x : StepV) : Prop := (InI x.err ∧ InI x.round ∧ x.E.length = x.en ∧ ∀ e ∈ x.E, e.ok) ∧ Row W x.ea x.en x.ec 4 (x.E.flatMap EvV.cells)
theorem rd_evsl {w : World} {g : Value} (h : Rd Tryd.prog w 43 [g]) : ∃ ta tl tc, g = .slice ta tl tc := by
  rcases Rd.slice Tryd.underlying43 h with h0 | ⟨ad, len, cap, h1, _⟩
  · simp at h0; exact ⟨_, _, _, h0⟩
  · simp at h1; exact ⟨_, _, _, h1⟩
theorem rd_ensl {w : World} {g : Value} (h : Rd Tryd.prog w 44 [g]) : ∃ ta tl tc, g = .slice ta tl tc := by
  rcases Rd.slice Tryd.underlying44 h with h0 | ⟨ad, len, cap, h1, _⟩
  · simp at h0; exact ⟨_, _, _, h0⟩
  · simp at h1; exact ⟨_, _, _, h1⟩
theorem rd_onE {w : World} {a b c : Value} (h : Rd Tryd.prog w 45 [a, b, c]) : ∃ x y z : Bool, a = .bool x ∧ b = .bool y ∧ c = .bool z := by
  obtain ⟨hl, hf⟩ := Rd.array Tryd.underlying45 h
  have h0 := hf 0 (by omega)
  have h1 := hf 1 (by omega)
  have h2 := hf 2 (by omega)
  simp [show Tryd.prog.cellsOf 4 = 1 by kernel_rfl] at h0 h1 h2
  obtain ⟨x', e0⟩ := Rd.bool Tryd.underlying4 h0
  obtain ⟨y', e1⟩ := Rd.bool Tryd.underlying4 h1
  obtain ⟨z', e2⟩ := Rd.bool Tryd.underlying4 h2
  simp at e0 e1 e2
  exact ⟨x', y', z', e0, e1, e2⟩
theorem rd_step {w : World} {cs : List Value} (h : Rd Tryd.prog w 49 cs) : ∃ x : StepV, cs = x.cells ∧ x.good w := by
  obtain ⟨hl, hf⟩ := Rd.struct Tryd.underlying49 h
  rw [show Tryd.prog.cellsOf 49 = 7 by kernel_rfl] at hl
  obtain ⟨a, b, c, d, e, f, g, rfl⟩ := list7e hl
  have h0 := hf 0 _ rfl
  have h1 := hf 1 _ rfl
  have h2 := hf 2 _ rfl
  simp [show Tryd.prog.cellsOf 25 = 1 by kernel_rfl, show Tryd.prog.cellsOf 43 = 1 by kernel_rfl, show Tryd.prog.cellsOf 47 = 5 by kernel_rfl] at h0 h1 h2
  obtain ⟨er, e0, w0⟩ := Rd.int Tryd.underlying25 h0
  obtain ⟨ta, tl, tc, rfl⟩ := rd_evsl h1
  obtain ⟨L, hL1, hL2, hL3⟩ := Rd.rows EvV.cells 4 Tryd.underlying43 (by kernel_rfl) (by omega) EvV.cells_len EvV.ok (fun es hes => rd_ev hes) h1
  obtain ⟨_, sf⟩ := Rd.struct Tryd.underlying47 h2
  have s0 := sf 0 _ rfl
  have s1 := sf 1 _ rfl
  have s2 := sf 2 _ rfl
  simp [show Tryd.prog.cellsOf 3 = 1 by kernel_rfl, show Tryd.prog.cellsOf 44 = 1 by kernel_rfl, show Tryd.prog.cellsOf 45 = 3 by kernel_rfl] at s0 s1 s2
  obtain ⟨r, r0, wr⟩ := Rd.int Tryd.underlying3 s0
  obtain ⟨pa, pn, pc, rfl⟩ := rd_ensl s1
  obtain ⟨x, y, z, rfl, rfl, rfl⟩ := rd_onE s2
  simp at e0 r0
  subst e0 r0
  exact ⟨⟨er, ta, tl, tc, r, pa, pn, pc, x, y, z, L⟩, rfl, ⟨inI_of_wf w0, inI_of_wf wr, hL1, hL2⟩, hL3⟩
set_option maxRecDepth 100000 in
theorem open_steps {H : Type} {enc : TypeId × Value → H} {W : World} {v : Value} {b : Nat} {d : DataW H} {p : List MemPlace} (o : Value.okWide Tryd.prog W .any b 39 v) (h : DataW.Trod enc Tryd.prog W 0 (fun _ => true) true 39 v d p) :
    ∃ (a : Option Addr) (len cap : Nat) (L : List StepV), v = .slice a len cap ∧ L.length = len ∧ (∀ x ∈ L, x.good W) ∧ Row W a len cap 7 (L.flatMap StepV.cells) := by
  obtain ⟨a, len, cap, rfl⟩ := slice_of_ok Tryd.underlying39 o
  obtain ⟨L, h1, h2, h3⟩ := Rd.rows StepV.cells 7 Tryd.underlying39 (by kernel_rfl) (by omega) StepV.cells_len (StepV.good W) (fun es hes => rd_step hes) (Rd.of h)
  exact ⟨a, len, cap, L, rfl, h1, h2, h3⟩
end Go.Proofs.YtekakalhknjdaaaDoor
