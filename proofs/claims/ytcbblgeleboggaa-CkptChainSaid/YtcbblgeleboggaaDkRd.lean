
/- Stage 10: readers for ops and acts; Few, few: contracts. -/
import Derived.Test.YtcbblgeleboggaaDkAw
namespace Go.Proofs.Ytcbblgeleboggaa
open Go.RowKit Go.Sort
set_option linter.unusedVariables false
set_option linter.unusedSimpArgs false
theorem allG_next {α : Type} {f : α → Bool} {L : List α} {k : Nat} {x : α} (h : L[k]? = some x) : (L.take (k + 1)).all f = ((L.take k).all f && f x) := by
  rw [List.take_add_one, h, List.all_append]; simp
theorem allG_not {α : Type} {f : α → Bool} {L : List α} {k m : Nat} {x : α} (h : L[k]? = some x) (hf : f x = false) (hk : k < m) : (L.take m).all f = false := by
  rw [List.all_eq_false]
  refine ⟨x, ?_, by rw [hf]; simp⟩
  exact List.mem_of_getElem? (i := k) (by rw [List.getElem?_take_of_lt hk]; exact h)
def OpV.good (W : World) (o : OpV) : Prop := Ints .u8 W o.ba o.Z.length o.bc o.Z ∧ o.small
theorem OpV.good.later {u w : World} {o : OpV} (h : o.good u) (hb : Below u.heap.size u w) : o.good w := ⟨h.1.later hb, h.2⟩
theorem list4d {l : List Value} (h : l.length = 4) : ∃ a b c d, l = [a, b, c, d] := by
  match l, h with
  | [a, b, c, d], _ => exact ⟨_, _, _, _, rfl⟩
theorem list6d {l : List Value} (h : l.length = 6) : ∃ a b c d e f, l = [a, b, c, d, e, f] := by
  match l, h with
  | [a, b, c, d, e, f], _ => exact ⟨_, _, _, _, _, _, rfl⟩
theorem rd_u8sl {w : World} {g : Value} (h : Rd Try.prog w 29 [g]) : ∃ ta tl tc, g = .slice ta tl tc := by
  rcases Rd.slice Try.underlying29 h with h0 | ⟨ad, len, cap, h1, _⟩
  · simp at h0; exact ⟨_, _, _, h0⟩
  · simp at h1; exact ⟨_, _, _, h1⟩
theorem rd_isl {w : World} {g : Value} (h : Rd Try.prog w 43 [g]) : ∃ ta tl tc, g = .slice ta tl tc := by
  rcases Rd.slice Try.underlying43 h with h0 | ⟨ad, len, cap, h1, _⟩
  · simp at h0; exact ⟨_, _, _, h0⟩
  · simp at h1; exact ⟨_, _, _, h1⟩
theorem flat_int (k : IntKind) (G : List Int) : G.flatMap (fun s => [Value.int k s]) = G.map (Value.int k) := by
  induction G with
  | nil => rfl
  | cons x l ih => simp only [List.flatMap_cons, List.map_cons, ih]; rfl
theorem rd_op {w : World} {cs : List Value} (h : Rd Try.prog w 49 cs) : ∃ x : OpV, cs = x.cells ∧ x.good w := by
  obtain ⟨hl, hf⟩ := Rd.struct Try.underlying49 h
  rw [show Try.prog.cellsOf 49 = 4 by kernel_rfl] at hl
  obtain ⟨a, b, c, d, rfl⟩ := list4d hl
  have h0 := hf 0 _ rfl
  have h1 := hf 1 _ rfl
  have h2 := hf 2 _ rfl
  have h3 := hf 3 _ rfl
  simp [show Try.prog.cellsOf 3 = 1 by kernel_rfl, show Try.prog.cellsOf 9 = 1 by kernel_rfl, show Try.prog.cellsOf 29 = 1 by kernel_rfl] at h0 h1 h2 h3
  obtain ⟨o, e0, w0⟩ := Rd.int Try.underlying3 h0
  obtain ⟨s, e1, w1⟩ := Rd.string Try.underlying9 h1
  obtain ⟨t, e2, w2⟩ := Rd.string Try.underlying9 h2
  obtain ⟨ba, bl, bc, rfl⟩ := rd_u8sl h3
  obtain ⟨Z, g1, g2, g3⟩ := Rd.rows (fun n : Int => [Value.int .u8 n]) 1 Try.underlying29 (by kernel_rfl) (by omega) (fun _ => rfl) (fun n => (Lit.int .u8 n).wf = true) (fun es hes => Rd.int Try.underlying5 hes) h3
  simp at e0 e1 e2
  subst e0 e1 e2 g1
  exact ⟨⟨o, s, t, ba, bc, Z⟩, rfl, ⟨by rw [flat_int] at g3; exact g3, g2⟩, w1, w2, inI_of_wf w0⟩
set_option maxRecDepth 100000 in
theorem open_ops {H : Type} {enc : TypeId × Value → H} {W : World} {v : Value} {b : Nat} {d : DataW H} {p : List MemPlace} (o : Value.okWide Try.prog W .any b 59 v) (h : DataW.Trod enc Try.prog W 0 (fun _ => true) true 59 v d p) :
    ∃ (a : Option Addr) (len cap : Nat) (L : List OpV), v = .slice a len cap ∧ L.length = len ∧ (∀ x ∈ L, x.good W) ∧ Row W a len cap 4 (L.flatMap OpV.cells) := by
  obtain ⟨a, len, cap, rfl⟩ := slice_of_ok Try.underlying59 o
  obtain ⟨L, h1, h2, h3⟩ := Rd.rows OpV.cells 4 Try.underlying59 (by kernel_rfl) (by omega) OpV.cells_len (OpV.good W) (fun es hes => rd_op hes) (Rd.of h)
  exact ⟨a, len, cap, L, rfl, h1, h2, h3⟩
structure ActD where
  kind : Int
  op : OpV
  ka : Option Addr
  kc : Nat
  K : List Int
def ActD.cells (x : ActD) : List Value := [.int .i64 x.kind, .int .i64 x.op.kind, .string x.op.name, .string x.op.dst, .slice x.op.ba x.op.Z.length x.op.bc, .slice x.ka x.K.length x.kc]
theorem ActD.cells_len (x : ActD) : x.cells.length = 6 := rfl
def ActD.good (W : World) (x : ActD) : Prop := InI x.kind ∧ x.op.good W ∧ Ints .i64 W x.ka x.K.length x.kc x.K
def opB (x : OpV) : Bool := (decide (x.name.size ≤ 50) && decide (x.dst.size ≤ 50)) && decide (x.Z.length ≤ 200)
def fewO (L : List OpV) : Bool := (L.take 100).all opB && decide (L.length ≤ 50)
theorem fewO_len {L : List OpV} (h : fewO L = true) : L.length ≤ 50 := by unfold fewO at h; rw [Bool.and_eq_true] at h; exact of_decide_eq_true h.2
def actDB (x : ActD) : Bool := opB x.op && decide (x.K.length ≤ 60)
def fewD (L : List ActD) : Bool := (L.take 100).all actDB && decide (L.length ≤ 50)
theorem fewD_len {L : List ActD} (h : fewD L = true) : L.length ≤ 50 := by unfold fewD at h; rw [Bool.and_eq_true] at h; exact of_decide_eq_true h.2
theorem fewO_op {L : List OpV} (h : fewO L = true) {x : OpV} (hx : x ∈ L) : opB x = true := by
  have hl := fewO_len h
  unfold fewO at h
  rw [Bool.and_eq_true, List.take_of_length_le (by omega)] at h
  exact List.all_eq_true.1 h.1 x hx
theorem fewD_act {L : List ActD} (h : fewD L = true) {x : ActD} (hx : x ∈ L) : actDB x = true := by
  have hl := fewD_len h
  unfold fewD at h
  rw [Bool.and_eq_true, List.take_of_length_le (by omega)] at h
  exact List.all_eq_true.1 h.1 x hx
end Go.Proofs.Ytcbblgeleboggaa
