
/- Raw samples as arguments: their readings. -/
import Derived.Test.YtcgpmihjodolmaaPodRd
import Derived.Test.YtcgpmihjodolmaaEdgeMath
namespace Go.Proofs.Ytcgpmihjodolmaa
open Go.RowKit Go.WideShapes
set_option linter.unusedVariables false
set_option linter.unusedSimpArgs false

section
variable {P : Program} {w : World} {t : TypeId} {cs : List Value}
theorem trod_flt {H : Type} {enc : TypeId × Value → H} {base fuel : Nat} {spare : Nat → Bool} {held : Bool} {x : DataW H × List MemPlace} {k : FloatKind} (ht : P.underlying t = some (.float k)) (h : DataW.trod enc P w base spare held fuel t cs = some x) : ∃ n, cs = [.float k n] ∧ (Lit.float k n).wf = true := by
  cases fuel with
  | zero => simp [DataW.trod] at h
  | succ n =>
    unfold DataW.trod at h
    rw [ht] at h
    split at h <;> simp_all
theorem Rd.flt (ht : P.underlying t = some (.float .f64)) (h : Rd P w t cs) : ∃ n : Nat, cs = [.float .f64 n] ∧ n < 18446744073709551616 := by
  obtain ⟨H, enc, n, x, h⟩ := h
  obtain ⟨a, h1, h2⟩ := trod_flt ht h
  exact ⟨a, h1, by simpa [Lit.wf] using h2⟩
end
theorem one_flt {v : Value} {a : Nat} (h : [v] = [Value.float .f64 a]) : v = .float .f64 a := by simpa using h
def In64 (n : Nat) : Prop := n < 18446744073709551616

theorem rd_flt3 {w : World} {a b c : Value} (h : Rd Try.prog w 23 [a, b, c]) : ∃ x y z : Nat, a = .float .f64 x ∧ b = .float .f64 y ∧ c = .float .f64 z ∧ In64 x ∧ In64 y ∧ In64 z := by
  obtain ⟨_, hf⟩ := Rd.array Try.underlying23 h
  have h0 := hf 0 (by omega)
  have h1 := hf 1 (by omega)
  have h2 := hf 2 (by omega)
  simp [show Try.prog.cellsOf 22 = 1 by kernel_rfl] at h0 h1 h2
  obtain ⟨x, e0, w0⟩ := Rd.flt Try.underlying22 h0
  obtain ⟨y, e1, w1⟩ := Rd.flt Try.underlying22 h1
  obtain ⟨z, e2, w2⟩ := Rd.flt Try.underlying22 h2
  exact ⟨x, y, z, one_flt e0, one_flt e1, one_flt e2, w0, w1, w2⟩

/-- What one pod uses, raw. -/
structure UsgV where
  id : ByteArray
  a : Nat
  b : Nat
  c : Nat
def UsgV.cells (u : UsgV) : List Value := [.string u.id, .float .f64 u.a, .float .f64 u.b, .float .f64 u.c]
theorem UsgV.cells_len (u : UsgV) : u.cells.length = 4 := rfl
def UsgV.ok (u : UsgV) : Prop := u.id.size ≤ maxLen ∧ In64 u.a ∧ In64 u.b ∧ In64 u.c

theorem rd_usg {w : World} {cs : List Value} (h : Rd Try.prog w 47 cs) : ∃ u : UsgV, cs = u.cells ∧ u.ok := by
  obtain ⟨hl, hf⟩ := Rd.struct Try.underlying47 h
  rw [show Try.prog.cellsOf 47 = 4 by kernel_rfl] at hl
  obtain ⟨a, b, c, d, rfl⟩ := list4 hl
  have h0 := hf 0 _ rfl
  have h1 := hf 1 _ rfl
  simp [show Try.prog.cellsOf 9 = 1 by kernel_rfl, show Try.prog.cellsOf 23 = 3 by kernel_rfl] at h0 h1
  obtain ⟨s, e0, w0⟩ := Rd.string Try.underlying9 h0
  obtain ⟨x, y, z, rfl, rfl, rfl, i0, i1, i2⟩ := rd_flt3 h1
  simp at e0
  subst e0
  exact ⟨⟨s, x, y, z⟩, rfl, w0, i0, i1, i2⟩

/-- A raw sample, but for what pods use. -/
structure RawV where
  t : Int
  x : Nat
  y : Nat
  z : Nat
def RawV.ok (r : RawV) : Prop := InI r.t ∧ In64 r.x ∧ In64 r.y ∧ In64 r.z
def rawCells (r : RawV) (s : Value) : List Value := [.int .i64 r.t, .float .f64 r.x, .float .f64 r.y, .float .f64 r.z, s]

set_option maxRecDepth 100000 in
theorem open_raw {H : Type} {enc : TypeId × Value → H} {W : World} {v : Value} {b : Nat} {d : DataW H} {p : List MemPlace} (o : Value.okWide Try.prog W .any b 26 v) (h : DataW.Trod enc Try.prog W 0 (fun _ => true) true 26 v d p) :
    ∃ (r : RawV) (a : Option Addr) (len cap : Nat) (L : List UsgV), v = .agg #[.int .i64 r.t, .float .f64 r.x, .float .f64 r.y, .float .f64 r.z, .slice a len cap] ∧ r.ok ∧ L.length = len ∧ (∀ x ∈ L, x.ok) ∧ Row W a len cap 4 (L.flatMap UsgV.cells) := by
  obtain ⟨cs, rfl⟩ := agg_of_struct Try.underlying26 o
  have hrd := Rd.of h
  rw [agg_cells] at hrd
  obtain ⟨hl, hf⟩ := Rd.struct Try.underlying26 hrd
  rw [show Try.prog.cellsOf 26 = 5 by kernel_rfl] at hl
  obtain ⟨a, b, c, d, e, hcs⟩ := list5 hl
  rw [hcs] at hf
  have h0 := hf 0 _ rfl
  have h1 := hf 1 _ rfl
  have h2 := hf 2 _ rfl
  simp [show Try.prog.cellsOf 3 = 1 by kernel_rfl, show Try.prog.cellsOf 23 = 3 by kernel_rfl, show Try.prog.cellsOf 24 = 1 by kernel_rfl] at h0 h1 h2
  obtain ⟨t, e0, w0⟩ := Rd.int Try.underlying3 h0
  obtain ⟨x, y, z, rfl, rfl, rfl, i0, i1, i2⟩ := rd_flt3 h1
  obtain rfl := one_int e0
  have hsl : ∃ ad len cap, e = .slice ad len cap := by
    rcases Rd.slice Try.underlying24 h2 with q | ⟨ad, len, cap, q, _⟩
    · exact ⟨none, 0, 0, by simpa using q⟩
    · exact ⟨some ad, len, cap, by simpa using q⟩
  obtain ⟨ad, len, cap, rfl⟩ := hsl
  obtain ⟨L, h1, h2, h3⟩ := Rd.rows UsgV.cells 4 Try.underlying24 (by kernel_rfl) (by omega) UsgV.cells_len UsgV.ok (fun es hes => rd_usg hes) h2
  refine ⟨⟨t, x, y, z⟩, ad, len, cap, L, ?_, ⟨inI_of_wf w0, i0, i1, i2⟩, h1, h2, h3⟩
  rw [show cs = cs.toList.toArray by simp, hcs]
end Go.Proofs.Ytcgpmihjodolmaa
