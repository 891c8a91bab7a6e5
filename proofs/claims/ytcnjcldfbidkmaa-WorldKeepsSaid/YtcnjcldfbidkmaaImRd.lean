
/- Lists of images and of texts that came in. -/
import Derived.Test.YtcnjcldfbidkmaaRead
namespace Go.Proofs.Ytcnjcldfbidkmaa
open Go.ChangeShapes Go.WideShapes Go.ChangeAt Go.RowKit
set_option linter.unusedVariables false
set_option linter.unusedSimpArgs false
structure ImgV where
  name : ByteArray
  size : Int
  last : Int
def ImgV.cells (x : ImgV) : List Value := [.string x.name, .int .i64 x.size, .int .i64 x.last]
theorem ImgV.cells_len (x : ImgV) : x.cells.length = 3 := rfl
def ImgV.ok (x : ImgV) : Prop := x.name.size ≤ maxLen ∧ InI x.size ∧ InI x.last
theorem list3v {l : List Value} (h : l.length = 3) : ∃ a b c, l = [a, b, c] := by
  match l, h with
  | [a, b, c], _ => exact ⟨_, _, _, rfl⟩
theorem rd_img {w : World} {cs : List Value} (h : Rd Try.prog w 58 cs) : ∃ x : ImgV, cs = x.cells ∧ x.ok := by
  obtain ⟨hl, hf⟩ := Rd.struct Try.underlying58 h
  rw [show Try.prog.cellsOf 58 = 3 by kernel_rfl] at hl
  obtain ⟨a, b, c, rfl⟩ := list3v hl
  have h0 := hf 0 _ rfl
  have h1 := hf 1 _ rfl
  have h2 := hf 2 _ rfl
  simp [show Try.prog.cellsOf 3 = 1 by kernel_rfl, show Try.prog.cellsOf 9 = 1 by kernel_rfl] at h0 h1 h2
  obtain ⟨s, e0, w0⟩ := Rd.string Try.underlying9 h0
  obtain ⟨m, e1, w1⟩ := Rd.int Try.underlying3 h1
  obtain ⟨n, e2, w2⟩ := Rd.int Try.underlying3 h2
  simp at e0 e1 e2
  subst e0 e1 e2
  exact ⟨⟨s, m, n⟩, rfl, w0, inI_of_wf w1, inI_of_wf w2⟩
set_option maxRecDepth 100000 in
theorem open_imgs {H : Type} {enc : TypeId × Value → H} {W : World} {v : Value} {b : Nat} {d : DataW H} {p : List MemPlace} (o : Value.okWide Try.prog W .any b 29 v) (h : DataW.Trod enc Try.prog W 0 (fun _ => true) true 29 v d p) :
    ∃ (a : Option Addr) (len cap : Nat) (L : List ImgV), v = .slice a len cap ∧ L.length = len ∧ (∀ x ∈ L, x.ok) ∧ Row W a len cap 3 (L.flatMap ImgV.cells) := by
  obtain ⟨a, len, cap, rfl⟩ := slice_of_ok Try.underlying29 o
  obtain ⟨L, h1, h2, h3⟩ := Rd.rows ImgV.cells 3 Try.underlying29 (by kernel_rfl) (by omega) ImgV.cells_len ImgV.ok (fun es hes => rd_img hes) (Rd.of h)
  exact ⟨a, len, cap, L, rfl, h1, h2, h3⟩
theorem flat_text (G : List ByteArray) : G.flatMap (fun s => [Value.string s]) = G.map Value.string := by
  induction G with
  | nil => rfl
  | cons s G ih => rw [List.flatMap_cons, ih]; rfl
theorem rd_text {w : World} {cs : List Value} (hl : cs.length = 1) (h : Rd Try.prog w 9 cs) : ∃ s : ByteArray, cs = [Value.string s] ∧ s.size ≤ maxLen := Rd.string Try.underlying9 h
set_option maxRecDepth 100000 in
theorem open_texts {H : Type} {enc : TypeId × Value → H} {W : World} {v : Value} {b : Nat} {d : DataW H} {p : List MemPlace} (o : Value.okWide Try.prog W .any b 34 v) (h : DataW.Trod enc Try.prog W 0 (fun _ => true) true 34 v d p) :
    ∃ (a : Option Addr) (len cap : Nat) (G : List ByteArray), v = .slice a len cap ∧ G.length = len ∧ (∀ s ∈ G, s.size ≤ maxLen) ∧ Row W a len cap 1 (G.map Value.string) := by
  obtain ⟨a, len, cap, rfl⟩ := slice_of_ok Try.underlying34 o
  obtain ⟨G, h1, h2, h3⟩ := Rd.rows (fun s : ByteArray => [Value.string s]) 1 Try.underlying34 (by kernel_rfl) (by omega) (fun _ => rfl) (fun s => s.size ≤ maxLen) (fun es hes => Rd.string Try.underlying9 hes) (Rd.of h)
  exact ⟨a, len, cap, G, rfl, h1, h2, by rw [flat_text] at h3; exact h3⟩
end Go.Proofs.Ytcnjcldfbidkmaa
