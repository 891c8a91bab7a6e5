
/- What is known of an argument that came in, by its type: a reading without its data. -/
import Derived.Test.YtekakalhknjdaaaDoorBase
import Derived.Deep.Slices
import Derived.ChangeArms
namespace Go.Proofs.YtekakalhknjdaaaDoor
open Go.RowKit Go.WideShapes Go.ChangeShapes
set_option linter.unusedVariables false

/-- Some reading of these cells, as a value of the type, goes through. -/
def Rd (P : Program) (w : World) (t : TypeId) (cs : List Value) : Prop :=
  ∃ (H : Type) (enc : TypeId × Value → H) (n : Nat) (x : DataW H × List MemPlace), DataW.trod enc P w 0 (fun _ => true) true n t cs = some x

section
variable {P : Program} {w : World} {t e : TypeId} {cs : List Value} {H : Type} {enc : TypeId × Value → H}

theorem Rd.of {v : Value} {d : DataW H} {p : List MemPlace} (h : DataW.Trod enc P w 0 (fun _ => true) true t v d p) : Rd P w t v.cells.toList := by
  obtain ⟨n, hn⟩ := h
  exact ⟨H, enc, n, _, hn⟩

theorem Rd.int {k : IntKind} (ht : P.underlying t = some (.int k)) (h : Rd P w t cs) : ∃ a, cs = [.int k a] ∧ (Lit.int k a).wf = true := by
  obtain ⟨H, enc, n, x, h⟩ := h
  obtain ⟨a, h1, _, h2⟩ := DataW.trod_int ht h
  exact ⟨a, h1, h2⟩

theorem Rd.bool (ht : P.underlying t = some .bool) (h : Rd P w t cs) : ∃ b, cs = [.bool b] := by
  obtain ⟨H, enc, n, x, h⟩ := h
  obtain ⟨a, h1, _⟩ := DataW.trod_bool ht h
  exact ⟨a, h1⟩

theorem Rd.string (ht : P.underlying t = some .string) (h : Rd P w t cs) : ∃ s : ByteArray, cs = [.string s] ∧ s.size ≤ maxLen := by
  obtain ⟨H, enc, n, x, h⟩ := h
  obtain ⟨a, h1, _, h2⟩ := DataW.trod_string ht h
  exact ⟨a, h1, h2⟩

theorem Rd.struct {fs : Array Field} (ht : P.underlying t = some (.struct fs)) (h : Rd P w t cs) :
    cs.length = P.cellsOf t ∧ ∀ (i : Nat) (f : Field), fs[i]? = some f → Rd P w f.type ((cs.drop f.offset).take (P.cellsOf f.type)) := by
  obtain ⟨H, enc, n, x, h⟩ := h
  obtain ⟨xs, m, _, _, hl, hx, hf⟩ := DataW.trod_struct ht h
  refine ⟨hl, fun i f hi => ?_⟩
  have hlt : i < fs.size := (Array.getElem?_eq_some_iff.1 hi).1
  have := hf i f hi
  rw [List.getElem?_eq_getElem (by omega)] at this
  exact ⟨H, enc, m, _, this⟩

theorem Rd.array {n : Nat} (ht : P.underlying t = some (.array n e)) (h : Rd P w t cs) :
    cs.length = P.cellsOf t ∧ ∀ i, i < n → Rd P w e ((cs.drop (i * P.cellsOf e)).take (P.cellsOf e)) := by
  obtain ⟨H, enc, k, x, h⟩ := h
  obtain ⟨xs, m, _, _, hl, hx, hf⟩ := DataW.trod_array ht h
  refine ⟨hl, fun i hi => ?_⟩
  have := hf i hi
  rw [List.getElem?_eq_getElem (by omega)] at this
  exact ⟨H, enc, m, _, this⟩

/-- A slice: nil, or a row whose elements, up to the capacity, read as values of the element's type. -/
theorem Rd.slice (ht : P.underlying t = some (.slice e)) (h : Rd P w t cs) :
    cs = [.slice none 0 0] ∨ ∃ (a : Addr) (len cap : Nat), cs = [.slice (some a) len cap] ∧ len ≤ cap ∧ cap ≤ maxLen ∧
      ∀ i, i < cap → ∃ es, es.length = P.cellsOf e ∧ (∀ j, j < P.cellsOf e → w.cell? ((a.add (i * P.cellsOf e)).add j) = es[j]?) ∧ Rd P w e es := by
  obtain ⟨H, enc, k, x, h⟩ := h
  rcases Go.Deep.open_slice ht h with ⟨h1, _⟩ | ⟨a, len, cap, m, n, D, Pl, h1, _, hl, hm, hmm, _, hi⟩
  · exact .inl h1
  · simp only [if_true] at hmm
    subst hmm
    refine .inr ⟨a, len, _, h1, hl, hm, fun i him => ?_⟩
    obtain ⟨es, hc, hr⟩ := hi i him
    obtain ⟨_, hlen, hat⟩ := World.cells?_some hc
    exact ⟨es, hlen, hat, H, enc, n, _, hr⟩

theorem agg_of_struct {fs : Array Field} {W : World} {v : Value} {b : Nat} (ht : P.underlying t = some (.struct fs)) (h : Value.okWide P W .any b t v) : ∃ cs, v = .agg cs := by
  obtain ⟨cs, h, _⟩ := okWide_struct ht h
  exact ⟨cs, h⟩
theorem agg_of_array {n : Nat} {W : World} {v : Value} {b : Nat} (ht : P.underlying t = some (.array n e)) (h : Value.okWide P W .any b t v) : ∃ cs, v = .agg cs := by
  simp only [Value.okWide, ht] at h
  obtain ⟨cs, h1, h2, _⟩ := h
  exact ⟨cs, h1⟩
end

/-- Lists of a known length, written out. -/
theorem list2 {l : List Value} (h : l.length = 2) : ∃ a b, l = [a, b] := by
  match l, h with | [a, b], _ => exact ⟨a, b, rfl⟩
theorem list3 {l : List Value} (h : l.length = 3) : ∃ a b c, l = [a, b, c] := by
  match l, h with | [a, b, c], _ => exact ⟨a, b, c, rfl⟩
theorem list4 {l : List Value} (h : l.length = 4) : ∃ a b c d, l = [a, b, c, d] := by
  match l, h with | [a, b, c, d], _ => exact ⟨a, b, c, d, rfl⟩
theorem list5 {l : List Value} (h : l.length = 5) : ∃ a b c d e, l = [a, b, c, d, e] := by
  match l, h with | [a, b, c, d, e], _ => exact ⟨a, b, c, d, e, rfl⟩
theorem list6 {l : List Value} (h : l.length = 6) : ∃ a b c d e f, l = [a, b, c, d, e, f] := by
  match l, h with | [a, b, c, d, e, f], _ => exact ⟨a, b, c, d, e, f, rfl⟩

theorem one_int {k : IntKind} {v : Value} {a : Int} (h : [v] = [Value.int k a]) : v = .int k a := by simpa using h
theorem one_bool {v : Value} {a : Bool} (h : [v] = [Value.bool a]) : v = .bool a := by simpa using h
theorem agg_cells (cs : Array Value) : (Value.agg cs).cells.toList = cs.toList := rfl

/-! ### Slices of elements of a fixed number of cells, read as lists. -/
theorem flat_length {α : Type} (f : α → List Value) (c : Nat) (hf : ∀ x, (f x).length = c) (L : List α) : (L.flatMap f).length = L.length * c := by
  induction L with
  | nil => simp
  | cons x L ih => rw [List.flatMap_cons, List.length_append, hf, ih, List.length_cons, Nat.add_mul]; omega
theorem flat_get {α : Type} (f : α → List Value) (c : Nat) (hf : ∀ x, (f x).length = c) (L : List α) (i j : Nat) (x : α) (hx : L[i]? = some x) (hj : j < c) : (L.flatMap f)[i * c + j]? = (f x)[j]? := by
  induction L generalizing i with
  | nil => simp at hx
  | cons y L ih =>
    rw [List.flatMap_cons]
    cases i with
    | zero =>
      simp at hx; subst hx
      rw [List.getElem?_append_left (by rw [hf]; omega)]; congr 1; omega
    | succ i =>
      simp at hx
      rw [List.getElem?_append_right (by rw [hf, Nat.add_mul]; omega), hf, show (i + 1) * c + j - c = i * c + j by rw [Nat.add_mul]; omega]
      exact ih i hx

theorem Rd.rows {P : Program} {w : World} {t e : TypeId} {α : Type} (f : α → List Value) (c : Nat) (ht : P.underlying t = some (.slice e)) (hc : P.cellsOf e = c) (hpos : 0 < c) (hf : ∀ x, (f x).length = c) (good : α → Prop)
    (he : ∀ es, Rd P w e es → ∃ x, es = f x ∧ good x) {a : Option Addr} {len cap : Nat} (h : Rd P w t [.slice a len cap]) :
    ∃ L : List α, L.length = len ∧ (∀ x ∈ L, good x) ∧ Row w a len cap c (L.flatMap f) := by
  rcases Rd.slice ht h with h0 | ⟨ad, len', cap', h1, hl, hm, hi⟩
  · simp at h0
    obtain ⟨rfl, rfl, rfl⟩ := h0
    exact ⟨[], rfl, (fun x hx => by cases hx), by simp, Nat.le_refl _, by unfold maxLen; omega, fun _ => ⟨rfl, rfl⟩, .inl rfl⟩
  · simp at h1
    obtain ⟨rfl, rfl, rfl⟩ := h1
    rw [hc] at hi
    have hch : ∀ i, i < len → ∃ x, good x ∧ ∀ j, j < c → w.cell? ((ad.add (i * c)).add j) = (f x)[j]? := fun i h => by
      obtain ⟨es, _, hat, hr⟩ := hi i (by omega)
      obtain ⟨x, rfl, hg⟩ := he es hr
      exact ⟨x, hg, hat⟩
    obtain ⟨L, hL, hg, hcell⟩ : ∃ L : List α, L.length = len ∧ (∀ x ∈ L, good x) ∧ ∀ i x, L[i]? = some x → ∀ j, j < c → w.cell? ((ad.add (i * c)).add j) = (f x)[j]? := by
      clear hl hi h
      induction len with
      | zero => exact ⟨[], rfl, (fun x hx => by cases hx), fun i x hx => by simp at hx⟩
      | succ n ih =>
        obtain ⟨L, hL, hg, hcl⟩ := ih (fun i hi => hch i (by omega))
        obtain ⟨x, hx, hxc⟩ := hch n (by omega)
        refine ⟨L ++ [x], by simp [hL], fun y hy => ?_, fun i y hy j hj => ?_⟩
        · rcases List.mem_append.1 hy with hy | hy
          · exact hg y hy
          · simp at hy; subst hy; exact hx
        · rcases Nat.lt_or_ge i n with q | q
          · rw [List.getElem?_append_left (by omega)] at hy; exact hcl i y hy j hj
          · rw [List.getElem?_append_right (by omega), hL] at hy
            have : i = n := by
              rcases Nat.eq_or_lt_of_le q with q | q
              · exact q.symm
              · rw [List.getElem?_eq_none (by simp; omega)] at hy; cases hy
            subst this
            simp at hy; subst hy; exact hxc j hj
    refine ⟨L, hL, hg, by rw [flat_length f c hf, hL], hl, hm, (fun h => by cases h), ?_⟩
    by_cases h0 : len = 0
    · left
      have : L = [] := List.eq_nil_of_length_eq_zero (by omega)
      subst this; rfl
    · right
      obtain ⟨b, off, spot⟩ := ad
      obtain ⟨x, hx⟩ : ∃ x, L[0]? = some x := ⟨L[0]'(by omega), List.getElem?_eq_getElem (by omega)⟩
      have hc0 := hcell 0 x hx 0 hpos
      have hv : (f x)[0]? = some ((f x)[0]'(by rw [hf]; exact hpos)) := List.getElem?_eq_getElem _
      rw [hv] at hc0
      have hspot : spot = none := by simpa [Addr.add] using World.cell?_spot hc0
      subst hspot
      refine ⟨b, off, rfl, fun k hk => ?_⟩
      rw [flat_length f c hf] at hk
      have hd : k / c < L.length := Nat.div_lt_of_lt_mul (by rw [Nat.mul_comm]; exact hk)
      have hr : k % c < c := Nat.mod_lt _ hpos
      have hx := List.getElem?_eq_getElem hd
      have e := Nat.div_add_mod k c
      rw [Nat.mul_comm] at e
      have := hcell (k / c) _ hx (k % c) hr
      rw [← flat_get f c hf L (k / c) (k % c) _ hx hr, e] at this
      rw [← this]
      have e2 : ((⟨b, off, none⟩ : Addr).add (k / c * c)).add (k % c) = ⟨b, off + k, none⟩ := by
        have g : ∀ (o n : Nat), (⟨b, o, none⟩ : Addr).add n = ⟨b, o + n, none⟩ := fun o n => by cases n <;> simp [Addr.add]
        rw [g, g, Nat.add_assoc, e]
      rw [e2]

theorem slice_of_ok {P : Program} {W : World} {t e : TypeId} {v : Value} {b : Nat} (ht : P.underlying t = some (.slice e)) (h : Value.okWide P W .any b t v) : ∃ a len cap, v = .slice a len cap := okWide_slice ht h

/-- The cells of one element, in the walk's own spelling. -/
theorem Row.elem {α : Type} {w : World} {a : Option Addr} {len cap c : Nat} {f : α → List Value} {L : List α} (h : Row w a len cap c (L.flatMap f)) (hf : ∀ x, (f x).length = c) (hpos : 0 < c) {i : Nat} {x : α} (hx : L[i]? = some x) :
    ∃ b off, a = some ⟨b, off, none⟩ ∧ b < w.heap.size ∧ ∀ j v, (f x)[j]? = some v → w.cell? ⟨b, off + i * c + j, none⟩ = some v := by
  have hr := h
  obtain ⟨h1, h2, h3, h4, h5⟩ := h
  have hi : i < L.length := (List.getElem?_eq_some_iff.1 hx).1
  have hlen := flat_length f c hf L
  have hlt : ∀ j, j < c → i * c + j < (L.flatMap f).length := fun j hj => by
    rw [hlen]
    have := Nat.mul_le_mul_right c (show i + 1 ≤ L.length by omega)
    rw [Nat.add_mul] at this; omega
  have hne : L.flatMap f ≠ [] := by
    intro e
    have := hlt 0 hpos
    rw [e] at this; simp at this
  rcases h5 with h5 | ⟨b, off, rfl, hc⟩
  · exact absurd h5 hne
  · refine ⟨b, off, rfl, hr.block _ rfl hne, fun j v hj => ?_⟩
    have hjc : j < c := by rw [← hf x]; exact (List.getElem?_eq_some_iff.1 hj).1
    rw [Nat.add_assoc, hc _ (hlt j hjc), flat_get f c hf L i j x hx hjc, hj]
/-! ### A slice of bools. -/
def bl (l : List Bool) (i : Nat) : Bool := l.getD i true
/-- A slice of bools that reads as 'l'. -/
def Bools (w : World) (a : Option Addr) (len cap : Nat) (l : List Bool) : Prop := Row w a len cap 1 (l.map Value.bool)
theorem Bools.later {w w' : World} {a : Option Addr} {len cap : Nat} {l : List Bool} (h : Bools w a len cap l) (hb : Below w.heap.size w w') : Bools w' a len cap l := Row.later h hb
theorem Bools.bounds {w : World} {a : Option Addr} {len cap : Nat} {l : List Bool} (h : Bools w a len cap l) :
    l.length = len ∧ len ≤ cap ∧ cap ≤ 9223372036854775807 := by
  obtain ⟨h1, h2, h3, _⟩ := h
  unfold maxLen at h3
  simp at h1
  exact ⟨h1, h2, h3⟩
theorem Bools.opened {w : World} {a : Option Addr} {len cap : Nat} {l : List Bool} (h : Bools w a len cap l) (h0 : 0 < len) :
    ∃ b off, a = some ⟨b, off, none⟩ ∧ b < w.heap.size ∧ ∀ i, i < len → w.cell? ⟨b, off + i, none⟩ = some (.bool (bl l i)) := by
  have hr' := h
  obtain ⟨h1, h2, h3, h4, h5⟩ := h
  simp at h1
  have hne : l.map Value.bool ≠ [] := by intro e; simp at e; rw [e] at h1; simp at h1; omega
  rcases h5 with h5 | ⟨b, off, rfl, hc⟩
  · exact absurd h5 hne
  · refine ⟨b, off, rfl, Row.block hr' _ rfl hne, fun i hi => ?_⟩
    rw [hc i (by simp; omega)]
    simp [bl, show i < l.length by omega]
theorem map_flat {α : Type} (f : α → Value) (L : List α) : L.map f = L.flatMap (fun b => [f b]) := by
  induction L with
  | nil => rfl
  | cons x L ih => simp_all
theorem bools_of_trod {H : Type} {enc : TypeId × Value → H} {P : Program} {W : World} {t u : TypeId} {a : Option Addr} {len cap : Nat} {d : DataW H} {p : List MemPlace}
    (ht : P.underlying t = some (.slice u)) (hu : P.underlying u = some .bool) (hc : P.cellsOf u = 1)
    (h : DataW.Trod enc P W 0 (fun _ => true) true t (.slice a len cap) d p) : ∃ l, Bools W a len cap l := by
  obtain ⟨L, h1, _, h2⟩ := Rd.rows (fun b : Bool => [Value.bool b]) 1 ht hc (by omega) (fun _ => rfl) (fun _ => True) (fun es hes => by
    obtain ⟨b, rfl⟩ := Rd.bool hu hes
    exact ⟨b, rfl, trivial⟩) (Rd.of h)
  refine ⟨L, ?_⟩
  unfold Bools
  rwa [map_flat]
theorem bools_nil (w : World) : Bools w none 0 0 [] := ⟨rfl, Nat.le_refl _, by unfold maxLen; omega, fun _ => ⟨rfl, rfl⟩, .inl rfl⟩
end Go.Proofs.YtekakalhknjdaaaDoor
