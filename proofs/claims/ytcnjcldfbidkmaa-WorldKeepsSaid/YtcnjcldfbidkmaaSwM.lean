
/- Stage 22: sweep.Collect, bilgeref22.Collect: contracts. Stage 22: containers that came in; bilgeref22.Fit, Lost; sweep.ids: contracts. Stage 22: bilgeref22.next: contract. Stage 22: the order of dead containers: plain lists. Stage 22: sweep.strays: a map of the call's own: contract. Stage 22: sweep.up, down; slices.IndexFunc, DeleteFunc at containers: contracts. Stage 22: the order of containers, sorting; sweep.Lost, Dead, Extra: contracts. -/
import Derived.Test.YtcnjcldfbidkmaaImRfM
import Derived.WalkMore
import Derived.Maps.OwnOps
import Derived.Maps.Views
namespace Go.Proofs.Ytcnjcldfbidkmaa
open Go.RowKit Go.Sort
set_option linter.unusedVariables false
set_option linter.unusedSimpArgs false
theorem info_strI : (Try.prog.info? 9).map (fun i => (i.zero, i.size, i.bytes)) = some (some (.string ⟨#[]⟩), 1, 16) := by kernel_rfl
theorem str_one (s : ByteArray) : ∀ u ∈ [Value.string s], u.oneCell' = true := by intro u hu; simp at hu; subst hu; rfl
theorem bool_cell {w : World} {a : Option Addr} {n cap : Nat} {G : List Bool} (h : Row w a n cap 1 (G.map Value.bool)) {k : Nat} {s : Bool} (hs : G[k]? = some s) : ∃ b off, a = some ⟨b, off, none⟩ ∧ w.cell? ⟨b, off + k, none⟩ = some (.bool s) := by
  obtain ⟨_, _, _, _, h5⟩ := h
  have hk : (G.map Value.bool)[k]? = some (.bool s) := by rw [List.getElem?_map, hs]; rfl
  rcases h5 with h5 | ⟨b, off, e, hc⟩
  · rw [h5] at hk; cases hk
  · refine ⟨b, off, e, ?_⟩
    rw [hc k (by rcases Nat.lt_or_ge k (G.map Value.bool).length with q | q; exact q; rw [List.getElem?_eq_none q] at hk; cases hk), hk]
structure CollV where
  went : List ByteArray
  free : Int
  asked : Nat
def goesB (V : List Bool) (i : Nat) : Bool := (V[i]?).getD true
/-- What is still to come: the images l, from number i on; g went, f is free. -/
def collR (need : Int) (V : List Bool) : List ImgV → Nat → List ByteArray → Int → CollV
  | [], i, g, f => ⟨g, f, i⟩
  | x :: l, i, g, f => if need ≤ f then ⟨g, f, i⟩ else if goesB V i then collR need V l (i + 1) (g ++ [x.name]) (satAdd f x.size) else collR need V l (i + 1) g f
def collF (need : Int) (V : List Bool) (O : List ImgV) : CollV := collR need V O 0 [] 0
theorem coll_stop {need f : Int} {V : List Bool} {x : ImgV} {l : List ImgV} {i : Nat} {g : List ByteArray} (h : need ≤ f) : collR need V (x :: l) i g f = ⟨g, f, i⟩ := by unfold collR; rw [if_pos h]
theorem coll_goes {need f : Int} {V : List Bool} {x : ImgV} {l : List ImgV} {i : Nat} {g : List ByteArray} (h : ¬ need ≤ f) (hg : goesB V i = true) : collR need V (x :: l) i g f = collR need V l (i + 1) (g ++ [x.name]) (satAdd f x.size) := by
  conv => lhs; unfold collR
  rw [if_neg h, if_pos hg]
theorem coll_stays {need f : Int} {V : List Bool} {x : ImgV} {l : List ImgV} {i : Nat} {g : List ByteArray} (h : ¬ need ≤ f) (hg : goesB V i = false) : collR need V (x :: l) i g f = collR need V l (i + 1) g f := by
  conv => lhs; unfold collR
  rw [if_neg h, if_neg (by rw [hg]; simp)]
theorem goes_end {V : List Bool} {i : Nat} (h : V.length ≤ i) : goesB V i = true := by unfold goesB; rw [List.getElem?_eq_none h]; rfl
theorem goes_at {V : List Bool} {i : Nat} {b : Bool} (h : V[i]? = some b) : goesB V i = b := by unfold goesB; rw [h]; rfl
theorem order_ok {L : List ImgV} (h : ∀ x ∈ L, x.ok) (U : List ByteArray) : ∀ x ∈ orderI L U, x.ok := fun x hx => h x (List.mem_filter.1 (sortBy_mem.1 hx)).1
theorem collR_len {need : Int} {V : List Bool} : ∀ (l : List ImgV) (i : Nat) (g : List ByteArray) (f : Int), (collR need V l i g f).asked ≤ i + l.length ∧ (collR need V l i g f).went.length + i ≤ g.length + (collR need V l i g f).asked := by
  intro l
  induction l with
  | nil => intro i g f; exact ⟨by simp [collR], by simp [collR]⟩
  | cons x l ih =>
    intro i g f
    unfold collR
    split
    · exact ⟨by simp, by simp⟩
    · split
      · have h := ih (i + 1) (g ++ [x.name]) (satAdd f x.size)
        rw [List.length_append] at h
        simp only [List.length_cons, List.length_nil] at h ⊢
        omega
      · have h := ih (i + 1) g f
        simp only [List.length_cons]
        omega
end Go.Proofs.Ytcnjcldfbidkmaa
namespace Go.Proofs.Ytcnjcldfbidkmaa
open Go.RowKit Go.Sort
set_option linter.unusedVariables false
set_option linter.unusedSimpArgs false
structure ContV where
  id : ByteArray
  state : Int
  tries : Int
  last : Int
def ContV.cells (x : ContV) : List Value := [.string x.id, .int .i64 x.state, .int .i64 x.tries, .int .i64 x.last]
theorem ContV.cells_len (x : ContV) : x.cells.length = 4 := rfl
def ContV.ok (x : ContV) : Prop := x.id.size ≤ maxLen ∧ InI x.state ∧ InI x.tries ∧ InI x.last
instance : Inhabited ContV := ⟨⟨⟨#[]⟩, 0, 0, 0⟩⟩
theorem list4v {l : List Value} (h : l.length = 4) : ∃ a b c d, l = [a, b, c, d] := by
  match l, h with
  | [a, b, c, d], _ => exact ⟨_, _, _, _, rfl⟩
theorem rd_box2 {w : World} {a b : Value} (h : Rd Try.prog w 38 [a, b]) : ∃ s t, a = .int .i64 s ∧ b = .int .i64 t ∧ InI s ∧ InI t := by
  obtain ⟨hl, hf⟩ := Rd.struct Try.underlying38 h
  have h0 := hf 0 _ rfl
  have h1 := hf 1 _ rfl
  simp [show Try.prog.cellsOf 3 = 1 by kernel_rfl] at h0 h1
  obtain ⟨s, e0, w0⟩ := Rd.int Try.underlying3 h0
  obtain ⟨t, e1, w1⟩ := Rd.int Try.underlying3 h1
  simp at e0 e1
  exact ⟨s, t, e0, e1, inI_of_wf w0, inI_of_wf w1⟩
theorem rd_cont {w : World} {cs : List Value} (h : Rd Try.prog w 44 cs) : ∃ x : ContV, cs = x.cells ∧ x.ok := by
  obtain ⟨hl, hf⟩ := Rd.struct Try.underlying44 h
  rw [show Try.prog.cellsOf 44 = 4 by kernel_rfl] at hl
  obtain ⟨a, b, c, d, rfl⟩ := list4v hl
  have h0 := hf 0 _ rfl
  have h1 := hf 1 _ rfl
  have h2 := hf 2 _ rfl
  simp [show Try.prog.cellsOf 3 = 1 by kernel_rfl, show Try.prog.cellsOf 9 = 1 by kernel_rfl, show Try.prog.cellsOf 38 = 2 by kernel_rfl] at h0 h1 h2
  obtain ⟨s, e0, w0⟩ := Rd.string Try.underlying9 h0
  obtain ⟨m, n, rfl, rfl, i1, i2⟩ := rd_box2 h1
  obtain ⟨o, e2, w2⟩ := Rd.int Try.underlying3 h2
  simp at e0 e2
  subst e0 e2
  exact ⟨⟨s, m, n, o⟩, rfl, w0, i1, i2, inI_of_wf w2⟩
set_option maxRecDepth 100000 in
theorem open_conts {H : Type} {enc : TypeId × Value → H} {W : World} {v : Value} {b : Nat} {d : DataW H} {p : List MemPlace} (o : Value.okWide Try.prog W .any b 28 v) (h : DataW.Trod enc Try.prog W 0 (fun _ => true) true 28 v d p) :
    ∃ (a : Option Addr) (len cap : Nat) (L : List ContV), v = .slice a len cap ∧ L.length = len ∧ (∀ x ∈ L, x.ok) ∧ Row W a len cap 4 (L.flatMap ContV.cells) := by
  obtain ⟨a, len, cap, rfl⟩ := slice_of_ok Try.underlying28 o
  obtain ⟨L, h1, h2, h3⟩ := Rd.rows ContV.cells 4 Try.underlying28 (by kernel_rfl) (by omega) ContV.cells_len ContV.ok (fun es hes => rd_cont hes) (Rd.of h)
  exact ⟨a, len, cap, L, rfl, h1, h2, h3⟩
def stepC (L : List ContV) (k : Nat) : Bool := match L[k]? with
  | none => true
  | some x => decide (x.id.size ≤ 60) && (match k with | 0 => true | j + 1 => match L[j]? with | none => true | some y => Op.bytesLess y.id.toList x.id.toList)
def chkC (L : List ContV) : Nat → Bool
  | 0 => true
  | k + 1 => chkC L k && stepC L k
def fitC (L : List ContV) : Bool := decide (L.length ≤ 60) && chkC L L.length
theorem chkC_no {L : List ContV} {k n : Nat} (hk : k < n) (h : stepC L k = false) : chkC L n = false := by
  induction n with
  | zero => omega
  | succ n ih =>
    unfold chkC
    by_cases e : k = n
    · subst e; rw [h, Bool.and_false]
    · rw [ih (by omega), Bool.false_and]
theorem chkC_at {L : List ContV} : ∀ {n : Nat}, chkC L n = true → ∀ k, k < n → stepC L k = true := by
  intro n
  induction n with
  | zero => intro h k hk; omega
  | succ n ih =>
    intro h k hk
    unfold chkC at h
    rw [Bool.and_eq_true] at h
    by_cases e : k = n
    · subst e; exact h.2
    · exact ih h.1 k (by omega)
theorem stepC_0 {L : List ContV} {x : ContV} (h : L[0]? = some x) : stepC L 0 = decide (x.id.size ≤ 60) := by unfold stepC; rw [h]; simp
theorem stepC_s {L : List ContV} {k : Nat} {x y : ContV} (h : L[k + 1]? = some x) (hy : L[k]? = some y) : stepC L (k + 1) = (decide (x.id.size ≤ 60) && Op.bytesLess y.id.toList x.id.toList) := by unfold stepC; rw [h]; simp [hy]
theorem stepC_bad {L : List ContV} {k : Nat} {x : ContV} (h : L[k]? = some x) (hb : decide (x.id.size ≤ 60) = false) : stepC L k = false := by unfold stepC; rw [h]; simp only [hb, Bool.false_and]
def RisesC (L : List ContV) : Prop := L.Pairwise (fun a b => a.id.toList < b.id.toList)
theorem fit_len {L : List ContV} (h : fitC L = true) : L.length ≤ 60 := by unfold fitC at h; rw [Bool.and_eq_true] at h; exact of_decide_eq_true h.1
theorem fit_rises {L : List ContV} (h : fitC L = true) : RisesC L := by
  unfold fitC at h
  rw [Bool.and_eq_true] at h
  have h := h.2
  have key : ∀ i j (hi : i < L.length) (hj : j < L.length), i < j → L[i].id.toList < L[j].id.toList := by
    intro i j hi hj hij
    induction j with
    | zero => omega
    | succ j ih =>
      have h2 := chkC_at h (j + 1) hj
      rw [stepC_s (List.getElem?_eq_getElem hj) (List.getElem?_eq_getElem (show j < L.length by omega)), Bool.and_eq_true, bytesLess_iff] at h2
      have h3 := of_decide_eq_true h2.2
      by_cases e : i = j
      · subst e; exact h3
      · exact List.lt_trans (ih (by omega) (by omega)) h3
  exact List.pairwise_iff_getElem.2 (fun i j hi hj hij => key i j hi hj hij)
def lostB (U : List ByteArray) (x : ContV) : Bool := x.state == 3 && !hasU U x.id
def lostC (L : List ContV) (U : List ByteArray) : List ByteArray := (L.filter (lostB U)).map ContV.id
theorem lost_next {L : List ContV} {U : List ByteArray} {k : Nat} {x : ContV} (h : L[k]? = some x) (hf : lostB U x = true) : lostC (L.take (k + 1)) U = lostC (L.take k) U ++ [x.id] := by
  unfold lostC; rw [filtG_next h hf, List.map_append]; rfl
theorem lost_same {L : List ContV} {U : List ByteArray} {k : Nat} {x : ContV} (h : L[k]? = some x) (hf : lostB U x = false) : lostC (L.take (k + 1)) U = lostC (L.take k) U := by
  unfold lostC; rw [filtG_same h hf]
theorem lost_len (L : List ContV) (U : List ByteArray) (k : Nat) : (lostC (L.take k) U).length ≤ L.length := by
  unfold lostC
  rw [List.length_map]
  have h1 := List.length_filter_le (lostB U) (L.take k)
  rw [List.length_take] at h1
  omega
end Go.Proofs.Ytcnjcldfbidkmaa
namespace Go.Proofs.Ytcnjcldfbidkmaa
open Go.RowKit Go.Sort
set_option linter.unusedVariables false
set_option linter.unusedSimpArgs false
def candB (U T : List ByteArray) (x : ContV) : Bool := !(x.state == 3) && (!hasU U x.id && !hasU T x.id)
def lessC (x y : ContV) : Bool := decide (x.last < y.last) || (x.last == y.last && Op.bytesLess x.id.toList y.id.toList)
/-- Of the first k, which goes first. -/
def nxt (L : List ContV) (U T : List ByteArray) : Nat → Option Nat
  | 0 => none
  | k + 1 => match L[k]? with
    | none => nxt L U T k
    | some x => if candB U T x then (match nxt L U T k with
        | none => some k
        | some b => match L[b]? with
          | none => some b
          | some y => if lessC x y then some k else some b) else nxt L U T k
def idxO : Option Nat → Int
  | none => -1
  | some b => (b : Int)
theorem nxt_not {L : List ContV} {U T : List ByteArray} {k : Nat} {x : ContV} (h : L[k]? = some x) (hc : candB U T x = false) : nxt L U T (k + 1) = nxt L U T k := by
  conv => lhs; unfold nxt
  simp only [h, hc, Bool.false_eq_true, if_false]
theorem nxt_first {L : List ContV} {U T : List ByteArray} {k : Nat} {x : ContV} (h : L[k]? = some x) (hc : candB U T x = true) (hn : nxt L U T k = none) : nxt L U T (k + 1) = some k := by
  conv => lhs; unfold nxt
  simp only [h, hc, hn, if_true]
theorem nxt_less {L : List ContV} {U T : List ByteArray} {k b : Nat} {x y : ContV} (h : L[k]? = some x) (hc : candB U T x = true) (hn : nxt L U T k = some b) (hy : L[b]? = some y) : nxt L U T (k + 1) = if lessC x y then some k else some b := by
  conv => lhs; unfold nxt
  simp only [h, hc, hn, hy, if_true]
theorem nxt_lt {L : List ContV} {U T : List ByteArray} : ∀ {k b : Nat}, k ≤ L.length → nxt L U T k = some b → b < k ∧ ∃ y, L[b]? = some y ∧ candB U T y = true := by
  intro k
  induction k with
  | zero => intro b _ h; cases h
  | succ k ih =>
    intro b hk h
    have hx := List.getElem?_eq_getElem (show k < L.length by omega)
    cases hc : candB U T L[k] with
    | false => rw [nxt_not hx hc] at h; obtain ⟨h1, h2⟩ := ih (by omega) h; exact ⟨by omega, h2⟩
    | true =>
      cases hn : nxt L U T k with
      | none => rw [nxt_first hx hc hn] at h; cases h; exact ⟨by omega, _, hx, hc⟩
      | some c =>
        obtain ⟨h1, y, hy, hcy⟩ := ih (by omega) hn
        rw [nxt_less hx hc hn hy] at h
        split at h
        · cases h; exact ⟨by omega, _, hx, hc⟩
        · cases h; exact ⟨by omega, y, hy, hcy⟩
end Go.Proofs.Ytcnjcldfbidkmaa
namespace Go.Proofs.Ytcnjcldfbidkmaa
open Go.RowKit Go.Sort
set_option linter.unusedVariables false
set_option linter.unusedSimpArgs false
theorem idxO_none : idxO none = -1 := rfl
theorem idxO_some (b : Nat) : idxO (some b) = (b : Int) := rfl
theorem lenV_slice (a : Option Addr) (n c : Nat) : lenV (.slice a n c) = n := rfl
def strayC (L : List ContV) (U : List ByteArray) : List ContV := L.filter fun x => !hasU U x.id
def deadB (U : List ByteArray) (x : ContV) : Bool := !(x.state == 3) && !hasU U x.id
def cfC (x y : ContV) : Int := orL [cI x.last y.last, cS x.id y.id]
theorem orZ_r9 (a : Int) : orZ a 0 = a := by unfold orZ; split <;> simp_all
theorem cfC_eq : cfC = fun x y => orZ (cI x.last y.last) (cS x.id y.id) := by
  funext x y
  show orZ _ (orZ _ 0) = _
  rw [orZ_r9]
theorem ord_cfC : Ord3 cfC := cfC_eq ▸ (ordI ContV.last).or (ordS ContV.id)
theorem swo_cfC : Go.Sort.SWO (ltOf cfC) := ord_cfC.swo
theorem cfC_zero {x y : ContV} (h : cfC x y = 0) : x.id.toList = y.id.toList := by
  rw [cfC_eq] at h
  simp only at h
  by_cases h1 : cI x.last y.last = 0
  · rw [h1, orZ_zero] at h; exact cS_zero.1 h
  · rw [orZ_ne _ h1] at h; exact absurd h h1
theorem risesC_same {L : List ContV} (h : RisesC L) {x y : ContV} (hx : x ∈ L) (hy : y ∈ L) (e : x.id.toList = y.id.toList) : x = y := by
  obtain ⟨i, hi⟩ := List.getElem?_of_mem hx
  obtain ⟨j, hj⟩ := List.getElem?_of_mem hy
  obtain ⟨h1, e1⟩ := List.getElem?_eq_some_iff.1 hi
  obtain ⟨h2, e2⟩ := List.getElem?_eq_some_iff.1 hj
  rcases Nat.lt_trichotomy i j with q | q | q
  · have h3 := List.pairwise_iff_getElem.1 h i j h1 h2 q
    rw [e1, e2, e] at h3; exact absurd h3 (List.lt_irrefl _)
  · subst q; rw [← e1, ← e2]
  · have h3 := List.pairwise_iff_getElem.1 h j i h2 h1 q
    rw [e1, e2, e] at h3; exact absurd h3 (List.lt_irrefl _)
theorem tied_cfC {L : List ContV} (h : RisesC L) : Tied (ltOf cfC) L := fun x hx y hy h1 h2 => risesC_same h hx hy (cfC_zero (ord_cfC.tie h1 h2))
theorem filt_risesC {L : List ContV} (h : RisesC L) (f : ContV → Bool) : RisesC (L.filter f) := List.Pairwise.sublist List.filter_sublist h
theorem lessC_eq (x y : ContV) : lessC x y = ltOf cfC x y := by
  have e : ltOf cfC x y = decide (orZ (cI x.last y.last) (cS x.id y.id) < 0) := by rw [cfC_eq]; rfl
  rw [e]
  unfold lessC
  by_cases h1 : x.last = y.last
  · rw [cI_zero.2 h1, orZ_zero, decide_eq_false (show ¬ x.last < y.last by omega), Bool.false_or, show (x.last == y.last) = true by rw [h1]; simp, Bool.true_and, bytesLess_iff]
    exact decide_eq_decide.2 cS_neg.symm
  · rw [orZ_ne _ (fun q => h1 (cI_zero.1 q)), show (x.last == y.last) = false by simpa using h1, Bool.false_and, Bool.or_false]
    exact decide_eq_decide.2 cI_neg.symm
def deadL (L : List ContV) (U : List ByteArray) : List ContV := sortBy (ltOf cfC) (L.filter (deadB U))
def deadC (L : List ContV) (U : List ByteArray) : List ByteArray := (deadL L U).map ContV.id
def extraT (D : List ByteArray) (keep : Int) : List ByteArray := D.take (D.length - keep.toNat)
theorem nxt_all {L : List ContV} {U T : List ByteArray} : ∀ {k : Nat}, k ≤ L.length → (nxt L U T k = none → (L.take k).filter (candB U T) = []) ∧ (∀ b, nxt L U T k = some b → ∀ y, L[b]? = some y → ∀ z ∈ (L.take k).filter (candB U T), ltOf cfC z y = false) := by
  intro k
  induction k with
  | zero => intro _; exact ⟨fun _ => by simp, fun b h => by cases h⟩
  | succ k ih =>
    intro hk
    obtain ⟨i1, i2⟩ := ih (by omega)
    obtain ⟨x, hx⟩ : ∃ x, L[k]? = some x := ⟨L[k], List.getElem?_eq_getElem (show k < L.length by omega)⟩
    cases hc : candB U T x with
    | false => rw [nxt_not hx hc, filtG_same hx hc]; exact ⟨i1, i2⟩
    | true =>
      rw [filtG_next hx hc]
      cases hn : nxt L U T k with
      | none =>
        rw [nxt_first hx hc hn, i1 hn]
        refine ⟨fun q => (by cases q), fun b hb y hy z hz => ?_⟩
        cases hb
        obtain rfl := Option.some.inj (hx.symm.trans hy)
        simp only [List.nil_append, List.mem_singleton] at hz
        subst hz
        exact swo_cfC.irrefl _
      | some c =>
        obtain ⟨_, yc, hyc, _⟩ := nxt_lt (show k ≤ L.length by omega) hn
        have h2 := i2 c hn yc hyc
        rw [nxt_less hx hc hn hyc]
        cases hl : lessC x yc with
        | true =>
          rw [if_pos rfl]
          refine ⟨fun q => (by cases q), fun b hb y hy z hz => ?_⟩
          cases hb
          obtain rfl := Option.some.inj (hx.symm.trans hy)
          rw [lessC_eq] at hl
          rcases List.mem_append.1 hz with hz | hz
          · cases h3 : ltOf cfC z x with
            | false => rfl
            | true => have h4 := swo_cfC.trans _ _ _ h3 hl; rw [h2 z hz] at h4; cases h4
          · simp only [List.mem_singleton] at hz
            subst hz
            exact swo_cfC.irrefl _
        | false =>
          rw [if_neg (by simp)]
          refine ⟨fun q => (by cases q), fun b hb y hy z hz => ?_⟩
          cases hb
          obtain rfl := Option.some.inj (hyc.symm.trans hy)
          rcases List.mem_append.1 hz with hz | hz
          · exact h2 z hz
          · simp only [List.mem_singleton] at hz
            subst hz
            rw [← lessC_eq]; exact hl
def restC (L : List ContV) (U T : List ByteArray) : List ContV := L.filter (candB U T)
theorem rest_none {L : List ContV} {U T : List ByteArray} (hn : nxt L U T L.length = none) : restC L U T = [] := by
  have h := (nxt_all (U := U) (T := T) (Nat.le_refl L.length)).1 hn
  rwa [List.take_length] at h
theorem rest_start (L : List ContV) (U : List ByteArray) : restC L U [] = L.filter (deadB U) := by
  unfold restC
  congr 1
  funext z
  unfold candB deadB
  rw [show hasU [] z.id = false from rfl, Bool.not_false, Bool.and_true]
theorem hasU_snoc (T : List ByteArray) (t s : ByteArray) : hasU (T ++ [t]) s = (hasU T s || (t.toList == s.toList)) := by
  unfold hasU; rw [List.any_append]; simp
theorem rest_snoc (L : List ContV) (U T : List ByteArray) (t : ByteArray) : restC L U (T ++ [t]) = (restC L U T).filter (fun z => !(t.toList == z.id.toList)) := by
  unfold restC
  rw [List.filter_filter]
  congr 1
  funext z
  unfold candB
  rw [hasU_snoc]
  cases (z.state == 3) <;> cases hasU U z.id <;> cases hasU T z.id <;> cases (t.toList == z.id.toList) <;> rfl
theorem perm_drop {y : ContV} : ∀ {N : List ContV}, RisesC N → y ∈ N → (y :: N.filter (fun z => !(y.id.toList == z.id.toList))).Perm N
  | [], _, h => by cases h
  | a :: N, hr, h => by
    obtain ⟨h1, h2⟩ := List.pairwise_cons.1 hr
    rcases List.mem_cons.1 h with rfl | h
    · have e : N.filter (fun z => !(y.id.toList == z.id.toList)) = N := List.filter_eq_self.2 (fun z hz => by
        have h3 := h1 z hz
        simp only [Bool.not_eq_true', beq_eq_false_iff_ne]
        intro e; rw [e] at h3; exact List.lt_irrefl _ h3)
      rw [List.filter_cons_of_neg (by simp)]
      exact List.Perm.of_eq (by rw [e])
    · have h3 := h1 y h
      rw [List.filter_cons_of_pos (by
        simp only [Bool.not_eq_true', beq_eq_false_iff_ne]
        intro e; rw [e] at h3; exact List.lt_irrefl _ h3)]
      exact (List.Perm.swap a y _).trans ((perm_drop h2 h).cons a)
theorem rest_perm {L : List ContV} {U T : List ByteArray} {y : ContV} (hr : RisesC L) (hy : y ∈ L) (hc : candB U T y = true) : (y :: restC L U (T ++ [y.id])).Perm (restC L U T) := by
  rw [rest_snoc]
  exact perm_drop (filt_risesC hr (candB U T)) (List.mem_filter.2 ⟨hy, hc⟩)
theorem rest_len {L : List ContV} {U T : List ByteArray} {y : ContV} (hr : RisesC L) (hy : y ∈ L) (hc : candB U T y = true) : (restC L U (T ++ [y.id])).length + 1 = (restC L U T).length := by
  have := (rest_perm hr hy hc).length_eq
  simpa using this
theorem rest_step {L : List ContV} {U T : List ByteArray} {b : Nat} {y : ContV} (hr : RisesC L) (hn : nxt L U T L.length = some b) (hy : L[b]? = some y) (hc : candB U T y = true) :
    sortBy (ltOf cfC) (restC L U T) = y :: sortBy (ltOf cfC) (restC L U (T ++ [y.id])) := by
  have hm := (nxt_all (U := U) (T := T) (Nat.le_refl L.length)).2 b hn y hy
  rw [List.take_length] at hm
  have hp := rest_perm hr (List.mem_of_getElem? hy) hc
  refine (sortBy_unique swo_cfC (tied_cfC (filt_risesC hr _)) (((sortBy_perm (ltOf cfC) _).cons y).trans hp) ?_).symm
  refine List.pairwise_cons.2 ⟨fun z hz => ?_, (sortBy_pw swo_cfC _).imp (fun h => by simpa using h)⟩
  exact hm z (hp.mem_iff.1 (List.mem_cons_of_mem _ (sortBy_mem.1 hz)))
theorem dead_le (L : List ContV) (U : List ByteArray) : (deadC L U).length ≤ L.length := by
  unfold deadC deadL; rw [List.length_map, sortBy_len]; exact List.length_filter_le _ _
theorem cand_of {L : List ContV} {U T : List ByteArray} {b : Nat} {y : ContV} (hn : nxt L U T L.length = some b) (hy : L[b]? = some y) : b < L.length ∧ candB U T y = true := by
  obtain ⟨h1, y2, h2, h3⟩ := nxt_lt (Nat.le_refl L.length) hn
  obtain rfl := Option.some.inj (hy.symm.trans h2)
  exact ⟨h1, h3⟩
end Go.Proofs.Ytcnjcldfbidkmaa
namespace Go.Proofs.Ytcnjcldfbidkmaa
open Go.RowKit Go.Sort Go.WideMaps Go.Maps
set_option linter.unusedVariables false
set_option linter.unusedSimpArgs false
theorem strs_keyed : Keyed Try.prog 9 := string_keyed Try.underlying9
theorem zero_intM (w : World) : (zeroValue 3).run Try.prog w = .ok (.int .i64 0) w := by kernel_rfl
theorem info_contI : (Try.prog.info? 44).map (fun i => (i.zero, i.size, i.bytes)) = some (some (.agg #[.string ⟨#[]⟩, .int .i64 0, .int .i64 0, .int .i64 0]), 4, 40) := by kernel_rfl
theorem cont_one (x : ContV) : ∀ v ∈ x.cells, v.oneCell' = true := by
  intro v hv; simp only [ContV.cells, List.mem_cons, List.not_mem_nil, or_false] at hv; rcases hv with rfl | rfl | rfl | rfl <;> rfl
def keyL (s : ByteArray) : Lit := .string s.data.toList
def cntT (U : List ByteArray) (s : ByteArray) : Nat := (U.filter fun t => t.toList == s.toList).length
def Counts (D : DataW Unit) (U : List ByteArray) : Prop := IsMap D ∧ ∀ s : ByteArray, D.atKey (keyL s) (.lit (.int .i64 0)) = .lit (.int .i64 (cntT U s : Int))
theorem counts_start : Counts (.map []) [] := ⟨⟨[], rfl⟩, fun s => rfl⟩
theorem cnt_le (U : List ByteArray) (k : Nat) (s : ByteArray) : cntT (U.take k) s ≤ k := by
  unfold cntT
  have h1 := List.length_filter_le (fun t : ByteArray => t.toList == s.toList) (U.take k)
  rw [List.length_take] at h1
  omega
theorem counts_step {D : DataW Unit} {U : List ByteArray} {k : Nat} {t : ByteArray} {c : Int} (h : Counts D (U.take k)) (ht : U[k]? = some t) (hc : D.atKey (keyL t) (.lit (.int .i64 0)) = .lit (.int .i64 c)) (hb : k ≤ 100000) :
    Counts (D.put (keyL t) (.lit (.int .i64 (wrap64 (c + 1))))) (U.take (k + 1)) := by
  obtain ⟨hm, h⟩ := h
  have e := (h t).symm.trans hc
  simp only [DataW.lit.injEq, Lit.int.injEq, true_and] at e
  have hle := cnt_le U k t
  have hw : wrap64 (c + 1) = c + 1 := by unfold wrap64; omega
  refine ⟨hm.put _ _, fun s => ?_⟩
  by_cases q : t.toList = s.toList
  · have ek : keyL s = keyL t := by unfold keyL; rw [← ByteArray.toList_eq, ← ByteArray.toList_eq, q]
    rw [ek, atKey_put_same hm (show WideAt.IsKeyLit (keyL t) from trivial), hw, ← e, show cntT (U.take (k + 1)) s = cntT (U.take k) t + 1 by unfold cntT; rw [← q, filtG_next ht (by simp), List.length_append]; rfl]
    push_cast; rfl
  · rw [atKey_put_other (fun e2 => q (by unfold keyL at e2; simp only [Lit.string.injEq] at e2; rw [ByteArray.toList_eq, ByteArray.toList_eq, e2])), h s, show cntT (U.take (k + 1)) s = cntT (U.take k) s by unfold cntT; rw [filtG_same ht (by simpa using q)]]
theorem cnt_zero (U : List ByteArray) (s : ByteArray) : ((cntT U s : Int) == 0) = !hasU U s := by
  cases h : hasU U s with
  | false =>
    have e : cntT U s = 0 := by
      unfold cntT
      rw [List.filter_eq_nil_iff.2 (fun t ht => by have := List.any_eq_false.1 (show (U.any fun t => t.toList == s.toList) = false from h) t ht; simpa using this)]
      rfl
    rw [e]; rfl
  | true =>
    obtain ⟨t, ht, he⟩ := List.any_eq_true.1 (show (U.any fun t => t.toList == s.toList) = true from h)
    have hp : 0 < cntT U s := List.length_pos_of_mem (List.mem_filter.2 ⟨ht, he⟩)
    rw [beq_eq_false_iff_ne.2 (by omega)]; rfl
theorem counts_ask {D : DataW Unit} {U : List ByteArray} (h : Counts D U) (s : ByteArray) (c : Int) (hc : D.atKey (keyL s) (.lit (.int .i64 0)) = .lit (.int .i64 c)) : (c == 0) = !hasU U s := by
  have e := (h.2 s).symm.trans hc
  simp only [DataW.lit.injEq, Lit.int.injEq, true_and] at e
  rw [← e]; exact cnt_zero U s
end Go.Proofs.Ytcnjcldfbidkmaa
namespace Go.Proofs.Ytcnjcldfbidkmaa
open Go.RowKit Go.Sort
set_option linter.unusedVariables false
set_option linter.unusedSimpArgs false
def upB (x : ContV) : Bool := x.state == 3
def fstP (p : ContV → Bool) (L : List ContV) : Int := if L.any p then ((L.takeWhile fun x => !p x).length : Int) else -1
theorem any_next {p : ContV → Bool} {L : List ContV} {k : Nat} {x : ContV} (h : L[k]? = some x) : (L.take (k + 1)).any p = ((L.take k).any p || p x) := by
  rw [List.take_add_one, h, List.any_append]; simp
theorem fst_at {p : ContV → Bool} {L : List ContV} {k : Nat} {x : ContV} (hx : L[k]? = some x) (he : p x = true) (hlo : (L.take k).any p = false) : fstP p L = (k : Int) := by
  have ht : L.any p = true := List.any_eq_true.2 ⟨x, List.mem_of_getElem? hx, he⟩
  have hk := (List.getElem?_eq_some_iff.1 hx).1
  unfold fstP
  rw [if_pos ht]
  congr 1
  conv => lhs; rw [← List.take_append_drop k L]
  rw [List.takeWhile_append_of_pos, List.length_append, List.length_take, Nat.min_eq_left (by omega), List.drop_eq_getElem_cons hk, (List.getElem?_eq_some_iff.1 hx).2, List.takeWhile_cons_of_neg (by rw [he]; simp)]
  · rfl
  · intro y hy
    have := List.any_eq_false.1 hlo y hy
    simpa using this
theorem fst_no {p : ContV → Bool} {L : List ContV} (h : L.any p = false) : fstP p L = -1 := by unfold fstP; rw [if_neg (by rw [h]; simp)]
/-- The first one: where it stands; those ahead are kept. -/
theorem fst_split {p : ContV → Bool} : ∀ {L : List ContV}, L.any p = true → ∃ k x, L[k]? = some x ∧ p x = true ∧ (L.take k).any p = false
  | [], h => by cases h
  | a :: L, h => by
    cases ha : p a with
    | true => exact ⟨0, a, rfl, ha, rfl⟩
    | false =>
      rw [List.any_cons, ha, Bool.false_or] at h
      obtain ⟨k, x, h1, h2, h3⟩ := fst_split h
      exact ⟨k + 1, x, h1, h2, by rw [List.take_succ_cons, List.any_cons, ha, h3]; rfl⟩
theorem own_setC {w : World} {B g n cap i : Nat} {L : List ContV} {x z : ContV} (h : OwnR w B 44 4 (.slice (some ⟨g, 0, none⟩) n cap) n (L.flatMap ContV.cells)) (hz : L[i]? = some z) :
    OwnR ((((w.setCell ⟨g, i * 4, none⟩ (.string x.id)).setCell ⟨g, i * 4 + 1, none⟩ (.int .i64 x.state)).setCell ⟨g, i * 4 + 2, none⟩ (.int .i64 x.tries)).setCell ⟨g, i * 4 + 3, none⟩ (.int .i64 x.last)) B 44 4 (.slice (some ⟨g, 0, none⟩) n cap) n ((L.set i x).flatMap ContV.cells) := by
  have hi := (List.getElem?_eq_some_iff.1 hz).1
  have at_ : ∀ (y : ContV) (M : List ContV), M.length = L.length → (M.set i y)[i]? = some y := fun y M hM => by rw [List.getElem?_set_self (by omega)]
  have h1 := (World.ownsRow.stored h (i * 4 + 0) (.string x.id)).1
  rw [flat_setc ContV.cells_len (by omega) (y := { z with id := x.id }) rfl hz] at h1
  have h2 := (World.ownsRow.stored h1 (i * 4 + 1) (.int .i64 x.state)).1
  rw [flat_setc ContV.cells_len (by omega) (x := { z with id := x.id }) (y := { z with id := x.id, state := x.state }) rfl (at_ _ L rfl), List.set_set] at h2
  have h3 := (World.ownsRow.stored h2 (i * 4 + 2) (.int .i64 x.tries)).1
  rw [flat_setc ContV.cells_len (by omega) (x := { z with id := x.id, state := x.state }) (y := { z with id := x.id, state := x.state, tries := x.tries }) rfl (at_ _ L rfl), List.set_set] at h3
  have h4 := (World.ownsRow.stored h3 (i * 4 + 3) (.int .i64 x.last)).1
  rw [flat_setc ContV.cells_len (by omega) (x := { z with id := x.id, state := x.state, tries := x.tries }) (y := x) rfl (at_ _ L rfl), List.set_set] at h4
  exact h4
theorem take_set_one {L : List ContV} {i : Nat} {x : ContV} (h : i < L.length) : (L.set i x).take (i + 1) = L.take i ++ [x] := by
  rw [List.take_add_one, List.getElem?_set_self h, List.take_set_of_le (Nat.le_refl _)]; rfl
theorem own_frozenC {w : World} {B g n cap : Nat} {cs : List Value} (h : OwnR w B 44 4 (.slice (some ⟨g, 0, none⟩) n cap) n cs) (q : Nat) : w.frozen? ⟨g, q, none⟩ = false := by
  rcases own_open h with ⟨h0, _, _⟩ | ⟨g2, cap2, C2, h0, _, h2, _⟩
  · cases h0
  · simp only [Value.slice.injEq, Option.some.injEq, Addr.mk.injEq, and_true, true_and] at h0
    obtain ⟨rfl, _⟩ := h0
    exact Blk.frozen h2 q
end Go.Proofs.Ytcnjcldfbidkmaa
namespace Go.Proofs.Ytcnjcldfbidkmaa
open Go.RowKit Go.Sort
set_option linter.unusedVariables false
set_option linter.unusedSimpArgs false
def sortT (G : List ByteArray) : List ByteArray := ((G.map (·.toList)).mergeSort (fun x y => decide (x ≤ y))).map (fun l => ⟨l.toArray⟩)
theorem bA_lT (s : ByteArray) : (⟨s.toList.toArray⟩ : ByteArray) = s := by
  rw [ByteArray.toList_eq]
theorem enc_mapT (G : List ByteArray) : G.map Value.string = (G.map (·.toList)).map encStr := by
  rw [List.map_map]
  refine List.map_congr_left (fun s _ => ?_)
  show Value.string s = Value.string ⟨s.toList.toArray⟩
  rw [bA_lT]
theorem sortT_map (G : List ByteArray) : (sortT G).map Value.string = ((G.map (·.toList)).mergeSort (fun x y => decide (x ≤ y))).map encStr := by
  unfold sortT; rw [List.map_map]; rfl
theorem sortT_len (G : List ByteArray) : (sortT G).length = G.length := by
  unfold sortT; rw [List.length_map, List.length_mergeSort, List.length_map]
theorem sortT_self {G : List ByteArray} (h : G.Pairwise (fun a b => a.toList < b.toList)) : sortT G = G := by
  unfold sortT
  have hs : (G.map (·.toList)).Pairwise (fun x y => decide (x ≤ y) = true) := by
    rw [List.pairwise_map]
    exact h.imp (fun q => decide_eq_true (List.le_of_lt q))
  have e : (G.map (·.toList)).mergeSort (fun x y => decide (x ≤ y)) = G.map (·.toList) := List.mergeSort_of_pairwise hs
  rw [e, List.map_map]
  conv => rhs; rw [← List.map_id G]
  refine List.map_congr_left (fun s _ => ?_)
  show (⟨s.toList.toArray⟩ : ByteArray) = s
  rw [bA_lT]
set_option maxHeartbeats 4000000 in
theorem sort_texts {w : World} {B : Nat} {v : Value} {G : List ByteArray} (hl : G.length ≤ 200000) (h : OwnR w B 9 1 v G.length (G.map Value.string)) :
    Calls Try.prog 118 #[v] w fun e w' => e = .returned (.tuple #[]) ∧ OwnR w' B 9 1 v (sortT G).length ((sortT G).map Value.string) ∧ w.grownBy w' v.ownBlock := by
  have hh := h
  rcases h.2 with ⟨rfl, h0⟩ | ⟨g, cap, cur, rfl, hbase, hb, h1, h2, h3, h4⟩
  · have hnil : G = [] := List.eq_nil_of_length_eq_zero h0
    subst hnil
    refine (Try.slices_Sort_string_none none 0 w).mono ?_
    rintro e w' ⟨rfl, rfl⟩
    exact ⟨rfl, by rw [show sortT [] = [] by unfold sortT; simp]; exact hh, ⟨rfl, rfl, rfl, Nat.le_refl _, fun _ _ _ => rfl⟩⟩
  · rw [Nat.mul_one, enc_mapT] at h4
    have hc := Try.slices_Sort_string g 0 cap (G.map (·.toList)) w (holds_of_block hb (by rw [List.length_map]; exact h4)) (Array.getElem?_eq_some_iff.1 hb).1 (by rw [List.length_map]; omega)
    rw [List.length_map] at hc
    refine hc.mono ?_
    rintro e w' ⟨rfl, n, os, rfl⟩
    refine ⟨rfl, ?_, grownBy_sorted _⟩
    rw [sortT_map, sortT_len]
    have := ownsRow_sorted (w := w) (base := B) (g := g) (cap := cap) (n := n) (e := 9) (os := os) (cur := cur) (ss := G.map (·.toList)) (ts := (G.map (·.toList)).mergeSort fun x y => decide (x ≤ y)) (by rw [List.length_mergeSort]) hbase hb (by rw [List.length_map]; exact h1) h2 h3
    rw [List.length_map] at this
    exact this
def ContV.v (x : ContV) : Value := .agg #[.string x.id, .int .i64 x.state, .int .i64 x.tries, .int .i64 x.last]
theorem own_takeS {w : World} {B n k g cap m : Nat} {T : TypeId} {cs : List Value} (h : OwnR w B T k (.slice (some ⟨g, 0, none⟩) n cap) n cs) (hm : m ≤ n) : OwnR w B T k (.slice (some ⟨g, 0, none⟩) m cap) m (cs.take (m * k)) := by
  rcases own_open h with ⟨h0, _, _⟩ | ⟨g2, cap2, C, h0, hB, hb, h1, h2, h3, h4⟩
  · cases h0
  · simp only [Value.slice.injEq, Option.some.injEq, Addr.mk.injEq, and_true, true_and] at h0
    obtain ⟨rfl, rfl⟩ := h0
    refine own_of hB hb (by omega) h2 h3 ?_
    rw [← h4, List.take_take, Nat.min_eq_left (Nat.mul_le_mul_right k hm)]
theorem lost_eq {L : List ContV} (h : RisesC L) (U : List ByteArray) : sortT (((strayC L U).filter (fun x => !(!upB x))).map ContV.id) = lostC L U := by
  have e : (strayC L U).filter (fun x => !(!upB x)) = L.filter (lostB U) := by
    unfold strayC
    rw [List.filter_filter]
    congr 1
    funext x
    unfold lostB upB
    cases (x.state == 3) <;> cases hasU U x.id <;> rfl
  rw [e]
  unfold lostC
  refine sortT_self ?_
  rw [List.pairwise_map]
  exact (filt_risesC h _)
theorem dead_eq (L : List ContV) (U : List ByteArray) : (sortBy (ltOf cfC) ((strayC L U).filter (fun x => !upB x))).map ContV.id = deadC L U := by
  unfold deadC deadL strayC
  rw [List.filter_filter]
  rfl
theorem stray_le (L : List ContV) (U : List ByteArray) : (strayC L U).length ≤ L.length := List.length_filter_le _ _
theorem grown_below {w0 w w' : World} {B : Nat} {E : TypeId} {k n : Nat} {v : Value} {cs : List Value} (h : Below w0.heap.size w0 w) (hO : OwnR w B E k v n cs) (hB : w0.heap.size ≤ B) (hg : w.grownBy w' v.ownBlock) : Below w0.heap.size w0 w' :=
  h.grown hg h.size (fun j hj => Nat.le_trans hB (World.ownsRow.lt hO _ hj).1)
end Go.Proofs.Ytcnjcldfbidkmaa
