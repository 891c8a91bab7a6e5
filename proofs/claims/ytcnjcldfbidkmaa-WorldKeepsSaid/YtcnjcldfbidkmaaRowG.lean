
/- Rows of one cell an element, of whatever kind, that the call owns. -/
import Derived.Test.YtcnjcldfbidkmaaOwn
import Derived.Test.YtcnjcldfbidkmaaRead
namespace Go.Proofs.Ytcnjcldfbidkmaa
open Go.RowKit
set_option linter.unusedVariables false

def OwnG {α : Type} (f : α → Value) (w : World) (B : Nat) (e : TypeId) (v : Value) (l : List α) : Prop := OwnR w B e 1 v l.length (l.map f)
section
variable {α : Type} {f : α → Value} {w w' : World} {B : Nat} {e : TypeId} {v : Value} {l : List α}
theorem OwnG.nil : OwnG f w B e (.slice none 0 0) ([] : List α) := OwnR.nil w B e 1
theorem OwnG.alloc (h : OwnG f w B e v l) (o : Obj) : OwnG f (w.alloc o) B e v l := OwnR.alloc h o
theorem OwnG.later (h : OwnG f w B e v l) (hb : Below w.heap.size w w') : OwnG f w' B e v l := OwnR.later h hb
theorem OwnG.row (h : OwnG f w B e v l) : ∃ a cap, v = .slice a l.length cap ∧ Row w a l.length cap 1 (l.map f) := row_of_own h
theorem OwnG.cellAt {g n cap : Nat} (hn : n = l.length) (h : OwnG f w B e (.slice (some ⟨g, 0, none⟩) n cap) l) {i : Nat} {x : α} (hx : l[i]? = some x) : w.cell? ⟨g, i, none⟩ = some (f x) := by
  subst hn
  have hi := (List.getElem?_eq_some_iff.1 hx).1
  have := World.ownsRow.cellAt h i (by omega)
  rw [this]; simp [hx]
theorem OwnG.frozenAt {g n cap : Nat} (hn : n = l.length) (h : OwnG f w B e (.slice (some ⟨g, 0, none⟩) n cap) l) (i : Nat) : w.frozen? ⟨g, i, none⟩ = false := by
  subst hn; exact World.ownsRow.frozenAt h i
theorem OwnG.set {g n cap : Nat} (hn : n = l.length) (h : OwnG f w B e (.slice (some ⟨g, 0, none⟩) n cap) l) (i : Nat) (u : α) : OwnG f (w.setCell ⟨g, i, none⟩ (f u)) B e (.slice (some ⟨g, 0, none⟩) n cap) (l.set i u) := by
  subst hn
  unfold OwnG at *
  rw [List.length_set, List.map_set]
  exact (World.ownsRow.stored h i (f u)).1
theorem OwnG.far (h : OwnG f w B e v l) {a : Addr} (ha : a.block < B) (u : Value) : OwnG f (w.setCell a u) B e v l := OwnR.setCell h ha u
theorem OwnG.mono {B' : Nat} (h : OwnG f w B e v l) (hB : B' ≤ B) : OwnG f w B' e v l := OwnR.mono h hB
theorem OwnG.open {a : Option Addr} {n cap : Nat} (h : OwnG f w B e (.slice a n cap) l) (hn : l.length = n) (h0 : 0 < n) : ∃ g, a = some ⟨g, 0, none⟩ ∧ B ≤ g ∧ g < w.heap.size ∧ n ≤ cap ∧ cap ≤ 9223372036854775807 := by
  subst hn
  obtain ⟨h1, h2⟩ := h
  rcases h2 with ⟨h3, hn⟩ | ⟨g, c, cur, h3, hg, hh, hl, hm, hc, ht⟩
  · simp at h3; omega
  · simp at h3
    obtain ⟨rfl, rfl⟩ := h3
    exact ⟨g, rfl, hg, (Array.getElem?_eq_some_iff.1 hh).1, hl, by unfold maxLen at hm; omega⟩
end

/-- 'append(own, x)', one element. -/
theorem wpList_app_g {α : Type} {f : α → Value} {P : Program} {w : World} {ops : Array Oper} {rest : List Oper} {o : Oper} {a : Act} {Q : Exit → Act → World → Prop} (hgd : o.guard = none) (s x : Operand) (t : TypeId)
    (ho : o.op = .call { callee := .builtin .append, args := #[s, x], argTypes := #[t, t] })
    (B : Nat) (e : TypeId) (z : Value) (bytes : Nat) (ht : P.underlying t = some (.slice e)) (hi : (P.info? e).map (fun i => (i.zero, i.size, i.bytes)) = some (some z, 1, bytes)) (hzs : z.cells.size = 1)
    (v : Value) (l : List α) (hs : a.eval s = v) (hown : OwnG f w B e v l)
    (ad : Addr) (c : α) (hx : a.eval x = .slice (some ad) 1 1) (hc : w.cell? ad = some (f c)) (hone : (f c).oneCell' = true)
    (hm : l.length + 1 ≤ maxLen) (hby : (l.length + 1) * bytes ≤ 140737488355328) (hB : B ≤ w.heap.size)
    (h : ∀ v' w', OwnG f w' B e v' (l ++ [c]) → Below B w w' → wpList P ops Q rest (a.put o.dst v') w') : wpList P ops Q (o :: rest) a w := by
  obtain ⟨b, off, sp⟩ := ad
  obtain rfl : sp = none := World.cell?_spot hc
  refine wpList_app_sep hgd s x t ho B e z 1 bytes ht hi hzs (by decide) v l.length _ hs hown ⟨b, off, none⟩ 1 1 [f c] hx ⟨rfl, Nat.le_refl _, by unfold maxLen; omega, (fun h => by cases h), .inr ⟨b, off, rfl, fun i hi => ?_⟩⟩ (fun u hu => by simp at hu; subst hu; exact hone) hm hby hB (fun v' w' h1 h2 h3 h4 => h v' w' ?_ h2)
  · simp at hi; subst hi; exact hc
  · unfold OwnG; rw [List.map_append, List.length_append]; exact h1

/-- 'make([]T, n)': n noughts of the call's own. -/
theorem wpList_make_g {α : Type} {f : α → Value} {P : Program} {w : World} {ops : Array Oper} {rest : List Oper} {o : Oper} {a : Act} {Q : Exit → Act → World → Prop}
    (hg : o.guard = none) (l c : Operand) (t : TypeId) (hop : o.op = Op.makeSlice t l c)
    (e : TypeId) (z : α) (bytes : Nat) (h1 : P.underlying t = some (.slice e)) (hi : (P.info? e).map (fun i => (i.zero, i.size, i.bytes)) = some (some (f z), 1, bytes)) (hzs : (f z).cells = #[f z])
    (n : Nat) (hl : a.eval l = .int .i64 (n : Int)) (hc : a.eval c = .int .i64 (n : Int)) (b2 : bytes * n ≤ 281474976710656) (b3 : n ≤ maxLen)
    (hK : ∀ w', OwnG f w' w.heap.size e (.slice (some ⟨w.heap.size, 0, none⟩) n n) (List.replicate n z) → Below w.heap.size w w' → wpList P ops Q rest (a.put o.dst (.slice (some ⟨w.heap.size, 0, none⟩) n n)) w') :
    wpList P ops Q (o :: rest) a w := by
  obtain ⟨i, hi0, hz, hszi, hbs⟩ : ∃ i, P.info? e = some i ∧ i.zero = some (f z) ∧ i.size = 1 ∧ i.bytes = bytes := by
    cases hp : P.info? e with
    | none => rw [hp] at hi; simp at hi
    | some i => rw [hp] at hi; simp at hi; exact ⟨i, rfl, hi.1, hi.2.1, hi.2.2⟩
  refine wpList_make_full w hg l c t hop w.heap.size e i (f z) 1 h1 hi0 hz hszi .i64 .i64 _ _ n hl hc rfl rfl (by rw [hbs]; exact b2) b3 (Nat.le_refl _) (fun w' ho hgr => hK w' ?_ ((Below.refl _ _).grown hgr (Nat.le_refl _) (fun q hq => by cases hq)))
  rw [hzs, Nat.mul_one, toList_madeCells_one] at ho
  unfold OwnG
  rw [List.length_replicate, List.map_replicate]
  exact ho

/-- Of a list that is filled from its head on: what stands there is done, the rest is as it was. -/
def fillL {α : Type} (x y : List α) (k : Nat) : List α := x.take k ++ y.drop k
theorem fillL_zero {α : Type} (x y : List α) : fillL x y 0 = y := by unfold fillL; simp
theorem fillL_all {α : Type} (x y : List α) (h : x.length = y.length) : fillL x y x.length = x := by unfold fillL; rw [List.take_length, h, List.drop_length, List.append_nil]
theorem fillL_len {α : Type} (x y : List α) (k : Nat) (h : x.length = y.length) : (fillL x y k).length = y.length := by unfold fillL; simp; omega
theorem fillL_set {α : Type} (x y : List α) (k : Nat) (h : x.length = y.length) (u : α) (hu : x[k]? = some u) : (fillL x y k).set k u = fillL x y (k + 1) := by
  have hk := (List.getElem?_eq_some_iff.1 hu).1
  unfold fillL
  rw [List.set_append_right _ _ (by simp; omega)]
  have e1 : (x.take k).length = k := by simp; omega
  rw [e1, Nat.sub_self, List.take_add_one, hu, List.append_assoc]
  congr 1
  have : y.drop k = (y[k]'(by omega)) :: y.drop (k + 1) := List.drop_eq_getElem_cons (by omega)
  rw [this]; rfl
theorem fillL_get {α : Type} (x y : List α) (k : Nat) (h : x.length = y.length) : (fillL x y k)[k]? = y[k]? := by
  unfold fillL
  rcases Nat.lt_or_ge k x.length with q | q
  · rw [List.getElem?_append_right (by rw [List.length_take]; omega), List.getElem?_drop]
    congr 1
    rw [List.length_take]
    omega
  · rw [List.getElem?_eq_none (by simp; omega), List.getElem?_eq_none (by omega)]
end Go.Proofs.Ytcnjcldfbidkmaa
