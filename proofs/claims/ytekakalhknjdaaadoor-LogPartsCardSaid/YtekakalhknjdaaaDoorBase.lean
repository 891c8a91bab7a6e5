
/- Small facts that all walks of this seat share: what is told of a slice of integers that came in; frames. -/
import Derived.Test.YtekakalhknjdaaaDoorRows
import Derived.WalkKit
import Derived.WalkSpells
import Derived.WalkLawsBesides
import Derived.ProofKit
import Derived.OpenShut
import Derived.ShutString
import Derived.ChangeOld
import Derived.Below
import Derived.Lib.Hide
import Derived.Deep.QuietTactic
import Derived.BigQuiet
import Derived.Laws.AppendOwnNone
import Derived.Deep.Cut
import Derived.Deep.CutRange
import Derived.Deep.DeepCutAuto
import Derived.Deep.RegionHeld3
import Derived.Deep.LoopGhost
import Derived.Deep.Light
import Derived.StillTailTactics
import Derived.Lib.QuietBelow
import Derived.PlainAid
namespace Go.Proofs.YtekakalhknjdaaaDoor
open Go.RowKit
set_option linter.unusedVariables false

theorem own : ownKnob Tryd.prog.godebug = none := by kernel_rfl
theorem laidOut : laidOutB Tryd.prog = true := by kernel_rfl

/-- The bounds of an int. -/
def InI (a : Int) : Prop := -9223372036854775808 ≤ a ∧ a ≤ 9223372036854775807
theorem inI_of_wf {a : Int} (h : (Lit.int .i64 a).wf = true) : InI a := by have := bounds_i64 h; exact this
theorem wfI64 {a : Int} (h0 : -9223372036854775808 ≤ a) (h1 : a ≤ 9223372036854775807) : (Lit.int .i64 a).wf = true := WalkArith.wf_i64 ⟨h0, h1⟩
theorem in8_of_wf {a : Int} (h : (Lit.int .u8 a).wf = true) : 0 ≤ a ∧ a ≤ 255 := bounds_u8 h
theorem in16_of_wf {a : Int} (h : (Lit.int .u16 a).wf = true) : 0 ≤ a ∧ a ≤ 65535 := bounds_u16 h
theorem in32_of_wf {a : Int} (h : (Lit.int .u32 a).wf = true) : 0 ≤ a ∧ a ≤ 4294967295 := bounds_u32 h
theorem in64_of_wf {a : Int} (h : (Lit.int .u64 a).wf = true) : 0 ≤ a ∧ a ≤ 18446744073709551615 := bounds_u64 h
theorem inI32_of_wf {a : Int} (h : (Lit.int .i32 a).wf = true) : -2147483648 ≤ a ∧ a ≤ 2147483647 := bounds_i32 h

def satNum (a : Int) : Int := max a 0
theorem satNum_bd (a : Int) (h : InI a) : 0 ≤ satNum a ∧ satNum a ≤ 9223372036854775807 := by unfold satNum; unfold InI at h; omega
theorem ret_i64 {a b : Int} (h : a = b) : Ending.returned (.int .i64 a) = .returned (.int .i64 b) := by rw [h]
theorem ret_u64 {a b : Int} (h : a = b) : Ending.returned (.int .u64 a) = .returned (.int .u64 b) := by rw [h]
theorem ret_bool {a b : Bool} (h : a = b) : Ending.returned (.bool a) = .returned (.bool b) := by rw [h]

/-- The element at a place: a plain name, that the walk's simp leaves as it is. -/
def el (l : List Int) (i : Nat) : Int := l.getD i 0

/-- A slice value that reads as 'len' elements of 'size' cells each, the cells 'cs'. -/
def Row (w : World) (a : Option Addr) (len cap size : Nat) (cs : List Value) : Prop :=
  cs.length = len * size ∧ len ≤ cap ∧ cap ≤ maxLen ∧ (a = none → len = 0 ∧ cap = 0) ∧
  (cs = [] ∨ ∃ b off, a = some ⟨b, off, none⟩ ∧ ∀ i, i < cs.length → w.cell? ⟨b, off + i, none⟩ = cs[i]?)

/-- A slice of integers that reads as 'l'. -/
def Ints (k : IntKind) (w : World) (a : Option Addr) (len cap : Nat) (l : List Int) : Prop :=
  Row w a len cap 1 (l.map (Value.int k)) ∧ ∀ n ∈ l, (Lit.int k n).wf = true

theorem Row.later {w w' : World} {a : Option Addr} {len cap size : Nat} {cs : List Value} (h : Row w a len cap size cs) (hb : Below w.heap.size w w') : Row w' a len cap size cs := by
  obtain ⟨h1, h2, h3, h4, h5⟩ := h
  refine ⟨h1, h2, h3, h4, h5.imp id ?_⟩
  rintro ⟨b, off, rfl, hc⟩
  refine ⟨b, off, rfl, fun i hi => ?_⟩
  have := hc i hi
  rw [List.getElem?_eq_getElem hi] at this ⊢
  exact cell_later hb this

theorem Row.block {w : World} {a : Option Addr} {len cap size : Nat} {cs : List Value} (h : Row w a len cap size cs) : ∀ x, a = some x → cs ≠ [] → x.block < w.heap.size := by
  intro x hx hne
  obtain ⟨h1, h2, h3, h4, h5⟩ := h
  rcases h5 with h5 | ⟨b, off, rfl, hc⟩
  · exact absurd h5 hne
  · cases hx
    have h0 : 0 < cs.length := List.length_pos_iff.2 hne
    have := hc 0 h0
    rw [List.getElem?_eq_getElem h0] at this
    exact World.block_lt_of_cell? _ _ this

theorem Ints.later {k : IntKind} {w w' : World} {a : Option Addr} {len cap : Nat} {l : List Int} (h : Ints k w a len cap l) (hb : Below w.heap.size w w') : Ints k w' a len cap l :=
  ⟨h.1.later hb, h.2⟩

theorem Ints.bounds {k : IntKind} {w : World} {a : Option Addr} {len cap : Nat} {l : List Int} (h : Ints k w a len cap l) :
    l.length = len ∧ len ≤ cap ∧ cap ≤ 9223372036854775807 := by
  obtain ⟨⟨h1, h2, h3, _⟩, _⟩ := h
  unfold maxLen at h3
  simp at h1
  exact ⟨h1, h2, h3⟩

/-- The same, of a slice with at least one element, in the walk's own spelling. -/
theorem Ints.opened {k : IntKind} {w : World} {a : Option Addr} {len cap : Nat} {l : List Int} (h : Ints k w a len cap l) (h0 : 0 < len) :
    ∃ b off, a = some ⟨b, off, none⟩ ∧ b < w.heap.size ∧ ∀ i, i < len → w.cell? ⟨b, off + i, none⟩ = some (.int k (el l i)) := by
  obtain ⟨hr, hw⟩ := h
  have hr' := hr
  obtain ⟨h1, h2, h3, h4, h5⟩ := hr
  simp at h1
  have hne : l.map (Value.int k) ≠ [] := by intro e; simp at e; rw [e] at h1; simp at h1; omega
  rcases h5 with h5 | ⟨b, off, rfl, hc⟩
  · exact absurd h5 hne
  · refine ⟨b, off, rfl, hr'.block _ rfl hne, fun i hi => ?_⟩
    rw [hc i (by simp; omega)]
    simp [el, show i < l.length by omega]

theorem el_mem {l : List Int} {i : Nat} (h : i < l.length) : el l i ∈ l := by
  unfold el; rw [List.getD_eq_getElem?_getD, List.getElem?_eq_getElem h]; exact List.getElem_mem h

theorem take_snoc {l : List Int} {i : Nat} (h : i < l.length) : l.take (i + 1) = l.take i ++ [el l i] := by
  unfold el; rw [List.take_succ_eq_append_getElem h, List.getD_eq_getElem?_getD, List.getElem?_eq_getElem h]; rfl

theorem Ints.inI {w : World} {a : Option Addr} {len cap : Nat} {l : List Int} (h : Ints .i64 w a len cap l) {i : Nat} (hi : i < len) : InI (el l i) :=
  inI_of_wf (h.2 _ (el_mem (by have := h.bounds; omega)))

/-- In a world that is as the old one below a block's number, the old blocks' cells read as they did. -/
theorem Below.cells {B : Nat} {w w' : World} (h : Below B w w') : ∀ b o, b < B → w'.cell? ⟨b, o, none⟩ = w.cell? ⟨b, o, none⟩ :=
  fun b o hb => h.cell (p := ⟨b, o, none⟩) hb

/-- A row that has just been made. -/
theorem ints_new {k : IntKind} (w : World) (l : List Int) (T : TypeId) (fr : Nat × Nat) (hm : l.length ≤ maxLen) (hw : ∀ n ∈ l, (Lit.int k n).wf = true) :
    Ints k (w.alloc (.cells (l.map (Value.int k)).toArray T fr)) (some ⟨w.heap.size, 0, none⟩) l.length l.length l := by
  refine ⟨⟨by simp, Nat.le_refl _, hm, (fun h => by cases h), .inr ⟨_, _, rfl, fun i hi => ?_⟩⟩, hw⟩
  rw [Nat.zero_add, World.cell?_alloc_mark]
  simp

open Go.ChangeShapes Go.WideShapes Go.ChangeAt in
theorem ints_of_trod {H : Type} {enc : TypeId × Value → H} {P : Program} {W : World} {t u : TypeId} {k : IntKind} {a : Option Addr} {len cap : Nat} {d : DataW H} {p : List MemPlace}
    (ht : P.underlying t = some (.slice u)) (hu : P.underlying u = some (.int k)) (hc : P.cellsOf u = 1)
    (h : DataW.Trod enc P W 0 (fun _ => true) true t (.slice a len cap) d p) : ∃ l, Ints k W a len cap l := by
  obtain ⟨fuel, hf⟩ := h
  rcases open_ints ht hu hc hf with ⟨hcs, _⟩ | ⟨x, l, c, zs, hcs, _, hl, hm, hz, _, hcell, hwz⟩
  · simp [Value.cells] at hcs
    obtain ⟨rfl, rfl, rfl⟩ := hcs
    exact ⟨[], ⟨by simp, Nat.le_refl _, by unfold maxLen; omega, fun _ => ⟨rfl, rfl⟩, .inl rfl⟩, fun n hn => by cases hn⟩
  · simp [Value.cells] at hcs
    obtain ⟨rfl, rfl, rfl⟩ := hcs
    simp only [if_true] at hz
    refine ⟨zs.take len, ⟨by simp; omega, hl, hm, (fun h => by cases h), ?_⟩, fun n hn => hwz n (List.mem_of_mem_take hn)⟩
    by_cases h0 : len = 0
    · exact .inl (by rw [h0]; rfl)
    · right
      obtain ⟨b, off, spot⟩ := x
      have hc0 := hcell 0 (by omega)
      have hspot : spot = none := by simpa [Addr.add] using World.cell?_spot hc0
      subst hspot
      refine ⟨b, off, rfl, fun i hi => ?_⟩
      simp at hi
      have := hcell i (by omega)
      have e : (⟨b, off, none⟩ : Addr).add i = ⟨b, off + i, none⟩ := by cases i <;> simp [Addr.add]
      rw [e] at this
      rw [this]
      simp [hi, show i < zs.length by omega]

/-- A slice of integers that the call owns: a plain name, that the walk's simp leaves as it is. -/
def OwnI (w : World) (B : Nat) (e : TypeId) (k : IntKind) (v : Value) (l : List Int) : Prop := w.ownsRow B e 1 v l.length (l.map (Value.int k))

theorem OwnI.nil (w : World) (B : Nat) (e : TypeId) (k : IntKind) : OwnI w B e k (.slice none 0 0) [] := World.ownsRow_nil w B e 1
theorem OwnI.alloc {w : World} {B : Nat} {e : TypeId} {k : IntKind} {v : Value} {l : List Int} (h : OwnI w B e k v l) (o : Obj) : OwnI (w.alloc o) B e k v l := World.ownsRow.alloc h o

/-- What the call owns, read as a slice of integers. -/
theorem ints_of_own {w : World} {B : Nat} {e : TypeId} {k : IntKind} {v : Value} {l : List Int} (h : OwnI w B e k v l) (hw : ∀ n ∈ l, (Lit.int k n).wf = true) :
    ∃ a cap, v = .slice a l.length cap ∧ Ints k w a l.length cap l := by
  have h' := h
  obtain ⟨h1, h2⟩ := h
  rcases h2 with ⟨rfl, hn⟩ | ⟨g, cap, cur, rfl, hg, hh, hl, hm, hc, ht⟩
  · have : l = [] := List.eq_nil_of_length_eq_zero hn
    subst this
    exact ⟨none, 0, rfl, ⟨by simp, Nat.le_refl _, by unfold maxLen; omega, fun _ => ⟨rfl, rfl⟩, .inl rfl⟩, hw⟩
  · refine ⟨_, cap, rfl, ⟨by simp, hl, hm, (fun h => by cases h), .inr ⟨g, 0, rfl, fun i hi => ?_⟩⟩, hw⟩
    rw [List.getElem?_eq_getElem hi]
    have := h'.cells (g := g) rfl i _ (List.getElem?_eq_getElem hi)
    have e : (⟨g, 0, none⟩ : Addr).add i = ⟨g, 0 + i, none⟩ := by cases i <;> simp [Addr.add]
    rw [e] at this
    exact this

/-- A row of its own that the call has just made, empty. -/
theorem own_new (w : World) (B : Nat) (e : TypeId) (k : IntKind) (hB : B ≤ w.heap.size) : OwnI (w.alloc (.cells #[] e)) B e k (.slice (some ⟨w.heap.size, 0, none⟩) 0 0) [] :=
  World.ownsRow_made w #[] 0 hB (by unfold maxLen; omega) rfl

/-- 'append(own, xs...)', a slice of integers, whatever it is. -/
theorem wpList_app_ints {P : Program} {w : World} {ops : Array Oper} {rest : List Oper} {o : Oper} {a : Act} {Q : Exit → Act → World → Prop} (hgd : o.guard = none) (s x : Operand) (t : TypeId)
    (ho : o.op = .call { callee := .builtin .append, args := #[s, x], argTypes := #[t, t] })
    (B : Nat) (e : TypeId) (k : IntKind) (bytes : Nat) (ht : P.underlying t = some (.slice e)) (hi : (P.info? e).map (fun i => (i.zero, i.size, i.bytes)) = some (some (.int k 0), 1, bytes))
    (v : Value) (l : List Int) (hs : a.eval s = v) (hown : OwnI w B e k v l)
    (sa : Option Addr) (len cap : Nat) (zs : List Int) (hx : a.eval x = .slice sa len cap) (hr : Ints k w sa len cap zs)
    (hm : l.length + len ≤ maxLen) (hby : (l.length + len) * bytes ≤ 140737488355328) (hB : B ≤ w.heap.size)
    (h : ∀ v' w', OwnI w' B e k v' (l ++ zs) → Below B w w' → w.grownBy w' v.ownBlock → wpList P ops Q rest (a.put o.dst v') w') : wpList P ops Q (o :: rest) a w := by
  obtain ⟨i, hi0, hz, hsz, hbs⟩ : ∃ i, P.info? e = some i ∧ i.zero = some (.int k 0) ∧ i.size = 1 ∧ i.bytes = bytes := by
    cases hp : P.info? e with
    | none => rw [hp] at hi; simp at hi
    | some i => rw [hp] at hi; simp at hi; exact ⟨i, rfl, hi.1, hi.2.1, hi.2.2⟩
  obtain ⟨hrow, hw⟩ := hr
  obtain ⟨r1, r2, r3, r4, r5⟩ := hrow
  simp at r1
  cases sa with
  | none =>
    obtain ⟨rfl, rfl⟩ := r4 rfl
    have : zs = [] := List.eq_nil_of_length_eq_zero r1
    subst this
    refine wpList_append_own_none hgd s x t ho B e i 1 ht hi0 v l.length _ hs hown hx ?_
    refine h v w (by simpa using hown) (Below.refl _ _) ⟨rfl, rfl, rfl, Nat.le_refl _, fun _ _ _ => rfl⟩
  | some ad =>
    refine wpList_append_own _ hgd s x t ho B e i (.int k 0) 1 bytes ht hi0 hz hsz hbs rfl (by decide) v l.length _ hs hown ad len cap (zs.map (Value.int k)) hx (by simp; omega) ?_ ?_ hm hby hB ?_
    · intro j u hj
      rcases r5 with r5 | ⟨b, off, e1, hc⟩
      · rw [r5] at hj; cases hj
      · cases e1
        have hjl : j < (zs.map (Value.int k)).length := by
          rcases Nat.lt_or_ge j (zs.map (Value.int k)).length with q | q
          · exact q
          · rw [List.getElem?_eq_none q] at hj; cases hj
        have := hc j hjl
        rw [hj] at this
        have e2 : (⟨b, off, none⟩ : Addr).add j = ⟨b, off + j, none⟩ := by cases j <;> simp [Addr.add]
        rw [e2]; exact this
    · intro u hu
      obtain ⟨n, _, rfl⟩ := List.mem_map.1 hu
      rfl
    · intro v' w' ho' hg _
      have hb : Below B w w' := (Below.refl B w).grown hg hB fun q hq => (hown.lt q hq).1
      refine h v' w' ?_ hb hg
      unfold OwnI
      rw [List.map_append, List.length_append, r1]
      exact ho'

/-- What a callee of its own makes is new to the caller, too. -/
theorem belStep {w0 w w' : World} (h : Below w0.heap.size w0 w) (h' : Below w.heap.size w w') : Below w0.heap.size w0 w' := h.trans (h'.mono h.size)
theorem belDrewN {B : Nat} {w0 w : World} (h : Below B w0 w) (n : Nat) : Below B w0 (w.drewN n) := ⟨h.os, h.tape, h.output, h.size, h.block⟩

/-- The class of worlds of a region that draws its order, read as a frame. -/
theorem bel_of_class {w w' : World} (h : ∃ p : Regrown, w' = Go.Sort.grow (redrawn w p.d) p.os) : Below w.heap.size w w' := by
  obtain ⟨p, rfl⟩ := h
  exact below_regrown w p.d p.os

/-- A callee's contract that leaves the world alone, met in a world of the class. -/
theorem regrown_of_eq {P : Program} {f : FuncId} {args : Array Value} {w : World} {d : Nat} {os : Array Obj} {v : Value}
    (h : Calls P f args (Go.Sort.grow (redrawn w d) os) fun e w' => e = .returned v ∧ Go.Sort.grow (redrawn w d) os = w') : Calls P f args (Go.Sort.grow (redrawn w d) os) fun e w'' => e = .returned v ∧ ∃ p : Regrown, w'' = Go.Sort.grow (redrawn w p.d) p.os :=
  Calls.regrown_of (h.mono fun _ _ ⟨he, hw⟩ => ⟨he, hw ▸ Below.refl _ _⟩)

/-! Frames over a base that is a world of its own: the walk's simp pays the premise of a cell's fact by these. -/
@[go_sem] theorem belAlloc {w0 w : World} (h : Below w0.heap.size w0 w) (o : Obj) : Below w0.heap.size w0 (w.alloc o) := h.alloc h.size o
@[go_sem] theorem belDrew {w0 w : World} (h : Below w0.heap.size w0 w) : Below w0.heap.size w0 w.drew := h.drew
@[go_sem] theorem belSet {w0 w : World} (h : Below w0.heap.size w0 w) (p : Addr) (u : Value) (hp : w0.heap.size ≤ p.block) : Below w0.heap.size w0 (w.setCell p u) := h.setCell hp u
/-- A cell of the base, in every later world. -/
theorem keep {w0 : World} {a : Addr} {v : Value} (h : w0.cell? a = some v) : ∀ w, Below w0.heap.size w0 w → w.cell? a = some v := fun _ hb => cell_later hb h
theorem keepOn {w0 w1 : World} {a : Addr} {v : Value} (h : ∀ w, Below w0.heap.size w0 w → w.cell? a = some v) (hb : Below w0.heap.size w0 w1) : ∀ w, Below w1.heap.size w1 w → w.cell? a = some v := fun w hw => h w (belStep hb hw)

/-! A block that is known whole. -/
def Blk (w : World) (M : Nat) (C : List Value) (T : TypeId) : Prop := w.heap[M]? = some (.cells C.toArray T (0, 0))
theorem Blk.new (w : World) (C : List Value) (T : TypeId) : Blk (w.alloc (.cells C.toArray T)) w.heap.size C T := heap_alloc_new w _
theorem Blk.lt {w : World} {M : Nat} {C : List Value} {T : TypeId} (h : Blk w M C T) : M < w.heap.size := by
  unfold Blk at h
  exact (Array.getElem?_eq_some_iff.1 h).1
theorem Blk.later {w w' : World} {M : Nat} {C : List Value} {T : TypeId} (h : Blk w M C T) (hb : Below w.heap.size w w') : Blk w' M C T := (hb.block M h.lt).trans h
theorem Blk.cell {w : World} {M : Nat} {C : List Value} {T : TypeId} (h : Blk w M C T) {j : Nat} {v : Value} (hj : C[j]? = some v) : w.cell? ⟨M, j, none⟩ = some v := by
  unfold Blk at h
  simp [World.cell?, h, hj]
theorem Blk.frozen {w : World} {M : Nat} {C : List Value} {T : TypeId} (h : Blk w M C T) (j : Nat) : w.frozen? ⟨M, j, none⟩ = false := by
  unfold Blk at h
  simp [World.frozen?, h]
theorem Blk.set {w : World} {M : Nat} {C : List Value} {T : TypeId} (h : Blk w M C T) (j : Nat) (u : Value) : Blk (w.setCell ⟨M, j, none⟩ u) M (C.set j u) T := by
  unfold Blk at *
  simp [World.setCell, Array.getElem?_modify, h]

/-! Rows of elements of any size that the call owns. -/
def OwnR (w : World) (B : Nat) (e : TypeId) (size : Nat) (v : Value) (n : Nat) (cs : List Value) : Prop := w.ownsRow B e size v n cs
theorem OwnR.nil (w : World) (B : Nat) (e : TypeId) (size : Nat) : OwnR w B e size (.slice none 0 0) 0 [] := World.ownsRow_nil w B e size
theorem OwnR.later {w w' : World} {B : Nat} {e : TypeId} {size : Nat} {v : Value} {n : Nat} {cs : List Value} (h : OwnR w B e size v n cs) (hb : Below w.heap.size w w') : OwnR w' B e size v n cs := by
  obtain ⟨h1, h2⟩ := h
  refine ⟨h1, h2.imp id ?_⟩
  rintro ⟨g, cap, cur, e1, e2, e3, e4⟩
  exact ⟨g, cap, cur, e1, e2, (hb.block g (Array.getElem?_eq_some_iff.1 e3).1).trans e3, e4⟩
/-- A write into a block that is not the row's own, below the base. -/
theorem OwnR.setCell {w : World} {B : Nat} {e : TypeId} {size : Nat} {v : Value} {n : Nat} {cs : List Value} (h : OwnR w B e size v n cs) {a : Addr} (ha : a.block < B) (u : Value) : OwnR (w.setCell a u) B e size v n cs :=
  ownsRow_setCell_below h ha u
theorem row_of_own {w : World} {B : Nat} {e : TypeId} {size : Nat} {v : Value} {n : Nat} {cs : List Value} (h : OwnR w B e size v n cs) :
    ∃ a cap, v = .slice a n cap ∧ Row w a n cap size cs := by
  have h' := h
  obtain ⟨h1, h2⟩ := h
  rcases h2 with ⟨rfl, rfl⟩ | ⟨g, cap, cur, rfl, hg, hh, hl, hm, hc, ht⟩
  · have : cs = [] := List.eq_nil_of_length_eq_zero (by simpa using h1)
    subst this
    exact ⟨none, 0, rfl, by simp, Nat.le_refl _, by unfold maxLen; omega, fun _ => ⟨rfl, rfl⟩, .inl rfl⟩
  · refine ⟨_, cap, rfl, h1, hl, hm, (fun h => by cases h), .inr ⟨g, 0, rfl, fun i hi => ?_⟩⟩
    rw [List.getElem?_eq_getElem hi]
    have := World.ownsRow.cells h' (g := g) rfl i _ (List.getElem?_eq_getElem hi)
    have e : (⟨g, 0, none⟩ : Addr).add i = ⟨g, 0 + i, none⟩ := by cases i <;> simp [Addr.add]
    rw [e] at this
    exact this
theorem row_new (w : World) (cs : List Value) (T : TypeId) (n size : Nat) (hl : cs.length = n * size) (hm : n ≤ maxLen) :
    Row (w.alloc (.cells cs.toArray T)) (some ⟨w.heap.size, 0, none⟩) n n size cs := by
  refine ⟨hl, Nat.le_refl _, hm, (fun h => by cases h), .inr ⟨_, _, rfl, fun i hi => ?_⟩⟩
  rw [Nat.zero_add, World.cell?_alloc_mark]
  simp

/-- 'append(own, xs...)', elements of any size. -/
theorem wpList_app_row {P : Program} {w : World} {ops : Array Oper} {rest : List Oper} {o : Oper} {a : Act} {Q : Exit → Act → World → Prop} (hgd : o.guard = none) (s x : Operand) (t : TypeId)
    (ho : o.op = .call { callee := .builtin .append, args := #[s, x], argTypes := #[t, t] })
    (B : Nat) (e : TypeId) (z : Value) (size bytes : Nat) (ht : P.underlying t = some (.slice e)) (hi : (P.info? e).map (fun i => (i.zero, i.size, i.bytes)) = some (some z, size, bytes))
    (hzs : z.cells.size = size) (hsz : 0 < size)
    (v : Value) (n : Nat) (cs : List Value) (hs : a.eval s = v) (hown : OwnR w B e size v n cs)
    (sa : Option Addr) (len cap : Nat) (ds : List Value) (hx : a.eval x = .slice sa len cap) (hr : Row w sa len cap size ds) (hone : ∀ u ∈ ds, u.oneCell' = true)
    (hm : n + len ≤ maxLen) (hby : (n + len) * bytes ≤ 140737488355328) (hB : B ≤ w.heap.size)
    (h : ∀ v' w', OwnR w' B e size v' (n + len) (cs ++ ds) → Below B w w' → w.grownBy w' v.ownBlock → wpList P ops Q rest (a.put o.dst v') w') : wpList P ops Q (o :: rest) a w := by
  obtain ⟨i, hi0, hz, hszi, hbs⟩ : ∃ i, P.info? e = some i ∧ i.zero = some z ∧ i.size = size ∧ i.bytes = bytes := by
    cases hp : P.info? e with
    | none => rw [hp] at hi; simp at hi
    | some i => rw [hp] at hi; simp at hi; exact ⟨i, rfl, hi.1, hi.2.1, hi.2.2⟩
  obtain ⟨r1, r2, r3, r4, r5⟩ := hr
  cases sa with
  | none =>
    obtain ⟨rfl, rfl⟩ := r4 rfl
    have : ds = [] := List.eq_nil_of_length_eq_zero (by simpa using r1)
    subst this
    refine wpList_append_own_none hgd s x t ho B e i size ht hi0 v n _ hs hown hx ?_
    refine h v w (by simpa using hown) (Below.refl _ _) ⟨rfl, rfl, rfl, Nat.le_refl _, fun _ _ _ => rfl⟩
  | some ad =>
    refine wpList_append_own _ hgd s x t ho B e i z size bytes ht hi0 hz hszi hbs hzs hsz v n _ hs hown ad len cap ds hx r1 ?_ hone hm hby hB ?_
    · intro j u hj
      rcases r5 with r5 | ⟨b, off, e1, hc⟩
      · rw [r5] at hj; cases hj
      · cases e1
        have hjl : j < ds.length := by
          rcases Nat.lt_or_ge j ds.length with q | q
          · exact q
          · rw [List.getElem?_eq_none q] at hj; cases hj
        have := hc j hjl
        rw [hj] at this
        have e2 : (⟨b, off, none⟩ : Addr).add j = ⟨b, off + j, none⟩ := by cases j <;> simp [Addr.add]
        rw [e2]; exact this
    · intro v' w' ho' hg _
      exact h v' w' ho' ((Below.refl B w).grown hg hB fun q hq => (World.ownsRow.lt hown q hq).1) hg

theorem Blk.far {w : World} {M : Nat} {C : List Value} {T : TypeId} (h : Blk w M C T) {a : Addr} (ha : a.block ≠ M) (u : Value) : Blk (w.setCell a u) M C T := by
  unfold Blk at *
  rw [Below.heap_setCell _ _ _ _ (by omega)]; exact h
theorem OwnR.alloc {w : World} {B : Nat} {e : TypeId} {size : Nat} {v : Value} {n : Nat} {cs : List Value} (h : OwnR w B e size v n cs) (o : Obj) : OwnR (w.alloc o) B e size v n cs := World.ownsRow.alloc h o

theorem Blk.below {w w' : World} {M B : Nat} {C : List Value} {T : TypeId} (h : Blk w M C T) (hb : Below B w w') (hM : M < B) : Blk w' M C T := (hb.block M hM).trans h

theorem OwnR.drewN {w : World} {B : Nat} {e : TypeId} {size : Nat} {v : Value} {n : Nat} {cs : List Value} (h : OwnR w B e size v n cs) (k : Nat) : OwnR (w.drewN k) B e size v n cs := h
theorem Blk.drewN {w : World} {M : Nat} {C : List Value} {T : TypeId} (h : Blk w M C T) (k : Nat) : Blk (w.drewN k) M C T := h

theorem Below.frozens {B : Nat} {w w' : World} (h : Below B w w') : ∀ b o, b < B → w'.frozen? ⟨b, o, none⟩ = w.frozen? ⟨b, o, none⟩ :=
  fun b o hb => h.frozen (p := ⟨b, o, none⟩) hb

theorem OwnR.mono {w : World} {B B' : Nat} {e : TypeId} {size : Nat} {v : Value} {n : Nat} {cs : List Value} (h : OwnR w B e size v n cs) (hB : B' ≤ B) : OwnR w B' e size v n cs := by
  obtain ⟨h1, h2⟩ := h
  refine ⟨h1, h2.imp id ?_⟩
  rintro ⟨g, cap, cur, e1, e2, e3⟩
  exact ⟨g, cap, cur, e1, by omega, e3⟩

theorem keepOnP {w0 w1 : World} {p : World → Prop} (h : ∀ w, Below w0.heap.size w0 w → p w) (hb : Below w0.heap.size w0 w1) : ∀ w, Below w1.heap.size w1 w → p w := fun w hw => h w (belStep hb hw)
theorem Blk.keepF {w0 : World} {M : Nat} {C : List Value} {T : TypeId} (h : Blk w0 M C T) : ∀ w, Below w0.heap.size w0 w → ∀ j, w.frozen? ⟨M, j, none⟩ = false := fun w hb j => (h.later hb).frozen j
theorem Blk.keepB {w0 : World} {M : Nat} {C : List Value} {T : TypeId} (h : Blk w0 M C T) : ∀ w, Below w0.heap.size w0 w → Blk w M C T := fun w hb => h.later hb
theorem Blk.at {w : World} {C : List Value} {T : TypeId} {M : Nat} (h : M = w.heap.size) : Blk (w.alloc (.cells C.toArray T)) M C T := by subst h; exact Blk.new w C T
end Go.Proofs.YtekakalhknjdaaaDoor
