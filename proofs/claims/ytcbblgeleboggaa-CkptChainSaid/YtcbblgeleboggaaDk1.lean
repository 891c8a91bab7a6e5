
/- Stage 10: the disk in memory: plain laws. -/
import Derived.Test.YtcbblgeleboggaaDkM
import Derived.Maps.OwnSet
import Derived.Maps.Views
namespace Go.Proofs.Ytcbblgeleboggaa
open Go.RowKit Go.Sort Go.Maps
set_option linter.unusedVariables false
set_option linter.unusedSimpArgs false
structure OpV where
  kind : Int
  name : ByteArray
  dst : ByteArray
  ba : Option Addr
  bc : Nat
  Z : List Int
def OpV.cells (o : OpV) : List Value := [.int .i64 o.kind, .string o.name, .string o.dst, .slice o.ba o.Z.length o.bc]
theorem OpV.cells_len (o : OpV) : o.cells.length = 4 := rfl
def OpV.m (o : OpV) : MOp := ⟨o.kind, o.name, o.dst, o.Z⟩
def OpV.small (o : OpV) : Prop := o.name.size ≤ maxLen ∧ o.dst.size ≤ maxLen ∧ InI o.kind
/-- A row of bytes that lies in none of the blocks X. -/
def BytesX (X : List Nat) (w : World) (a : Option Addr) (c : Nat) (Z : List Int) : Prop := Ints .u8 w a Z.length c Z ∧ (Z ≠ [] → ∀ x, a = some x → x.block ∉ X) ∧ Z.length ≤ 1000000
theorem Apart.ints {F : List Nat} {u v : World} {a : Option Addr} {n c : Nat} {k : IntKind} {Z : List Int} (h : Apart F u v) (hr : Ints k u a n c Z) (hF : Z ≠ [] → ∀ x, a = some x → x.block ∉ F) : Ints k v a n c Z :=
  ⟨h.row hr.1 (fun q => hF (fun z => q (by rw [z]; rfl))), hr.2⟩
theorem BytesX.later {X : List Nat} {u w : World} {a : Option Addr} {c : Nat} {Z : List Int} (h : BytesX X u a c Z) (hb : Below u.heap.size u w) : BytesX X w a c Z := ⟨h.1.later hb, h.2⟩
theorem BytesX.apart {X F : List Nat} {u w : World} {a : Option Addr} {c : Nat} {Z : List Int} (h : BytesX X u a c Z) (hA : Apart F u w) (hF : ∀ b ∈ F, b ∈ X) : BytesX X w a c Z := ⟨hA.ints h.1 (fun q x ex hx => h.2.1 q x ex (hF _ hx)), h.2⟩
theorem BytesX.more {X Y : List Nat} {u : World} {a : Option Addr} {c : Nat} {Z : List Int} (h : BytesX X u a c Z) (hY : ∀ b ∈ Y, b ∈ X ∨ u.heap.size ≤ b) : BytesX Y u a c Z := ⟨h.1, fun q x ex hx => by
  have := row_ltF h.1.1 (by simpa using q) ex
  rcases hY _ hx with r | r
  · exact h.2.1 q x ex r
  · omega, h.2.2⟩
theorem BytesX.of_own {X : List Nat} {u : World} {B : Nat} {v : Value} {Z : List Int} (h : OwnI u B 5 .u8 v Z) (hZ : ∀ n ∈ Z, (Lit.int .u8 n).wf = true) (hX : ∀ b ∈ X, b < B) (hl : Z.length ≤ 1000000) : ∃ a c, v = .slice a Z.length c ∧ BytesX X u a c Z := by
  obtain ⟨a, c, e, hr⟩ := rowR_of_own (show OwnR u B 5 1 v (Z.map (Value.int .u8)).length (Z.map (Value.int .u8)) from by have h1 : OwnR u B 5 1 v Z.length (Z.map (Value.int .u8)) := h; simpa using h1)
  rw [List.length_map] at e hr
  refine ⟨a, c, e, ⟨hr, hZ⟩, fun _ x ex hx => ?_, hl⟩
  subst e ex
  have ho : OwnR u B 5 1 (.slice (some x) Z.length c) Z.length (Z.map (Value.int .u8)) := h
  rcases own_open ho with ⟨q, _⟩ | ⟨g, c2, C, q, hB, _⟩
  · cases q
  · simp only [Value.slice.injEq, Option.some.injEq] at q
    obtain ⟨rfl, _⟩ := q
    have := hX _ hx
    simp only at this
    omega
/-- The elements of the map: slices as they are. -/
def RH (v : Value) : Option (DataW Value × List MemPlace) := some (.held v, [])
def keyD (s : ByteArray) : Lit := .string s.data.toList
theorem keyD_is (s : ByteArray) : WideAt.IsKeyLit (keyD s) := trivial
theorem keyD_ne {s t : ByteArray} (h : (s.toList == t.toList) = false) : keyD t ≠ keyD s := fun e => by
  unfold keyD at e
  simp only [Lit.string.injEq] at e
  rw [ByteArray.toList_eq, ByteArray.toList_eq, e] at h
  simp at h
theorem keyD_eq {s t : ByteArray} (h : (s.toList == t.toList) = true) : keyD t = keyD s := by rw [ba_ext (eq_of_beq h)]
def Link (X : List Nat) (w : World) (D : DataW Value) (L : List FileM) : Prop := Maps.IsMap D ∧ ∀ s : ByteArray, Maps.has D (keyD s) = (getF L s).isSome ∧ ∀ Z, getF L s = some Z → ∃ a c, (∀ z, D.atKey (keyD s) z = .held (.slice a Z.length c)) ∧ BytesX X w a c Z
theorem Link.empty (X : List Nat) (w : World) : Link X w (.map []) [] := ⟨Maps.isMap_empty, fun s => ⟨rfl, fun Z h => by cases h⟩⟩
theorem Link.conv {X Y : List Nat} {u w : World} {D : DataW Value} {L : List FileM} (h : Link X u D L) (hb : ∀ a c Z, BytesX X u a c Z → BytesX Y w a c Z) : Link Y w D L := ⟨h.1, fun s => ⟨(h.2 s).1, fun Z hZ => by obtain ⟨a, c, h1, h2⟩ := (h.2 s).2 Z hZ; exact ⟨a, c, h1, hb _ _ _ h2⟩⟩⟩
theorem Link.put {X : List Nat} {w : World} {D : DataW Value} {L : List FileM} (h : Link X w D L) (s : ByteArray) {a : Option Addr} {c : Nat} {Z : List Int} (hZ : BytesX X w a c Z) : Link X w (D.put (keyD s) (.held (.slice a Z.length c))) (putF L s Z) := by
  refine ⟨h.1.put _ _, fun t => ?_⟩
  rw [find_putF]
  cases e : s.toList == t.toList with
  | true =>
    rw [if_pos rfl, keyD_eq e, Maps.has_put_same h.1 (keyD_is s)]
    refine ⟨rfl, fun Z2 h2 => ?_⟩
    cases h2
    exact ⟨a, c, fun z => Maps.atKey_put_same h.1 (keyD_is s) _ z, hZ⟩
  | false =>
    rw [if_neg (by simp), Maps.has_put_other (keyD_ne e)]
    refine ⟨(h.2 t).1, fun Z2 h2 => ?_⟩
    obtain ⟨a2, c2, h3, h4⟩ := (h.2 t).2 Z2 h2
    exact ⟨a2, c2, fun z => (Maps.atKey_put_other (keyD_ne e) _ z).trans (h3 z), h4⟩
theorem Link.del {X : List Nat} {w : World} {D : DataW Value} {L : List FileM} (h : Link X w D L) (s : ByteArray) : Link X w (D.del (keyD s)) (delF L s) := by
  refine ⟨h.1.del _, fun t => ?_⟩
  rw [find_delF]
  cases e : s.toList == t.toList with
  | true =>
    rw [if_pos rfl, keyD_eq e, Maps.has_del_same]
    exact ⟨rfl, fun Z2 h2 => by cases h2⟩
  | false =>
    rw [if_neg (by simp), Maps.has_del_other (keyD_ne e)]
    refine ⟨(h.2 t).1, fun Z2 h2 => ?_⟩
    obtain ⟨a2, c2, h3, h4⟩ := (h.2 t).2 Z2 h2
    exact ⟨a2, c2, fun z => (Maps.atKey_del_other (keyD_ne e) z).trans (h3 z), h4⟩
def PMap (X : List Nat) (w : World) (p : Option Nat) (L : List FileM) (cap : Nat) : Prop := (p = none ∧ L = []) ∨ ∃ mb n D, p = some mb ∧ n ≤ cap ∧ w.ownsMap Try.prog 9 RH mb n D ∧ Link X w D L ∧ mb ∉ X
def footD (M : Nat) (v : Value) : List Nat := M :: v.ownBlock.toList
theorem footD_mem {M : Nat} {v : Value} {x : Nat} : x ∈ footD M v ↔ x = M ∨ v.ownBlock = some x := by unfold footD; simp [Option.mem_toList]
/-- A disk at M. X: blocks that none of it lies in. -/
def DAt (w : World) (M : Nat) (X F : List Nat) (d : DiskV) : Prop := ∃ (p : Option Nat) (v : Value) (T : List OpV), F = footD M v ∧ Blk w M [.map p, v] 61 ∧ PMap (X ++ F) w p d.files d.cap ∧ OwnR w M 49 4 v T.length (T.flatMap OpV.cells) ∧ T.map OpV.m = d.done ∧ (∀ o ∈ T, BytesX (X ++ F) w o.ba o.bc o.Z ∧ o.small) ∧ ∀ b ∈ X, b ∉ F
theorem ownsMap_same {H : Type} {P : Program} {k : TypeId} {R : Value → Option (DataW H × List MemPlace)} {u w : World} {b n : Nat} {D : DataW H} (h : u.ownsMap P k R b n D) (he : w.heap[b]? = u.heap[b]?) : w.ownsMap P k R b n D := by
  obtain ⟨es, clock, h1, h2⟩ := h
  exact ⟨es, clock, he.trans h1, h2⟩
theorem PMap.conv {X Y : List Nat} {u w : World} {p : Option Nat} {L : List FileM} {cap : Nat} (h : PMap X u p L cap) (hb : ∀ a c Z, BytesX X u a c Z → BytesX Y w a c Z) (hm : ∀ b, b < u.heap.size → b ∉ X → w.heap[b]? = u.heap[b]? ∧ b ∉ Y) : PMap Y w p L cap := by
  refine h.imp id ?_
  rintro ⟨mb, n, D, h1, h2, h3, h4, h5⟩
  have := hm mb h3.lt h5
  exact ⟨mb, n, D, h1, h2, ownsMap_same h3 this.1, h4.conv hb, this.2⟩
theorem DAt.lt {w : World} {M : Nat} {X F : List Nat} {d : DiskV} (h : DAt w M X F d) : ∀ b ∈ F, M ≤ b ∧ b < w.heap.size := by
  obtain ⟨p, v, T, rfl, hb, _, ho, _⟩ := h
  intro b hb2
  rcases footD_mem.1 hb2 with rfl | e
  · exact ⟨Nat.le_refl _, hb.lt⟩
  · exact ⟨(own_type ho e).1, (own_type ho e).2.1⟩
theorem DAt.later {u w : World} {M : Nat} {X F : List Nat} {d : DiskV} (h : DAt u M X F d) (hb : Below u.heap.size u w) : DAt w M X F d := by
  obtain ⟨p, v, T, h1, h2, h3, h4, h5, h6, h7⟩ := h
  exact ⟨p, v, T, h1, h2.later hb, h3.conv (fun a c Z q => q.later hb) (fun b q r => ⟨hb.block b q, r⟩), OwnR.later h4 hb, h5, fun o ho => ⟨(h6 o ho).1.later hb, (h6 o ho).2⟩, h7⟩
/-- Writing in X. -/
theorem DAt.mine {u w : World} {M : Nat} {X F : List Nat} {d : DiskV} (h : DAt u M X F d) (hA : Apart X u w) : DAt w M X F d := by
  obtain ⟨p, v, T, rfl, h2, h3, h4, h5, h6, h7⟩ := h
  exact ⟨p, v, T, rfl, h2.apart hA (fun q => h7 M q (footD_mem.2 (.inl rfl))), h3.conv (fun a c Z q => q.apart hA (fun b hb => List.mem_append_left _ hb)) (fun b q r => ⟨hA.block b q (fun z => r (List.mem_append_left _ z)), r⟩), own_same h4 (fun g e => hA.block g (own_type h4 e).2.1 (fun q => h7 g q (footD_mem.2 (.inr e)))), h5, fun o ho => ⟨(h6 o ho).1.apart hA (fun b hb => List.mem_append_left _ hb), (h6 o ho).2⟩, h7⟩
/-- Blocks that are made later, or were set apart before. -/
theorem DAt.more {u : World} {M : Nat} {X Y F : List Nat} {d : DiskV} (h : DAt u M X F d) (hY : ∀ b ∈ Y, b ∈ X ∨ u.heap.size ≤ b) : DAt u M Y F d := by
  have hlt := h.lt
  obtain ⟨p, v, T, h1, h2, h3, h4, h5, h6, h7⟩ := h
  have hY2 : ∀ b ∈ Y ++ F, b ∈ X ++ F ∨ u.heap.size ≤ b := fun b hb => by
    rcases List.mem_append.1 hb with q | q
    · exact (hY b q).imp (fun z => List.mem_append_left F z) id
    · exact .inl (List.mem_append_right X q)
  refine ⟨p, v, T, h1, h2, h3.conv (fun a c Z q => q.more hY2) (fun b q r => ⟨rfl, fun hb => (hY2 b hb).elim r (fun z => by omega)⟩), h4, h5, fun o ho => ⟨(h6 o ho).1.more hY2, (h6 o ho).2⟩, fun b hb hF => (hY b hb).elim (fun z => h7 b z hF) (fun z => by have := (hlt b hF).2; omega)⟩
/-- A disk did something: what it has, and all else but its own blocks. -/
theorem own_ne_blk {u : World} {B k n M : Nat} {E T : TypeId} {v : Value} {cs C : List Value} (h : OwnR u B E k v n cs) (hb : Blk u M C T) (hne : E ≠ T) : v.ownBlock ≠ some M := fun e => by
  obtain ⟨_, _, C2, h2⟩ := own_type h e
  exact hne (h2.type hb)
def DTo (u w : World) (M : Nat) (X F : List Nat) (d : DiskV) : Prop := ∃ G, DAt w M X G d ∧ Apart F u w ∧ ∀ b ∈ G, b ∈ F ∨ u.heap.size ≤ b
theorem DTo.refl {u w : World} {M : Nat} {X F : List Nat} {d : DiskV} (h : DAt u M X F d) (hb : Below u.heap.size u w) : DTo u w M X F d := ⟨F, h.later hb, Apart.of_below hb, fun b hb => .inl hb⟩
end Go.Proofs.Ytcbblgeleboggaa
