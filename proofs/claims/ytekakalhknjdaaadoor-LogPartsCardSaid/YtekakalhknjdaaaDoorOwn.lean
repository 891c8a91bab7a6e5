
/- Rows of integers that the call owns: their shape, a store into them, bytes that are turned. -/
import Derived.Test.YtekakalhknjdaaaDoorBase
import Derived.Laws.Bits64
import Derived.Laws.OwnMore
import Derived.Laws.Append
import Derived.ArgAppend
namespace Go.Proofs.YtekakalhknjdaaaDoor
open Go.RowKit
set_option linter.unusedVariables false

theorem OwnI.shape {w : World} {B : Nat} {e : TypeId} {k : IntKind} {v : Value} {l : List Int} (h : OwnI w B e k v l) :
    (v = .slice none 0 0 ∧ l = []) ∨ ∃ g cap, v = .slice (some ⟨g, 0, none⟩) l.length cap ∧ B ≤ g ∧ g < w.heap.size ∧ l.length ≤ cap ∧ cap ≤ 9223372036854775807 := by
  have h' := h
  obtain ⟨h1, h2⟩ := h
  rcases h2 with ⟨rfl, hn⟩ | ⟨g, cap, cur, rfl, hg, hh, hl, hm, hc, ht⟩
  · exact .inl ⟨rfl, List.eq_nil_of_length_eq_zero hn⟩
  · exact .inr ⟨g, cap, rfl, hg, (Array.getElem?_eq_some_iff.1 hh).1, hl, by unfold maxLen at hm; omega⟩
theorem OwnI.cellAt {w : World} {B : Nat} {e : TypeId} {k : IntKind} {g n cap : Nat} {l : List Int} (hn : n = l.length) (h : OwnI w B e k (.slice (some ⟨g, 0, none⟩) n cap) l) {i : Nat} (hi : i < n) : w.cell? ⟨g, i, none⟩ = some (.int k (el l i)) := by
  subst hn
  have := World.ownsRow.cellAt h i (by omega)
  rw [this]; simp [el, hi]
theorem OwnI.frozenAt {w : World} {B : Nat} {e : TypeId} {k : IntKind} {g n cap : Nat} {l : List Int} (hn : n = l.length) (h : OwnI w B e k (.slice (some ⟨g, 0, none⟩) n cap) l) (i : Nat) : w.frozen? ⟨g, i, none⟩ = false := by
  subst hn; exact World.ownsRow.frozenAt h i
theorem OwnI.set {w : World} {B : Nat} {e : TypeId} {k : IntKind} {g n cap : Nat} {l : List Int} (hn : n = l.length) (h : OwnI w B e k (.slice (some ⟨g, 0, none⟩) n cap) l) (i : Nat) (u : Int) : OwnI (w.setCell ⟨g, i, none⟩ (.int k u)) B e k (.slice (some ⟨g, 0, none⟩) n cap) (l.set i u) := by
  subst hn
  unfold OwnI at *
  rw [List.length_set, List.map_set]
  exact (World.ownsRow.stored h i (.int k u)).1
theorem OwnI.later {w w' : World} {B : Nat} {e : TypeId} {k : IntKind} {v : Value} {l : List Int} (h : OwnI w B e k v l) (hb : Below w.heap.size w w') : OwnI w' B e k v l := OwnR.later h hb
theorem OwnI.setFar {w : World} {B : Nat} {e : TypeId} {k : IntKind} {v : Value} {l : List Int} (h : OwnI w B e k v l) {a : Addr} (ha : a.block < B) (u : Value) : OwnI (w.setCell a u) B e k v l := OwnR.setCell h ha u
theorem OwnI.mono {w : World} {B B' : Nat} {e : TypeId} {k : IntKind} {v : Value} {l : List Int} (h : OwnI w B e k v l) (hB : B' ≤ B) : OwnI w B' e k v l := OwnR.mono h hB

/-- Bytes, turned by one another. -/
theorem wrap_u8 (n : Int) : IntKind.u8.wrap n = n % 256 := by simp [IntKind.wrap, IntKind.bits, IntKind.signed]
theorem xor8 (a b : Nat) (ha : a < 256) (hb : b < 256) : bits .xor .u8 (a : Int) (b : Int) = ((a ^^^ b : Nat) : Int) := by
  have hx : a ^^^ b < 2 ^ 8 := Nat.xor_lt_two_pow (by omega) (by omega)
  have h1 : (BitVec.ofInt 8 (a : Int)).toNat = a := by rw [BitVec.ofInt_natCast, BitVec.toNat_ofNat]; exact Nat.mod_eq_of_lt (by omega)
  have h2 : (BitVec.ofInt 8 (b : Int)).toNat = b := by rw [BitVec.ofInt_natCast, BitVec.toNat_ofNat]; exact Nat.mod_eq_of_lt (by omega)
  show IntKind.u8.wrap ((BitVec.ofInt 8 (a : Int) ^^^ BitVec.ofInt 8 (b : Int)).toNat : Int) = _
  rw [BitVec.toNat_xor, h1, h2, wrap_u8]
  omega
theorem xor8_bd (a b : Int) : 0 ≤ bits .xor .u8 a b ∧ bits .xor .u8 a b ≤ 255 := by
  show 0 ≤ IntKind.u8.wrap _ ∧ IntKind.u8.wrap _ ≤ 255
  rw [wrap_u8]; omega
theorem OwnI.open {w : World} {B : Nat} {e : TypeId} {k : IntKind} {a : Option Addr} {n cap : Nat} {l : List Int} (h : OwnI w B e k (.slice a n cap) l) (hn : l.length = n) (h0 : 0 < n) :
    ∃ g, a = some ⟨g, 0, none⟩ ∧ B ≤ g ∧ g < w.heap.size ∧ n ≤ cap ∧ cap ≤ 9223372036854775807 := by
  subst hn
  rcases h.shape with ⟨e1, e2⟩ | ⟨g, c, e1, h1, h2, h3, h4⟩
  · subst e2; simp at h0
  · simp at e1
    obtain ⟨rfl, rfl⟩ := e1
    exact ⟨g, rfl, h1, h2, h3, h4⟩

/-! Several rows of the call's own, each in a block of its own. -/
def Sep (v y : Value) : Prop := ∀ h, v.ownBlock = some h → y.ownBlock ≠ some h
theorem Sep.symm {v y : Value} (h : Sep v y) : Sep y v := fun k h1 h2 => h k h2 h1
theorem Sep.nilL (y : Value) : Sep (.slice none 0 0) y := fun k h => by simp [Value.ownBlock] at h
theorem Sep.nilR (y : Value) : Sep y (.slice none 0 0) := (Sep.nilL y).symm
/-- Where a row lies behind an append: where it lay, or in a new block. -/
def Moved (w : World) (v v' : Value) : Prop := ∀ h, v'.ownBlock = some h → v.ownBlock = some h ∨ w.heap.size ≤ h
theorem Moved.sep {w : World} {B : Nat} {e : TypeId} {size : Nat} {v v' y : Value} {n : Nat} {cs : List Value} (hm : Moved w v v') (hy : OwnR w B e size y n cs) (hs : Sep v y) : Sep v' y := fun k h1 h2 => by
  rcases hm k h1 with q | q
  · exact hs k q h2
  · have := (World.ownsRow.lt hy k h2).2; omega
theorem OwnR.sep {w w' : World} {B : Nat} {e : TypeId} {size : Nat} {v y : Value} {n : Nat} {cs : List Value} (hy : OwnR w B e size y n cs) (hg : w.grownBy w' v.ownBlock) (hs : Sep v y) : OwnR w' B e size y n cs := by
  refine World.ownsRow.kept hy hg ?_
  cases hb : y.ownBlock with
  | none => exact .inl rfl
  | some k => exact .inr fun e1 => hs k e1.symm hb
theorem ok_inj {α : Type} {v v' : α} {w w' : World} (h : (Result.ok v w : Result α) = .ok v' w') : v = v' := by
  cases h; rfl

theorem run_app_moved {P : Program} (w : World) (t ty : TypeId) (B : Nat) (e : TypeId) (i : TypeInfo) (z : Value) (size : Nat) (ht : P.underlying t = some (.slice e)) (hi : P.info? e = some i) (hz : i.zero = some z)
    (hsize : i.size = size) (hzs : z.cells.size = size) (hsz : 0 < size)
    (v : Value) (n : Nat) (xs : List Value) (hown : w.ownsRow B e size v n xs)
    (a : Addr) (m c : Nat) (news : List Value) (hl : news.length = m * size) (hnews : ∀ j u, news[j]? = some u → w.cell? (a.add j) = some u) (h1 : ∀ u ∈ news, u.oneCell' = true)
    (h63 : n + m ≤ maxLen) (hbytes : (n + m) * i.bytes ≤ 140737488355328) {v' : Value} {w' : World} (hr : (Builtin.append_ #[t, t] ty #[v, .slice (some a) m c]).run P w = .ok v' w') : Moved w v v' := by
  have hsmall : n + m ≤ 9223372036854775807 := by simp only [maxLen] at h63; omega
  have hown' := hown
  rcases hown.2 with ⟨rfl, rfl⟩ | ⟨g, cap, cur, rfl, hbg, hg, hnc, hcm, hcs, htake⟩
  · have hx : xs = [] := List.eq_nil_of_length_eq_zero (by simpa using hown.1)
    subst hx
    obtain ⟨v2, w2, hr2, ho2, _, _⟩ := run_append_own (P := P) w w.heap.size t ty e i z size i.bytes ht hi hz hsize rfl hzs hsz (.slice none 0 0) 0 [] (World.ownsRow_nil w _ e size) a m c news hl hnews h1 h63 hbytes (Nat.le_refl _)
    rw [hr] at hr2
    obtain rfl := ok_inj hr2
    exact fun k hk => .inr (World.ownsRow.lt ho2 k hk).1
  · by_cases hroom : n + m ≤ cap
    · obtain ⟨w2, hr2, _⟩ := run_append_fits (P := P) w B t ty e i size ht hi hsize g n cap xs hown' a m c news hl hnews h1 hroom
      rw [hr] at hr2
      obtain rfl := ok_inj hr2
      exact fun k hk => .inl hk
    · subst hsize
      have holds : ∀ j u, xs[j]? = some u → w.cell? ((⟨g, 0, none⟩ : Addr).add j) = some u := World.ownsRow.cells hown' (g := g) rfl
      have hr2 := run_append_grow (P := P) w t ty e i z ht hi hz ⟨g, 0, none⟩ n cap xs hown'.1 holds a m c news hl hnews (by omega) (by omega) (growslice_fits (by omega) hbytes)
      rw [hr] at hr2
      obtain rfl := ok_inj hr2
      intro k hk
      simp [Value.ownBlock] at hk
      exact .inr (by omega)

/-- 'append(own, xs...)', elements of any size, with what is told of where it lies then. -/
theorem wpList_app_sep {P : Program} {w : World} {ops : Array Oper} {rest : List Oper} {o : Oper} {a : Act} {Q : Exit → Act → World → Prop} (hgd : o.guard = none) (s x : Operand) (t : TypeId)
    (ho : o.op = .call { callee := .builtin .append, args := #[s, x], argTypes := #[t, t] })
    (B : Nat) (e : TypeId) (z : Value) (size bytes : Nat) (ht : P.underlying t = some (.slice e)) (hi : (P.info? e).map (fun i => (i.zero, i.size, i.bytes)) = some (some z, size, bytes))
    (hzs : z.cells.size = size) (hsz : 0 < size)
    (v : Value) (n : Nat) (cs : List Value) (hs : a.eval s = v) (hown : OwnR w B e size v n cs)
    (ad : Addr) (len cap : Nat) (ds : List Value) (hx : a.eval x = .slice (some ad) len cap) (hr : Row w (some ad) len cap size ds) (hone : ∀ u ∈ ds, u.oneCell' = true)
    (hm : n + len ≤ maxLen) (hby : (n + len) * bytes ≤ 140737488355328) (hB : B ≤ w.heap.size)
    (h : ∀ v' w', OwnR w' B e size v' (n + len) (cs ++ ds) → Below B w w' → w.grownBy w' v.ownBlock → Moved w v v' → wpList P ops Q rest (a.put o.dst v') w') : wpList P ops Q (o :: rest) a w := by
  obtain ⟨i, hi0, hz, hszi, hbs⟩ : ∃ i, P.info? e = some i ∧ i.zero = some z ∧ i.size = size ∧ i.bytes = bytes := by
    cases hp : P.info? e with
    | none => rw [hp] at hi; simp at hi
    | some i => rw [hp] at hi; simp at hi; exact ⟨i, rfl, hi.1, hi.2.1, hi.2.2⟩
  obtain ⟨r1, r2, r3, r4, r5⟩ := hr
  have hnews : ∀ j u, ds[j]? = some u → w.cell? (ad.add j) = some u := by
    intro j u hj
    rcases r5 with r5 | ⟨b, off, e1, hc⟩
    · rw [r5] at hj; cases hj
    · cases e1
      have hjl : j < ds.length := by
        rcases Nat.lt_or_ge j ds.length with q | q
        · exact q
        · rw [List.getElem?_eq_none q] at hj; cases hj
      have := hc j hjl
      rw [hj] at this
      have e2 : (⟨b, off, none⟩ : Addr).add j = ⟨b, off + j, none⟩ := by cases j <;> simp [Addr.add]
      rw [e2]; exact this
  refine wpList_plain hgd fun K hK => ?_
  obtain ⟨v', w', hr, h2, h3, _⟩ := run_append_own (P := P) w B t o.type e i z size bytes ht hi0 hz hszi hbs hzs hsz v n cs hown ad len cap ds r1 hnews hone hm hby hB
  have hmv := run_app_moved w t o.type B e i z size ht hi0 hz hszi hzs hsz v n cs hown ad len cap ds r1 hnews hone hm (by rw [hbs]; exact hby) hr
  unfold Oper.wp execOp
  simp only [ho, resolve, invoke, builtin, Sem.run_bind, Sem.run_pure, Result.andThen_ok, List.map_toArray, List.map_cons, List.map_nil, hs, hx, hr]
  exact hK _ _ (h v' w' h2 ((Below.refl B w).grown h3 hB fun q hq => (World.ownsRow.lt hown q hq).1) h3 hmv)

/-- 'append(own, x)', one number. -/
theorem wpList_app_one {P : Program} {w : World} {ops : Array Oper} {rest : List Oper} {o : Oper} {a : Act} {Q : Exit → Act → World → Prop} (hgd : o.guard = none) (s x : Operand) (t : TypeId)
    (ho : o.op = .call { callee := .builtin .append, args := #[s, x], argTypes := #[t, t] })
    (B : Nat) (e : TypeId) (k : IntKind) (bytes : Nat) (ht : P.underlying t = some (.slice e)) (hi : (P.info? e).map (fun i => (i.zero, i.size, i.bytes)) = some (some (.int k 0), 1, bytes))
    (v : Value) (l : List Int) (hs : a.eval s = v) (hown : OwnI w B e k v l)
    (ad : Addr) (c : Int) (hx : a.eval x = .slice (some ad) 1 1) (hc : w.cell? ad = some (.int k c))
    (hm : l.length + 1 ≤ maxLen) (hby : (l.length + 1) * bytes ≤ 140737488355328) (hB : B ≤ w.heap.size)
    (h : ∀ v' w', OwnI w' B e k v' (l ++ [c]) → Below B w w' → w.grownBy w' v.ownBlock → Moved w v v' → wpList P ops Q rest (a.put o.dst v') w') : wpList P ops Q (o :: rest) a w := by
  obtain ⟨b, off, sp⟩ := ad
  obtain rfl : sp = none := World.cell?_spot hc
  refine wpList_app_sep hgd s x t ho B e (.int k 0) 1 bytes ht hi rfl (by decide) v l.length _ hs hown ⟨b, off, none⟩ 1 1 [.int k c] hx ⟨rfl, Nat.le_refl _, by unfold maxLen; omega, (fun h => by cases h), .inr ⟨b, off, rfl, fun i hi => ?_⟩⟩ (fun u hu => by simp at hu; subst hu; rfl) hm hby hB (fun v' w' h1 h2 h3 h4 => h v' w' ?_ h2 h3 h4)
  · simp at hi; subst hi; exact hc
  · unfold OwnI; rw [List.map_append, List.length_append]; exact h1
theorem OwnI.sep {w w' : World} {B : Nat} {e : TypeId} {k : IntKind} {v y : Value} {l : List Int} (hy : OwnI w B e k y l) (hg : w.grownBy w' v.ownBlock) (hs : Sep v y) : OwnI w' B e k y l := OwnR.sep hy hg hs
theorem Moved.sepI {w : World} {B : Nat} {e : TypeId} {k : IntKind} {v v' y : Value} {l : List Int} (hm : Moved w v v') (hy : OwnI w B e k y l) (hs : Sep v y) : Sep v' y := Moved.sep hm hy hs

/-- 'append(x, y...)' of whatever row, where it must grow. -/
theorem wpList_app_grow {P : Program} {w : World} {ops : Array Oper} {rest : List Oper} {o : Oper} {a : Act} {Q : Exit → Act → World → Prop} (hgd : o.guard = none) (s x : Operand) (t : TypeId)
    (ho : o.op = .call { callee := .builtin .append, args := #[s, x], argTypes := #[t, t] })
    (e : TypeId) (k : IntKind) (bytes : Nat) (ht : P.underlying t = some (.slice e)) (hi : (P.info? e).map (fun i => (i.zero, i.size, i.bytes)) = some (some (.int k 0), 1, bytes))
    (ao : Option Addr) (n cap : Nat) (l : List Int) (hs : a.eval s = .slice ao n cap) (hold : Ints k w ao n cap l)
    (sa : Option Addr) (len c : Nat) (zs : List Int) (hx : a.eval x = .slice sa len c) (hr : Ints k w sa len c zs) (h0 : 0 < len)
    (hfull : cap < n + len) (hm : n + len ≤ maxLen) (hby : (n + len) * bytes ≤ 140737488355328)
    (h : ∀ v' w', OwnI w' w.heap.size e k v' (l ++ zs) → Below w.heap.size w w' → wpList P ops Q rest (a.put o.dst v') w') : wpList P ops Q (o :: rest) a w := by
  obtain ⟨i, hi0, hz, hsz, hbs⟩ : ∃ i, P.info? e = some i ∧ i.zero = some (.int k 0) ∧ i.size = 1 ∧ i.bytes = bytes := by
    cases hp : P.info? e with
    | none => rw [hp] at hi; simp at hi
    | some i => rw [hp] at hi; simp at hi; exact ⟨i, rfl, hi.1, hi.2.1, hi.2.2⟩
  obtain ⟨b, off, rfl, hlt, hc⟩ := hr.opened h0
  have hb1 := hold.bounds.1
  have hb2 := hr.bounds.1
  have e2 : ∀ (b off j : Nat), (⟨b, off, none⟩ : Addr).add j = ⟨b, off + j, none⟩ := fun b off j => by cases j <;> simp [Addr.add]
  have get : ∀ (l : List Int) (j : Nat) (u : Value), (l.map (Value.int k))[j]? = some u → j < l.length ∧ u = .int k (el l j) := fun l j u hj => by
    rw [List.getElem?_map] at hj
    cases hq : l[j]? with
    | none => rw [hq] at hj; cases hj
    | some m =>
      rw [hq] at hj
      obtain ⟨h1, h2⟩ := List.getElem?_eq_some_iff.1 hq
      refine ⟨h1, ?_⟩
      simp at hj
      rw [← hj]; unfold el
      rw [List.getD_eq_getElem?_getD, hq]; rfl
  refine wpList_append_grows w hgd s x t ho e i (.int k 0) 1 bytes ht hi0 hz hsz hbs rfl (by decide) ao n cap (l.map (Value.int k)) hs ?_ (by simp; exact hb1) ?_ ⟨b, off, none⟩ len c (zs.map (Value.int k)) hx (by simp; exact hb2) ?_ ?_ hfull hm hby ?_
  · intro e; obtain ⟨⟨_, _, _, h4, _⟩, _⟩ := hold; exact h4 e
  · intro b' eb j u hj
    obtain ⟨q1, q2⟩ := get l j u hj
    obtain ⟨b3, off3, e3, _, hc3⟩ := hold.opened (by omega)
    rw [eb] at e3; cases e3
    rw [e2, hc3 j (by omega), q2]
  · intro j u hj
    obtain ⟨q1, q2⟩ := get zs j u hj
    rw [e2, hc j (by omega), q2]
  · intro u hu
    obtain ⟨n, _, rfl⟩ := List.mem_map.1 hu
    rfl
  · intro v' w' h1 h2
    refine h v' w' ?_ ((Below.refl _ w).grown h2 (Nat.le_refl _) (fun q hq => by cases hq))
    unfold OwnI
    rw [List.map_append, List.length_append, hb1, hb2]
    exact h1
end Go.Proofs.YtekakalhknjdaaaDoor
