
/- Appends as one operation of a region that draws its order; rows cut at both ends; for any kind of row. -/
import Derived.Test.YtekakalhknjdaaaDoorRowK
import Derived.Test.YtekakalhknjdaaaDoorGwM
import Derived.Test.YtekakalhknjdaaaDoorKrip
import Derived.Test.YtekakalhknjdaaaDoorOwn
import Derived.ArgAppend
namespace Go.Proofs.YtekakalhknjdaaaDoor
open Go.RowKit
set_option linter.unusedVariables false
set_option linter.unusedSimpArgs false
section
variable {P : Program} {w : World} {o : Oper} {a : Act} {K : Act → World → Prop} {Q : Exit → Act → World → Prop} {E : Prop}
theorem row_news {w : World} {ad : Addr} {len cap size : Nat} {ds : List Value} (hr : Row w (some ad) len cap size ds) : ∀ j u, ds[j]? = some u → w.cell? (ad.add j) = some u := by
  obtain ⟨r1, r2, r3, r4, r5⟩ := hr
  intro j u hj
  rcases r5 with r5 | ⟨b, off, e1, hc⟩
  · rw [r5] at hj; cases hj
  · cases e1
    have hjl : j < ds.length := by
      rcases Nat.lt_or_ge j ds.length with q | q
      · exact q
      · rw [List.getElem?_eq_none q] at hj; cases hj
    have := hc j hjl
    rw [hj] at this
    have e2 : (⟨b, off, none⟩ : Addr).add j = ⟨b, off + j, none⟩ := by cases j <;> simp [Addr.add]
    rw [e2]; exact this
/-- 'append([]x{}, row...)': the world only grows. -/
theorem op_first {ops : Array Oper} {tm : Array Value} (hg : o.guard = none) (s x : Operand) (t : TypeId)
    (ho : o.op = .call { callee := .builtin .append, args := #[s, x], argTypes := #[t, t] })
    (B : Nat) (e : TypeId) (z : Value) (size bytes : Nat) (ht : P.underlying t = some (.slice e)) (hi : (P.info? e).map (fun i => (i.zero, i.size, i.bytes)) = some (some z, size, bytes))
    (hzs : z.cells.size = size) (hsz : 0 < size)
    (g : Nat) (hs : a.eval s = .slice (some ⟨g, 0, none⟩) 0 0) (hown : OwnR w B e size (.slice (some ⟨g, 0, none⟩) 0 0) 0 [])
    (sa : Option Addr) (len cap : Nat) (ds : List Value) (hx : a.eval x = .slice sa len cap) (hr : Row w sa len cap size ds) (hone : ∀ u ∈ ds, u.oneCell' = true)
    (hm : len ≤ maxLen) (hby : len * bytes ≤ 140737488355328) (hB : B ≤ w.heap.size)
    (h : ∀ v' w', OwnR w' B e size v' len ds → Below w.heap.size w w' → K (a.put o.dst v') w') : if Region.wanted o (yielded ops tm) = true then Oper.wp P o a w K Q else E := by
  have hw : Region.wanted o (yielded ops tm) = true := by simp [Region.wanted, hg]
  rw [if_pos hw]
  obtain ⟨i, hi0, hz, hszi, hbs⟩ : ∃ i, P.info? e = some i ∧ i.zero = some z ∧ i.size = size ∧ i.bytes = bytes := by
    cases hp : P.info? e with
    | none => rw [hp] at hi; simp at hi
    | some i => rw [hp] at hi; simp at hi; exact ⟨i, rfl, hi.1, hi.2.1, hi.2.2⟩
  have hgo : ∀ v' w', (Builtin.append_ #[t, t] o.type #[.slice (some ⟨g, 0, none⟩) 0 0, .slice sa len cap]).run P w = .ok v' w' → OwnR w' B e size v' len ds → Below w.heap.size w w' → Oper.wp P o a w K Q := by
    intro v' w' hrun h2 h3
    unfold Oper.wp execOp
    simp only [ho, resolve, invoke, builtin, Sem.run_bind, Sem.run_pure, Result.andThen_ok, List.map_toArray, List.map_cons, List.map_nil, hs, hx, hrun]
    exact h v' w' h2 h3
  have hr' := hr
  obtain ⟨r1, r2, r3, r4, r5⟩ := hr
  cases sa with
  | none =>
    obtain ⟨rfl, rfl⟩ := r4 rfl
    obtain rfl : ds = [] := List.eq_nil_of_length_eq_zero (by omega)
    exact hgo _ _ (run_append_owned_none (P := P) w B t o.type e i size ht hi0 _ 0 [] hown) hown (Below.refl _ _)
  | some ad =>
    have hnews := row_news hr'
    by_cases h0 : len = 0
    · subst h0
      obtain rfl : ds = [] := List.eq_nil_of_length_eq_zero (by omega)
      refine hgo _ _ (run_append_room_cells (P := P) (w := w) t o.type e i ht hi0 g 0 0 0 ad 0 cap [] (by simp) (by simp) (by simp) (by omega) (by simp) (by simp)) ?_ (by exact Below.refl _ _)
      exact hown
    · subst hszi
      subst hbs
      have hrun := run_append_grow (P := P) (w := w) t o.type e i z ht hi0 hz ⟨g, 0, none⟩ 0 0 [] (by simp) (by simp) ad len cap ds r1 hnews (by omega) (by unfold maxLen at hm; omega) (growslice_fits (by omega) (by rw [Nat.zero_add]; exact hby))
      obtain ⟨v', w', hrun2, h2, h3, _⟩ := run_append_own (P := P) w B t o.type e i z i.size i.bytes ht hi0 hz rfl rfl hzs hsz (.slice (some ⟨g, 0, none⟩) 0 0) 0 [] hown ad len cap ds r1 hnews hone (by omega) (by rw [Nat.zero_add]; exact hby) hB
      have he := hrun2
      rw [hrun] at he
      cases he
      rw [List.nil_append] at h2
      rw [show 0 + len = len from Nat.zero_add len] at hrun2 h2
      exact hgo _ _ hrun2 h2 (belAlloc (belDrew (Below.refl _ _)) _)
/-- 'append(own, row...)' as one operation of a region that draws its order. -/
theorem op_appR {ops : Array Oper} {tm : Array Value} (hg : o.guard = none) (s x : Operand) (t : TypeId)
    (ho : o.op = .call { callee := .builtin .append, args := #[s, x], argTypes := #[t, t] })
    (B : Nat) (e : TypeId) (z : Value) (size bytes : Nat) (ht : P.underlying t = some (.slice e)) (hi : (P.info? e).map (fun i => (i.zero, i.size, i.bytes)) = some (some z, size, bytes))
    (hzs : z.cells.size = size) (hsz : 0 < size)
    (v : Value) (n : Nat) (cs : List Value) (hs : a.eval s = v) (hown : OwnR w B e size v n cs)
    (ad : Addr) (len cap : Nat) (ds : List Value) (hx : a.eval x = .slice (some ad) len cap) (hr : Row w (some ad) len cap size ds) (hone : ∀ u ∈ ds, u.oneCell' = true)
    (hm : n + len ≤ maxLen) (hby : (n + len) * bytes ≤ 140737488355328) (hB : B ≤ w.heap.size)
    (h : ∀ v' w', OwnR w' B e size v' (n + len) (cs ++ ds) → Below B w w' → K (a.put o.dst v') w') : if Region.wanted o (yielded ops tm) = true then Oper.wp P o a w K Q else E := by
  have hw : Region.wanted o (yielded ops tm) = true := by simp [Region.wanted, hg]
  rw [if_pos hw]
  obtain ⟨i, hi0, hz, hszi, hbs⟩ : ∃ i, P.info? e = some i ∧ i.zero = some z ∧ i.size = size ∧ i.bytes = bytes := by
    cases hp : P.info? e with
    | none => rw [hp] at hi; simp at hi
    | some i => rw [hp] at hi; simp at hi; exact ⟨i, rfl, hi.1, hi.2.1, hi.2.2⟩
  have hnews := row_news hr
  obtain ⟨r1, r2, r3, r4, r5⟩ := hr
  obtain ⟨v', w', hrun, h2, h3, _⟩ := run_append_own (P := P) w B t o.type e i z size bytes ht hi0 hz hszi hbs hzs hsz v n cs hown ad len cap ds r1 hnews hone hm hby hB
  unfold Oper.wp execOp
  simp only [ho, resolve, invoke, builtin, Sem.run_bind, Sem.run_pure, Result.andThen_ok, List.map_toArray, List.map_cons, List.map_nil, hs, hx, hrun]
  exact h v' w' h2 ((Below.refl B w).grown h3 hB fun q hq => (World.ownsRow.lt hown q hq).1)
/-- 'append(own, row...)', where the row may be nil. -/
theorem op_appO {ops : Array Oper} {tm : Array Value} (hg : o.guard = none) (s x : Operand) (t : TypeId)
    (ho : o.op = .call { callee := .builtin .append, args := #[s, x], argTypes := #[t, t] })
    (B : Nat) (e : TypeId) (z : Value) (size bytes : Nat) (ht : P.underlying t = some (.slice e)) (hi : (P.info? e).map (fun i => (i.zero, i.size, i.bytes)) = some (some z, size, bytes))
    (hzs : z.cells.size = size) (hsz : 0 < size)
    (v : Value) (n : Nat) (cs : List Value) (hs : a.eval s = v) (hown : OwnR w B e size v n cs)
    (sa : Option Addr) (len cap : Nat) (ds : List Value) (hx : a.eval x = .slice sa len cap) (hr : Row w sa len cap size ds) (hone : ∀ u ∈ ds, u.oneCell' = true)
    (hm : n + len ≤ maxLen) (hby : (n + len) * bytes ≤ 140737488355328) (hB : B ≤ w.heap.size)
    (h : ∀ v' w', OwnR w' B e size v' (n + len) (cs ++ ds) → Below B w w' → K (a.put o.dst v') w') : if Region.wanted o (yielded ops tm) = true then Oper.wp P o a w K Q else E := by
  cases sa with
  | some ad => exact op_appR hg s x t ho B e z size bytes ht hi hzs hsz v n cs hs hown ad len cap ds hx hr hone hm hby hB h
  | none =>
    have hw : Region.wanted o (yielded ops tm) = true := by simp [Region.wanted, hg]
    rw [if_pos hw]
    obtain ⟨i, hi0, hz, hszi, hbs⟩ : ∃ i, P.info? e = some i ∧ i.zero = some z ∧ i.size = size ∧ i.bytes = bytes := by
      cases hp : P.info? e with
      | none => rw [hp] at hi; simp at hi
      | some i => rw [hp] at hi; simp at hi; exact ⟨i, rfl, hi.1, hi.2.1, hi.2.2⟩
    obtain ⟨r1, r2, r3, r4, r5⟩ := hr
    obtain ⟨rfl, rfl⟩ := r4 rfl
    obtain rfl : ds = [] := List.eq_nil_of_length_eq_zero (by omega)
    have hrun := run_append_owned_none (P := P) w B t o.type e i size ht hi0 v n cs hown
    unfold Oper.wp execOp
    simp only [ho, resolve, invoke, builtin, Sem.run_bind, Sem.run_pure, Result.andThen_ok, List.map_toArray, List.map_cons, List.map_nil, hs, hx, hrun]
    exact h v w (by rw [Nat.add_zero, List.append_nil]; exact hown) (Below.refl B w)
theorem op_firstG {ops : Array Oper} {tm : Array Value} (hw : Region.wanted o (yielded ops tm) = true) (s x : Operand) (t : TypeId)
    (ho : o.op = .call { callee := .builtin .append, args := #[s, x], argTypes := #[t, t] })
    (B : Nat) (e : TypeId) (z : Value) (size bytes : Nat) (ht : P.underlying t = some (.slice e)) (hi : (P.info? e).map (fun i => (i.zero, i.size, i.bytes)) = some (some z, size, bytes))
    (hzs : z.cells.size = size) (hsz : 0 < size)
    (g : Nat) (hs : a.eval s = .slice (some ⟨g, 0, none⟩) 0 0) (hown : OwnR w B e size (.slice (some ⟨g, 0, none⟩) 0 0) 0 [])
    (sa : Option Addr) (len cap : Nat) (ds : List Value) (hx : a.eval x = .slice sa len cap) (hr : Row w sa len cap size ds) (hone : ∀ u ∈ ds, u.oneCell' = true)
    (hm : len ≤ maxLen) (hby : len * bytes ≤ 140737488355328) (hB : B ≤ w.heap.size)
    (h : ∀ v' w', OwnR w' B e size v' len ds → Below w.heap.size w w' → K (a.put o.dst v') w') : if Region.wanted o (yielded ops tm) = true then Oper.wp P o a w K Q else E := by
  rw [if_pos hw]
  have h1 := op_first (o := { o with guard := none }) (a := a) (K := K) (Q := Q) (E := E) (ops := ops) (tm := tm) rfl s x t ho B e z size bytes ht hi hzs hsz g hs hown sa len cap ds hx hr hone hm hby hB h
  rw [if_pos (by simp [Region.wanted])] at h1
  exact h1
theorem op_appG {ops : Array Oper} {tm : Array Value} (hw : Region.wanted o (yielded ops tm) = true) (s x : Operand) (t : TypeId)
    (ho : o.op = .call { callee := .builtin .append, args := #[s, x], argTypes := #[t, t] })
    (B : Nat) (e : TypeId) (z : Value) (size bytes : Nat) (ht : P.underlying t = some (.slice e)) (hi : (P.info? e).map (fun i => (i.zero, i.size, i.bytes)) = some (some z, size, bytes))
    (hzs : z.cells.size = size) (hsz : 0 < size)
    (v : Value) (n : Nat) (cs : List Value) (hs : a.eval s = v) (hown : OwnR w B e size v n cs)
    (sa : Option Addr) (len cap : Nat) (ds : List Value) (hx : a.eval x = .slice sa len cap) (hr : Row w sa len cap size ds) (hone : ∀ u ∈ ds, u.oneCell' = true)
    (hm : n + len ≤ maxLen) (hby : (n + len) * bytes ≤ 140737488355328) (hB : B ≤ w.heap.size)
    (h : ∀ v' w', OwnR w' B e size v' (n + len) (cs ++ ds) → Below B w w' → K (a.put o.dst v') w') : if Region.wanted o (yielded ops tm) = true then Oper.wp P o a w K Q else E := by
  rw [if_pos hw]
  have h1 := op_appO (o := { o with guard := none }) (a := a) (K := K) (Q := Q) (E := E) (ops := ops) (tm := tm) rfl s x t ho B e z size bytes ht hi hzs hsz v n cs hs hown sa len cap ds hx hr hone hm hby hB h
  rw [if_pos (by simp [Region.wanted])] at h1
  exact h1
end
theorem own_empty (w : World) (e : TypeId) (k : Nat) : OwnR (w.alloc (.cells #[] e)) w.heap.size e k (.slice (some ⟨w.heap.size, 0, none⟩) 0 0) 0 [] :=
  ⟨by simp, .inr ⟨w.heap.size, 0, #[], rfl, Nat.le_refl _, heap_alloc_new _ _, Nat.le_refl _, by simp [maxLen], by simp, by simp⟩⟩
section
variable {α : Type} {enc : α → List Value} {sz : Nat}
theorem flat_dropG (hen : ∀ x, (enc x).length = sz) (L : List α) (k j : Nat) (hk : k ≤ L.length) : ((L.drop k).flatMap enc)[j]? = (L.flatMap enc)[k * sz + j]? := by
  have h : L.flatMap enc = (L.take k).flatMap enc ++ (L.drop k).flatMap enc := by rw [← List.flatMap_append, List.take_append_drop]
  have hn : ((L.take k).flatMap enc).length = k * sz := by rw [flatMap_len enc sz hen, List.length_take, Nat.min_eq_left hk]
  rw [h, List.getElem?_append_right (by omega), hn, Nat.add_sub_cancel_left]
theorem flat_takeG (hen : ∀ x, (enc x).length = sz) (L : List α) (k j : Nat) (hj : j < ((L.take k).flatMap enc).length) : ((L.take k).flatMap enc)[j]? = (L.flatMap enc)[j]? := by
  have h : L.flatMap enc = (L.take k).flatMap enc ++ (L.drop k).flatMap enc := by rw [← List.flatMap_append, List.take_append_drop]
  rw [h, List.getElem?_append_left hj]
theorem row_dropG (hen : ∀ x, (enc x).length = sz) (hsz : 0 < sz) {w : World} {a : Option Addr} {cap k : Nat} {L : List α} (h : Row w a L.length cap sz (L.flatMap enc)) (hk : k ≤ L.length) :
    Row w (if cap = k then a else Option.map (fun x => x.add (k * sz)) a) (L.length - k) (cap - k) sz ((L.drop k).flatMap enc) := by
  obtain ⟨r1, r2, r3, r4, r5⟩ := h
  refine ⟨by rw [flatMap_len enc sz hen, List.length_drop], by omega, by omega, ?_, ?_⟩
  · intro hn
    have ha : a = none := by
      by_cases e : cap = k
      · rw [if_pos e] at hn; exact hn
      · rw [if_neg e] at hn
        cases a with
        | none => rfl
        | some x => cases hn
    obtain ⟨h1, h2⟩ := r4 ha
    omega
  · by_cases e : k = L.length
    · left
      subst e
      rw [List.drop_length]
      rfl
    · right
      have hkl : k < L.length := by omega
      rcases r5 with r5 | ⟨b, off, rfl, hc⟩
      · have := congrArg List.length r5
        rw [flatMap_len enc sz hen] at this
        simp only [List.length_nil] at this
        rcases Nat.mul_eq_zero.1 this with q | q <;> omega
      · refine ⟨b, off + k * sz, ?_, fun j hj => ?_⟩
        · rw [if_neg (by omega)]
          obtain ⟨m, hm⟩ : ∃ m, k * sz = m := ⟨_, rfl⟩
          rw [hm]
          cases m <;> simp [Addr.add]
        · rw [flat_dropG hen L k j hk, Nat.add_assoc]
          refine hc _ ?_
          rw [flatMap_len enc sz hen] at hj ⊢
          rw [List.length_drop, Nat.sub_mul] at hj
          have := Nat.mul_le_mul_right sz hk
          omega
theorem row_takeG (hen : ∀ x, (enc x).length = sz) (hsz : 0 < sz) {w : World} {a : Option Addr} {cap k : Nat} {L : List α} (h : Row w a L.length cap sz (L.flatMap enc)) (hk : k ≤ L.length) :
    Row w a k cap sz ((L.take k).flatMap enc) := by
  obtain ⟨r1, r2, r3, r4, r5⟩ := h
  refine ⟨by rw [flatMap_len enc sz hen, List.length_take, Nat.min_eq_left hk], by omega, r3, fun hn => ?_, ?_⟩
  · obtain ⟨h1, h2⟩ := r4 hn
    omega
  · rcases r5 with r5 | ⟨b, off, rfl, hc⟩
    · left
      have h1 := congrArg List.length r5
      rw [flatMap_len enc sz hen] at h1
      simp only [List.length_nil] at h1
      refine List.eq_nil_of_length_eq_zero ?_
      rw [flatMap_len enc sz hen, List.length_take]
      rcases Nat.mul_eq_zero.1 h1 with q | q
      · rw [q, Nat.min_zero, Nat.zero_mul]
      · omega
    · refine .inr ⟨b, off, rfl, fun j hj => ?_⟩
      rw [flat_takeG (enc := enc) hen L k j hj]
      refine hc j ?_
      rw [flatMap_len enc sz hen] at hj ⊢
      rw [List.length_take] at hj
      exact Nat.lt_of_lt_of_le hj (Nat.mul_le_mul_right sz (Nat.min_le_right _ _))
theorem own_cut {w : World} {B : Nat} {E : TypeId} {v : Value} {L : List α} {i : Nat} (hi : i < L.length) (h : OwnR w B E sz v (i + (L.length - (i + 1))) ((L.take i).flatMap enc ++ (L.drop (i + 1)).flatMap enc)) :
    OwnR w B E sz v (L.take i ++ L.drop (i + 1)).length ((L.take i ++ L.drop (i + 1)).flatMap enc) := by
  rw [List.flatMap_append, List.length_append, List.length_drop, List.length_take, Nat.min_eq_left (by omega)]
  exact h
end
theorem sep_new {w : World} {B n m k j : Nat} {e f : TypeId} {v y : Value} {cs ds : List Value} {u : World} (hv : OwnR w B e k v n cs) (hy : OwnR u w.heap.size f j y m ds) : Sep v y := fun q h1 h2 => by
  have a := (World.ownsRow.lt hv q h1).2
  have b := (World.ownsRow.lt hy q h2).1
  omega
end Go.Proofs.YtekakalhknjdaaaDoor
