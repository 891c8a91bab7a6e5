
/- append(append([]x{}, l...), p): the two appends, each as one operation of a region that draws its order. -/
import Derived.Test.YtbifmmdiekodjaaVicG
import Derived.Test.YtbifmmdiekodjaaKrip
import Derived.ArgAppend
namespace Go.Proofs.Ytbifmmdiekodjaa
open Go.RowKit
set_option linter.unusedVariables false

section
variable {P : Program} {w : World} {o : Oper} {a : Act} {K : Act → World → Prop} {Q : Exit → Act → World → Prop} {E : Prop}
theorem row_news {w : World} {ad : Addr} {len cap size : Nat} {ds : List Value} (hr : Row w (some ad) len cap size ds) : ∀ j u, ds[j]? = some u → w.cell? (ad.add j) = some u := by
  obtain ⟨r1, r2, r3, r4, r5⟩ := hr
  intro j u hj
  rcases r5 with r5 | ⟨b, off, e1, hc⟩
  · rw [r5] at hj; cases hj
  · cases e1
    have hjl : j < ds.length := by
      rcases Nat.lt_or_ge j ds.length with q | q
      · exact q
      · rw [List.getElem?_eq_none q] at hj; cases hj
    have := hc j hjl
    rw [hj] at this
    have e2 : (⟨b, off, none⟩ : Addr).add j = ⟨b, off + j, none⟩ := by cases j <;> simp [Addr.add]
    rw [e2]; exact this
/-- 'append([]x{}, row...)': the world only grows. -/
theorem op_first {ops : Array Oper} {tm : Array Value} (hg : o.guard = none) (s x : Operand) (t : TypeId)
    (ho : o.op = .call { callee := .builtin .append, args := #[s, x], argTypes := #[t, t] })
    (B : Nat) (e : TypeId) (z : Value) (size bytes : Nat) (ht : P.underlying t = some (.slice e)) (hi : (P.info? e).map (fun i => (i.zero, i.size, i.bytes)) = some (some z, size, bytes))
    (hzs : z.cells.size = size) (hsz : 0 < size)
    (g : Nat) (hs : a.eval s = .slice (some ⟨g, 0, none⟩) 0 0) (hown : OwnR w B e size (.slice (some ⟨g, 0, none⟩) 0 0) 0 [])
    (sa : Option Addr) (len cap : Nat) (ds : List Value) (hx : a.eval x = .slice sa len cap) (hr : Row w sa len cap size ds) (hone : ∀ u ∈ ds, u.oneCell' = true)
    (hm : len ≤ maxLen) (hby : len * bytes ≤ 140737488355328) (hB : B ≤ w.heap.size)
    (h : ∀ v' w', OwnR w' B e size v' len ds → Below w.heap.size w w' → K (a.put o.dst v') w') : if Region.wanted o (yielded ops tm) = true then Oper.wp P o a w K Q else E := by
  have hw : Region.wanted o (yielded ops tm) = true := by simp [Region.wanted, hg]
  rw [if_pos hw]
  obtain ⟨i, hi0, hz, hszi, hbs⟩ : ∃ i, P.info? e = some i ∧ i.zero = some z ∧ i.size = size ∧ i.bytes = bytes := by
    cases hp : P.info? e with
    | none => rw [hp] at hi; simp at hi
    | some i => rw [hp] at hi; simp at hi; exact ⟨i, rfl, hi.1, hi.2.1, hi.2.2⟩
  have hgo : ∀ v' w', (Builtin.append_ #[t, t] o.type #[.slice (some ⟨g, 0, none⟩) 0 0, .slice sa len cap]).run P w = .ok v' w' → OwnR w' B e size v' len ds → Below w.heap.size w w' → Oper.wp P o a w K Q := by
    intro v' w' hrun h2 h3
    unfold Oper.wp execOp
    simp only [ho, resolve, invoke, builtin, Sem.run_bind, Sem.run_pure, Result.andThen_ok, List.map_toArray, List.map_cons, List.map_nil, hs, hx, hrun]
    exact h v' w' h2 h3
  have hr' := hr
  obtain ⟨r1, r2, r3, r4, r5⟩ := hr
  cases sa with
  | none =>
    obtain ⟨rfl, rfl⟩ := r4 rfl
    obtain rfl : ds = [] := List.eq_nil_of_length_eq_zero (by omega)
    exact hgo _ _ (run_append_owned_none (P := P) w B t o.type e i size ht hi0 _ 0 [] hown) hown (Below.refl _ _)
  | some ad =>
    have hnews := row_news hr'
    by_cases h0 : len = 0
    · subst h0
      obtain rfl : ds = [] := List.eq_nil_of_length_eq_zero (by omega)
      refine hgo _ _ (run_append_room_cells (P := P) (w := w) t o.type e i ht hi0 g 0 0 0 ad 0 cap [] (by simp) (by simp) (by simp) (by omega) (by simp) (by simp)) ?_ (by exact Below.refl _ _)
      exact hown
    · subst hszi
      subst hbs
      have hrun := run_append_grow (P := P) (w := w) t o.type e i z ht hi0 hz ⟨g, 0, none⟩ 0 0 [] (by simp) (by simp) ad len cap ds r1 hnews (by omega) (by unfold maxLen at hm; omega) (growslice_fits (by omega) (by rw [Nat.zero_add]; exact hby))
      obtain ⟨v', w', hrun2, h2, h3, _⟩ := run_append_own (P := P) w B t o.type e i z i.size i.bytes ht hi0 hz rfl rfl hzs hsz (.slice (some ⟨g, 0, none⟩) 0 0) 0 [] hown ad len cap ds r1 hnews hone (by omega) (by rw [Nat.zero_add]; exact hby) hB
      have he := hrun2
      rw [hrun] at he
      cases he
      rw [List.nil_append] at h2
      rw [show 0 + len = len from Nat.zero_add len] at hrun2 h2
      exact hgo _ _ hrun2 h2 (belAlloc (belDrew (Below.refl _ _)) _)
/-- 'append(own, row...)' as one operation of a region that draws its order. -/
theorem op_appR {ops : Array Oper} {tm : Array Value} (hg : o.guard = none) (s x : Operand) (t : TypeId)
    (ho : o.op = .call { callee := .builtin .append, args := #[s, x], argTypes := #[t, t] })
    (B : Nat) (e : TypeId) (z : Value) (size bytes : Nat) (ht : P.underlying t = some (.slice e)) (hi : (P.info? e).map (fun i => (i.zero, i.size, i.bytes)) = some (some z, size, bytes))
    (hzs : z.cells.size = size) (hsz : 0 < size)
    (v : Value) (n : Nat) (cs : List Value) (hs : a.eval s = v) (hown : OwnR w B e size v n cs)
    (ad : Addr) (len cap : Nat) (ds : List Value) (hx : a.eval x = .slice (some ad) len cap) (hr : Row w (some ad) len cap size ds) (hone : ∀ u ∈ ds, u.oneCell' = true)
    (hm : n + len ≤ maxLen) (hby : (n + len) * bytes ≤ 140737488355328) (hB : B ≤ w.heap.size)
    (h : ∀ v' w', OwnR w' B e size v' (n + len) (cs ++ ds) → Below B w w' → K (a.put o.dst v') w') : if Region.wanted o (yielded ops tm) = true then Oper.wp P o a w K Q else E := by
  have hw : Region.wanted o (yielded ops tm) = true := by simp [Region.wanted, hg]
  rw [if_pos hw]
  obtain ⟨i, hi0, hz, hszi, hbs⟩ : ∃ i, P.info? e = some i ∧ i.zero = some z ∧ i.size = size ∧ i.bytes = bytes := by
    cases hp : P.info? e with
    | none => rw [hp] at hi; simp at hi
    | some i => rw [hp] at hi; simp at hi; exact ⟨i, rfl, hi.1, hi.2.1, hi.2.2⟩
  have hnews := row_news hr
  obtain ⟨r1, r2, r3, r4, r5⟩ := hr
  obtain ⟨v', w', hrun, h2, h3, _⟩ := run_append_own (P := P) w B t o.type e i z size bytes ht hi0 hz hszi hbs hzs hsz v n cs hown ad len cap ds r1 hnews hone hm hby hB
  unfold Oper.wp execOp
  simp only [ho, resolve, invoke, builtin, Sem.run_bind, Sem.run_pure, Result.andThen_ok, List.map_toArray, List.map_cons, List.map_nil, hs, hx, hrun]
  exact h v' w' h2 ((Below.refl B w).grown h3 hB fun q hq => (World.ownsRow.lt hown q hq).1)
end
theorem own_empty (w : World) (e : TypeId) (k : Nat) : OwnR (w.alloc (.cells #[] e)) w.heap.size e k (.slice (some ⟨w.heap.size, 0, none⟩) 0 0) 0 [] :=
  ⟨by simp, .inr ⟨w.heap.size, 0, #[], rfl, Nat.le_refl _, heap_alloc_new _ _, Nat.le_refl _, by simp [maxLen], by simp, by simp⟩⟩
end Go.Proofs.Ytbifmmdiekodjaa
