
/- Rows of structs that are the call's own: sorted by the library; appended to and kept. -/
import Derived.Test.YtekakalhknjdaaaDoorOwn
import Derived.Sort.OwnSorted
import Derived.Shelf.GgSortFunc.InsertionK
import Derived.Shelf.SlSortCmp.InsertionK
import Derived.Laws.OwnMore
namespace Go.Proofs.YtekakalhknjdaaaDoor
open Go.RowKit Go.Sort
set_option linter.unusedVariables false
set_option linter.unusedSimpArgs false

theorem flatMap_get? {α : Type} (enc : α → List Value) (k : Nat) (hk : ∀ x, (enc x).length = k) : ∀ (L : List α) (i c : Nat) (x : α), L[i]? = some x → c < k → (L.flatMap enc)[i * k + c]? = (enc x)[c]?
  | [], i, c, x, h, _ => by cases h
  | y :: L, 0, c, x, h, hc => by
    simp at h; subst h
    rw [List.flatMap_cons, Nat.zero_mul, Nat.zero_add, List.getElem?_append_left (by rw [hk]; exact hc)]
  | y :: L, i + 1, c, x, h, hc => by
    simp at h
    rw [List.flatMap_cons, List.getElem?_append_right (by rw [hk, Nat.add_mul]; omega), hk, show (i + 1) * k + c - k = i * k + c by rw [Nat.add_mul]; omega]
    exact flatMap_get? enc k hk L i c x h hc
theorem flatMap_len {α : Type} (enc : α → List Value) (k : Nat) (hk : ∀ x, (enc x).length = k) : ∀ L : List α, (L.flatMap enc).length = L.length * k
  | [] => by simp
  | x :: L => by rw [List.flatMap_cons, List.length_append, hk, flatMap_len enc k hk L, List.length_cons, Nat.add_mul]; omega
section
variable {α : Type} [Inhabited α]
theorem flatK_list (enc : α → List Value) (k : Nat) (hk : ∀ x, (enc x).length = k) (L : List α) : (flatK enc k L.toArray).toList = L.flatMap enc := by
  have hs : (flatK enc k L.toArray).size = L.length * k := by simp
  refine List.ext_getElem? (fun t => ?_)
  by_cases ht : t < L.length * k
  · have k0 : 0 < k := by rcases Nat.eq_zero_or_pos k with h | h; · subst h; simp at ht
                          · exact h
    have hi : t / k < L.length := Nat.div_lt_of_lt_mul (by rw [Nat.mul_comm]; exact ht)
    have hc : t % k < k := Nat.mod_lt _ k0
    have e : t = t / k * k + t % k := (Nat.div_add_mod' t k).symm
    have h1 := get_flatK enc k L.toArray t (by simpa using ht)
    have h2 : (flatK enc k L.toArray).toList[t]? = some ((flatK enc k L.toArray)[t]!) := by
      rw [Array.getElem?_toList, Array.getElem?_eq_getElem (by omega), getElem!_pos _ _ (by omega)]
    rw [h2, h1]
    conv => rhs; rw [e]
    have hx : L[t / k]? = some L[t / k] := List.getElem?_eq_getElem hi
    rw [flatMap_get? enc k hk L _ _ _ hx hc]
    have e2 : L.toArray[t / k]! = L[t / k] := by rw [getElem!_pos _ _ (by simpa using hi)]; simp
    rw [e2, List.getElem?_eq_getElem (by rw [hk]; exact hc), getElem!_pos _ _ (by rw [hk]; exact hc)]
  · rw [List.getElem?_eq_none (by simp; omega), List.getElem?_eq_none (by rw [flatMap_len enc k hk]; omega)]
theorem holdsK_of_block (enc : α → List Value) (k : Nat) (hk : ∀ x, (enc x).length = k) {w : World} {g : Nat} {cur : Array Value} {e : TypeId} {L : List α} (hb : w.heap[g]? = some (.cells cur e (0, 0))) (ht : cur.toList.take (L.length * k) = L.flatMap enc) : HoldsK enc k w g 0 L.toArray := by
  intro j hj
  have hj' : j < L.length * k := by simpa using hj
  refine ⟨?_, by simp [World.frozen?, hb]⟩
  have h1 : (cur.toList.take (L.length * k))[j]? = (L.flatMap enc)[j]? := by rw [ht]
  rw [List.getElem?_take_of_lt hj', ← flatK_list enc k hk L] at h1
  simp only [World.cell?, hb, Nat.zero_add]
  simp only [Option.isSome_none, Bool.false_eq_true, if_false]
  rw [← Array.getElem?_toList, h1, Array.getElem?_toList, Array.getElem?_eq_getElem hj]
  exact congrArg some (getElem!_pos (flatK enc k L.toArray) j hj).symm
theorem take_putId (cur : Array Value) (F : Array Value) (h : F.size ≤ cur.size) : (putCells id 0 F cur).toList.take F.size = F.toList := by
  apply List.ext_getElem?
  intro j
  by_cases hj : j < F.size
  · rw [List.getElem?_take_of_lt hj, Array.getElem?_toList, Array.getElem?_toList]
    simp [putCells, hj, show j < cur.size by omega]
  · rw [List.getElem?_take_eq_none (by omega), List.getElem?_eq_none (by simp; omega)]
theorem heap_sortedK (enc : α → List Value) (k : Nat) {w : World} {g n : Nat} {os : Array Obj} {cur : Array Value} {e : TypeId} {fr : Nat × Nat} (d : Array α) (hb : w.heap[g]? = some (.cells cur e fr)) :
    (sortWorldK enc k w g 0 n d os).heap[g]? = some (.cells (putCells id 0 (flatK enc k d) cur) e fr) := by
  have hg : g < w.heap.size := (Array.getElem?_eq_some_iff.1 hb).1
  unfold sortWorldK putRowK
  rw [heap_grow_old _ _ (by simpa using hg)]
  simp [putRow, mapBlock, Sort.ahead, Array.getElem?_modify, hb, onCells]
theorem grownBy_sortedK (enc : α → List Value) (k : Nat) {w : World} {g n : Nat} {os : Array Obj} (d : Array α) : w.grownBy (sortWorldK enc k w g 0 n d os) (some g) := by
  unfold sortWorldK putRowK
  refine ⟨rfl, rfl, rfl, by simp, fun k hk hne => ?_⟩
  rw [heap_grow_old _ _ (by simpa using hk)]
  have : g ≠ k := fun e => hne (by rw [e])
  simp [putRow, mapBlock, Sort.ahead, Array.getElem?_modify, this]
/-- A row of the call's own, ahead of the library's sort and behind it. -/
theorem own_sort (enc : α → List Value) (k : Nat) (hk : ∀ x, (enc x).length = k) {w : World} {B : Nat} {E : TypeId} {v : Value} {n : Nat} {L : List α} (h : OwnR w B E k v n (L.flatMap enc)) (hn : L.length = n) :
    (v = .slice none 0 0 ∧ n = 0) ∨ ∃ g cap, v = .slice (some ⟨g, 0, none⟩) n cap ∧ B ≤ g ∧ g < w.heap.size ∧ HoldsK enc k w g 0 L.toArray ∧
      (∀ m (M : List α) os, M.length = n → OwnR (sortWorldK enc k w g 0 m M.toArray os) B E k v n (M.flatMap enc)) ∧ ∀ m (M : List α) os, w.grownBy (sortWorldK enc k w g 0 m M.toArray os) (some g) := by
  subst hn
  rcases h.2 with ⟨rfl, h0⟩ | ⟨g, cap, cur, rfl, hbase, hb, h1, h2, h3, h4⟩
  · exact .inl ⟨rfl, h0⟩
  · refine .inr ⟨g, cap, rfl, hbase, (Array.getElem?_eq_some_iff.1 hb).1, holdsK_of_block enc k hk hb h4, fun m M os hM => ?_, fun m M os => grownBy_sortedK enc k _⟩
    have hle : (flatK enc k M.toArray).size ≤ cur.size := by simp [hM, h3]; exact Nat.mul_le_mul_right k h1
    refine ⟨by rw [flatMap_len enc k hk, hM], .inr ⟨g, cap, _, rfl, hbase, heap_sortedK enc k _ hb, h1, h2, by simp [putCells, h3], ?_⟩⟩
    have := take_putId cur (flatK enc k M.toArray) hle
    rw [flatK_list enc k hk M] at this
    rw [show L.length * k = (flatK enc k M.toArray).size by simp [hM]]
    exact this
end

/-- The row that was appended to is as it was. -/
theorem run_app_old {P : Program} (w : World) (t ty : TypeId) (B : Nat) (e : TypeId) (i : TypeInfo) (z : Value) (size : Nat) (ht : P.underlying t = some (.slice e)) (hi : P.info? e = some i) (hz : i.zero = some z)
    (hsize : i.size = size) (hzs : z.cells.size = size) (hsz : 0 < size)
    (v : Value) (n : Nat) (xs : List Value) (hown : w.ownsRow B e size v n xs)
    (a : Addr) (m c : Nat) (news : List Value) (hl : news.length = m * size) (hnews : ∀ j u, news[j]? = some u → w.cell? (a.add j) = some u) (h1 : ∀ u ∈ news, u.oneCell' = true)
    (h63 : n + m ≤ maxLen) (hbytes : (n + m) * i.bytes ≤ 140737488355328) {v' : Value} {w' : World} (hr : (Builtin.append_ #[t, t] ty #[v, .slice (some a) m c]).run P w = .ok v' w') : w'.ownsRow B e size v n xs := by
  have hsmall : n + m ≤ 9223372036854775807 := by simp only [maxLen] at h63; omega
  have hown' := hown
  rcases hown.2 with ⟨rfl, rfl⟩ | ⟨g, cap, cur, rfl, hbg, hg, hnc, hcm, hcs, htake⟩
  · have hx : xs = [] := List.eq_nil_of_length_eq_zero (by simpa using hown.1)
    subst hx
    exact World.ownsRow_nil w' B e size
  · by_cases hroom : n + m ≤ cap
    · obtain ⟨w2, hr2, ho2, hg2⟩ := run_append_fits (P := P) w B t ty e i size ht hi hsize g n cap xs hown' a m c news hl hnews h1 hroom
      rw [hr] at hr2
      cases hr2
      rcases ho2.2 with ⟨h0, _⟩ | ⟨g2, cap2, cur2, hv2, hbg2, hgg2, hnc2, hcm2, hcs2, htake2⟩
      · cases h0
      · cases hv2
        refine ⟨hown.1, .inr ⟨g, cap, cur2, rfl, hbg, hgg2, hnc, hcm, hcs2, ?_⟩⟩
        have h5 : (cur2.toList.take ((n + m) * size)).take (n * size) = (xs ++ news).take (n * size) := by rw [htake2]
        have h6 : (xs ++ news).take (n * size) = xs := by rw [← hown.1, List.take_left]
        rw [List.take_take, show min (n * size) ((n + m) * size) = n * size by rw [Nat.add_mul]; omega, h6] at h5
        exact h5
    · subst hsize
      have holds : ∀ j u, xs[j]? = some u → w.cell? ((⟨g, 0, none⟩ : Addr).add j) = some u := World.ownsRow.cells hown' (g := g) rfl
      have hr2 := run_append_grow (P := P) w t ty e i z ht hi hz ⟨g, 0, none⟩ n cap xs hown'.1 holds a m c news hl hnews (by omega) (by omega) (growslice_fits (by omega) hbytes)
      rw [hr] at hr2
      cases hr2
      exact World.ownsRow.kept (show w.drew.ownsRow B e i.size (.slice (some ⟨g, 0, none⟩) n cap) n xs from hown') (World.grownBy_alloc w.drew _ none) (.inr (by simp [Value.ownBlock]))

/-- 'append(own, xs...)': what is told of where it lies then, and of the row that was appended to. -/
theorem wpList_app_keep {P : Program} {w : World} {ops : Array Oper} {rest : List Oper} {o : Oper} {a : Act} {Q : Exit → Act → World → Prop} (hgd : o.guard = none) (s x : Operand) (t : TypeId)
    (ho : o.op = .call { callee := .builtin .append, args := #[s, x], argTypes := #[t, t] })
    (B : Nat) (e : TypeId) (z : Value) (size bytes : Nat) (ht : P.underlying t = some (.slice e)) (hi : (P.info? e).map (fun i => (i.zero, i.size, i.bytes)) = some (some z, size, bytes))
    (hzs : z.cells.size = size) (hsz : 0 < size)
    (v : Value) (n : Nat) (cs : List Value) (hs : a.eval s = v) (hown : OwnR w B e size v n cs)
    (ad : Addr) (len cap : Nat) (ds : List Value) (hx : a.eval x = .slice (some ad) len cap) (hr : Row w (some ad) len cap size ds) (hone : ∀ u ∈ ds, u.oneCell' = true)
    (hm : n + len ≤ maxLen) (hby : (n + len) * bytes ≤ 140737488355328) (hB : B ≤ w.heap.size)
    (h : ∀ v' w', OwnR w' B e size v' (n + len) (cs ++ ds) → OwnR w' B e size v n cs → Below B w w' → w.grownBy w' v.ownBlock → Moved w v v' → wpList P ops Q rest (a.put o.dst v') w') : wpList P ops Q (o :: rest) a w := by
  obtain ⟨i, hi0, hz, hszi, hbs⟩ : ∃ i, P.info? e = some i ∧ i.zero = some z ∧ i.size = size ∧ i.bytes = bytes := by
    cases hp : P.info? e with
    | none => rw [hp] at hi; simp at hi
    | some i => rw [hp] at hi; simp at hi; exact ⟨i, rfl, hi.1, hi.2.1, hi.2.2⟩
  obtain ⟨r1, r2, r3, r4, r5⟩ := hr
  have hnews : ∀ j u, ds[j]? = some u → w.cell? (ad.add j) = some u := by
    intro j u hj
    rcases r5 with r5 | ⟨b, off, e1, hc⟩
    · rw [r5] at hj; cases hj
    · cases e1
      have hjl : j < ds.length := by
        rcases Nat.lt_or_ge j ds.length with q | q
        · exact q
        · rw [List.getElem?_eq_none q] at hj; cases hj
      have := hc j hjl
      rw [hj] at this
      have e2 : (⟨b, off, none⟩ : Addr).add j = ⟨b, off + j, none⟩ := by cases j <;> simp [Addr.add]
      rw [e2]; exact this
  refine wpList_plain hgd fun K hK => ?_
  obtain ⟨v', w', hr, h2, h3, _⟩ := run_append_own (P := P) w B t o.type e i z size bytes ht hi0 hz hszi hbs hzs hsz v n cs hown ad len cap ds r1 hnews hone hm hby hB
  have hmv := run_app_moved w t o.type B e i z size ht hi0 hz hszi hzs hsz v n cs hown ad len cap ds r1 hnews hone hm (by rw [hbs]; exact hby) hr
  have hold := run_app_old w t o.type B e i z size ht hi0 hz hszi hzs hsz v n cs hown ad len cap ds r1 hnews hone hm (by rw [hbs]; exact hby) hr
  unfold Oper.wp execOp
  simp only [ho, resolve, invoke, builtin, Sem.run_bind, Sem.run_pure, Result.andThen_ok, List.map_toArray, List.map_cons, List.map_nil, hs, hx, hr]
  exact hK _ _ (h v' w' h2 hold ((Below.refl B w).grown h3 hB fun q hq => (World.ownsRow.lt hown q hq).1) h3 hmv)
end Go.Proofs.YtekakalhknjdaaaDoor
