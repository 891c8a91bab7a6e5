
/- Rows of structs: copy, clear and an append within a row, told by whole blocks. -/
import Derived.Test.YtekakalhknjdaaaDoorApp
import Derived.Laws.CopyRow
import Derived.Lib.AppendZerosOnto
import Derived.Lib.Overlaps
namespace Go.Proofs.YtekakalhknjdaaaDoor
open Go.RowKit
set_option linter.unusedVariables false
set_option linter.unusedSimpArgs false
/-- The list with cs laid over it from o on. -/
def spl (l : List Value) (o : Nat) (cs : List Value) : List Value := l.take o ++ cs ++ l.drop (o + cs.length)
theorem spl_len {l : List Value} {o : Nat} {cs : List Value} (h : o + cs.length ≤ l.length) : (spl l o cs).length = l.length := by
  unfold spl; simp only [List.length_append, List.length_take, List.length_drop]; omega
theorem spl_lo {l : List Value} {o : Nat} {cs : List Value} (h : o + cs.length ≤ l.length) {j : Nat} (hj : j < o) : (spl l o cs)[j]? = l[j]? := by
  unfold spl
  rw [List.append_assoc, List.getElem?_append_left (by rw [List.length_take]; omega), List.getElem?_take_of_lt hj]
theorem spl_in {l : List Value} {o : Nat} {cs : List Value} (h : o + cs.length ≤ l.length) {j : Nat} (hj : j < cs.length) : (spl l o cs)[o + j]? = cs[j]? := by
  unfold spl
  rw [List.append_assoc, List.getElem?_append_right (by rw [List.length_take]; omega), List.length_take, Nat.min_eq_left (by omega), Nat.add_sub_cancel_left, List.getElem?_append_left hj]
theorem spl_hi {l : List Value} {o : Nat} {cs : List Value} (h : o + cs.length ≤ l.length) {j : Nat} (hj : o + cs.length ≤ j) : (spl l o cs)[j]? = l[j]? := by
  unfold spl
  rw [List.getElem?_append_right (by simp only [List.length_append, List.length_take]; omega), List.getElem?_drop]
  congr 1
  simp only [List.length_append, List.length_take]; omega
theorem spl_take_lo {l : List Value} {o : Nat} {cs : List Value} (h : o + cs.length ≤ l.length) {m : Nat} (hm : m ≤ o) : (spl l o cs).take m = l.take m := by
  apply List.ext_getElem?
  intro j
  by_cases hj : j < m
  · rw [List.getElem?_take_of_lt hj, List.getElem?_take_of_lt hj, spl_lo h (by omega)]
  · rw [List.getElem?_take_eq_none (by omega), List.getElem?_take_eq_none (by omega)]
theorem spl_take_all {l : List Value} {o : Nat} {cs : List Value} (h : o + cs.length ≤ l.length) {m : Nat} (hm : m = o + cs.length) : (spl l o cs).take m = l.take o ++ cs := by
  subst hm
  unfold spl
  rw [List.take_left' (by simp only [List.length_append, List.length_take]; omega)]
theorem spl_drop {l : List Value} {o : Nat} {cs : List Value} (h : o + cs.length ≤ l.length) : (spl l o cs).drop o = cs ++ l.drop (o + cs.length) := by
  unfold spl
  rw [List.append_assoc, List.drop_append_of_le_length (by rw [List.length_take]; omega), List.drop_of_length_le (by rw [List.length_take]; omega), List.nil_append]
theorem blk_shape {w : World} {g : Nat} {C : List Value} {T : TypeId} (h : Blk w g C T) : w.shape? g = some (T, C.length) := by
  unfold Blk at h
  simp [World.shape?, h]
section
variable {P : Program}
theorem Blk.row {w : World} {g : Nat} {C : List Value} {T : TypeId} (h : Blk w g C T) (D : List Value) : Blk (w.setRow g D.toArray) g D T := setRow_heap w g C.toArray D.toArray T (0, 0) h
theorem Blk.rowFar {w : World} {g M : Nat} {C : List Value} {T : TypeId} (h : Blk w M C T) (hne : M ≠ g) (D : List Value) : Blk (w.setRow g D.toArray) M C T := (setRow_other w g M D.toArray hne).trans h
theorem grownBy_setRow (w : World) (g : Nat) (D : Array Value) : w.grownBy (w.setRow g D) (some g) :=
  ⟨rfl, rfl, rfl, by rw [setRow_size]; exact Nat.le_refl _, fun k _ hne => setRow_other w g k D (fun e => hne (by rw [e]))⟩
theorem run_copyK (w : World) (dT sT ty elem : TypeId) (k g o dLen dCap : Nat) (a : Addr) (sLen sCap : Nat) (C : List Value) (t : TypeId) (cs : List Value)
    (hu : P.underlying dT = some (.slice elem)) (hs : (P.info? elem).map (·.size) = some k) (hg : Blk w g C t) (hn : cs.length = Nat.min sLen dLen * k)
    (hsrc : ∀ j v, cs[j]? = some v → w.cell? (a.add j) = some v) (hfit : o + cs.length ≤ C.length) (h1 : ∀ v ∈ cs, v.oneCell' = true) :
    (Builtin.copy_ #[dT, sT] ty #[.slice (some ⟨g, o, none⟩) dLen dCap, .slice (some a) sLen sCap]).run P w = .ok (goInt (Nat.min sLen dLen)) (w.setRow g (spl C o cs).toArray) := by
  have hl := run_loadCells_list (P := P) w a cs hsrc
  have hst := run_storeCells_at P g o t cs 0 C.toArray w hg (by simpa using hfit) h1
  simp only [Nat.add_zero] at hst
  cases hq : P.info? elem with
  | none => simp [hq] at hs
  | some i =>
    have hi : i.size = k := by simpa [hq] using hs
    simp [Builtin.copy_, run_underlying hu, Builtin.lenOf, Builtin.firstCells, sizeOf, typeInfo, hq, hi, ← hn, hl, hst, spl]
theorem zeroCells_len (z : Array Value) (n : Nat) : (Builtin.zeroCells z n).toList.length = n * z.size := by simp [Builtin.zeroCells]
theorem zeroCells_size (z : Array Value) (n : Nat) : (Builtin.zeroCells z n).size = n * z.size := by simp [Builtin.zeroCells]
theorem zeroCells_one (z : Array Value) (n : Nat) (h : ∀ u ∈ z.toList, u.oneCell' = true) : ∀ u ∈ (Builtin.zeroCells z n).toList, u.oneCell' = true := by
  intro u hu
  simp only [Builtin.zeroCells, Array.mem_toList_iff, Array.mem_map, Array.mem_range] at hu
  obtain ⟨i, hi, rfl⟩ := hu
  have h0 : 0 < z.size := by rcases Nat.eq_zero_or_pos z.size with q | q; rw [q, Nat.mul_zero] at hi; omega; exact q
  have hlt : i % z.size < z.size := Nat.mod_lt _ h0
  rw [getElem!_pos z _ hlt]
  exact h _ (by simp)
theorem run_clearK (w : World) (t e ty : TypeId) (z : Value) (ht : P.underlying t = some (.slice e)) (hv : ∀ w, (zeroValue e).run P w = .ok z w) (g o n c : Nat) (C : List Value) (T : TypeId) (hn : 0 < n) (hg : Blk w g C T)
    (hfit : o + n * z.cells.size ≤ C.length) (h1 : ∀ u ∈ (Builtin.zeroCells z.cells n).toList, u.oneCell' = true) :
    (Builtin.clear_ #[t] ty #[.slice (some ⟨g, o, none⟩) n c]).run P w = .ok (.tuple #[]) (w.setRow g (spl C o (Builtin.zeroCells z.cells n).toList).toArray) := by
  have hst := run_storeCells_at P g o T (Builtin.zeroCells z.cells n).toList 0 C.toArray w hg (by rw [zeroCells_len]; simpa using hfit) h1
  simp only [Nat.add_zero] at hst
  obtain ⟨m, rfl⟩ : ∃ m, n = m + 1 := ⟨n - 1, by omega⟩
  simp [Builtin.clear_, run_underlying ht, hv, hst, spl]
/-- An append within the row's own room. -/
theorem run_appK (w : World) (t ty e : TypeId) (k : Nat) (ht : P.underlying t = some (.slice e)) (hs : (P.info? e).map (·.size) = some k) (B g n c : Nat) (C : List Value) (hB : B ≤ g) (hg : Blk w g C e) (hc : C.length = c * k) (hcm : c ≤ maxLen)
    (a : Addr) (m mc : Nat) (news : List Value) (hl : news.length = m * k) (hnews : ∀ j u, news[j]? = some u → w.cell? (a.add j) = some u) (h1 : ∀ u ∈ news, u.oneCell' = true) (hr : n + m ≤ c) :
    ∃ w' D, (Builtin.append_ #[t, t] ty #[.slice (some ⟨g, 0, none⟩) n c, .slice (some a) m mc]).run P w = .ok (.slice (some ⟨g, 0, none⟩) (n + m) c) w' ∧ Blk w' g D e ∧ D.length = c * k ∧ D.take ((n + m) * k) = C.take (n * k) ++ news ∧ w.grownBy w' (some g) := by
  obtain ⟨i, hi0, hsz⟩ : ∃ i, P.info? e = some i ∧ i.size = k := by
    cases hp : P.info? e with
    | none => rw [hp] at hs; simp at hs
    | some i => rw [hp] at hs; simp at hs; exact ⟨i, rfl, hs⟩
  have hown : w.ownsRow B e k (.slice (some ⟨g, 0, none⟩) n c) n (C.take (n * k)) :=
    ⟨by rw [List.length_take, hc]; exact Nat.min_eq_left (Nat.mul_le_mul_right k (by omega)), .inr ⟨g, c, C.toArray, rfl, hB, hg, by omega, hcm, by simpa using hc, by simp⟩⟩
  obtain ⟨w', hrun, ho, hgr⟩ := run_append_fits (P := P) w B t ty e i k ht hi0 hsz g n c _ hown a m mc news hl hnews h1 hr
  rcases ho.2 with ⟨h0, _⟩ | ⟨g', c', cur, e1, _, hb, _, _, hcs, htk⟩
  · cases h0
  · cases e1
    exact ⟨w', cur.toList, hrun, by unfold Blk; simpa using hb, by simpa using hcs, htk, hgr⟩
theorem wpList_copyK (w : World) {ops : Array Oper} {rest : List Oper} {o : Oper} {a : Act} {Q : Exit → Act → World → Prop} (hgd : o.guard = none) (d s : Operand) (t t' : TypeId)
    (ho : o.op = .call { callee := .builtin .copy, args := #[d, s], argTypes := #[t, t'] }) (v u : Value) (hd : a.eval d = v) (hs : a.eval s = u) {v' : Value} {w' : World}
    (hr : (Builtin.copy_ #[t, t'] o.type #[v, u]).run P w = .ok v' w') (h : wpList P ops Q rest (a.put o.dst v') w') : wpList P ops Q (o :: rest) a w :=
  wpList_plain hgd fun K hK => by
    unfold Oper.wp execOp
    simp only [ho, resolve, invoke, builtin, Sem.run_bind, Sem.run_pure, Result.andThen_ok, List.map_toArray, List.map_cons, List.map_nil, hd, hs, hr]
    exact hK _ _ h
theorem wpList_appK (w : World) {ops : Array Oper} {rest : List Oper} {o : Oper} {a : Act} {Q : Exit → Act → World → Prop} (hgd : o.guard = none) (d s : Operand) (t t' : TypeId)
    (ho : o.op = .call { callee := .builtin .append, args := #[d, s], argTypes := #[t, t'] }) (v u : Value) (hd : a.eval d = v) (hs : a.eval s = u) {v' : Value} {w' : World}
    (hr : (Builtin.append_ #[t, t'] o.type #[v, u]).run P w = .ok v' w') (h : wpList P ops Q rest (a.put o.dst v') w') : wpList P ops Q (o :: rest) a w :=
  wpList_plain hgd fun K hK => by
    unfold Oper.wp execOp
    simp only [ho, resolve, invoke, builtin, Sem.run_bind, Sem.run_pure, Result.andThen_ok, List.map_toArray, List.map_cons, List.map_nil, hd, hs, hr]
    exact hK _ _ h
theorem wpList_clearK (w : World) {ops : Array Oper} {rest : List Oper} {o : Oper} {a : Act} {Q : Exit → Act → World → Prop} (hgd : o.guard = none) (d : Operand) (t : TypeId)
    (ho : o.op = .call { callee := .builtin .clear, args := #[d], argTypes := #[t] }) (v : Value) (hd : a.eval d = v) {v' : Value} {w' : World}
    (hr : (Builtin.clear_ #[t] o.type #[v]).run P w = .ok v' w') (h : wpList P ops Q rest (a.put o.dst v') w') : wpList P ops Q (o :: rest) a w :=
  wpList_plain hgd fun K hK => by
    unfold Oper.wp execOp
    simp only [ho, resolve, invoke, builtin, Sem.run_bind, Sem.run_pure, Result.andThen_ok, List.map_toArray, List.map_cons, List.map_nil, hd, hr]
    exact hK _ _ h
theorem op_copyK {w : World} {o : Oper} {a : Act} {K : Act → World → Prop} {Q : Exit → Act → World → Prop} {E : Prop} {ops : Array Oper} {tm : Array Value} (hg : o.guard = none) (d x : Operand) (dT sT : TypeId)
    (hop : o.op = Op.call { callee := Callee.builtin Builtin.copy, args := #[d, x], argTypes := #[dT, sT] })
    (v u : Value) (hd : a.eval d = v) (hx : a.eval x = u) {v' : Value} {w' : World} (hr : (Builtin.copy_ #[dT, sT] o.type #[v, u]).run P w = .ok v' w') (hK : K (a.put o.dst v') w') :
    if Region.wanted o (yielded ops tm) = true then Oper.wp P o a w K Q else E := by
  have hw : Region.wanted o (yielded ops tm) = true := by simp [Region.wanted, hg]
  rw [if_pos hw]
  unfold Oper.wp execOp
  simp only [hop, resolve, invoke, builtin, Sem.run_bind, Sem.run_pure, Result.andThen_ok, List.map_toArray, List.map_cons, List.map_nil, hd, hx, hr]
  exact hK
theorem op_appK {w : World} {o : Oper} {a : Act} {K : Act → World → Prop} {Q : Exit → Act → World → Prop} {E : Prop} {ops : Array Oper} {tm : Array Value} (hg : o.guard = none) (d x : Operand) (dT sT : TypeId)
    (hop : o.op = Op.call { callee := Callee.builtin Builtin.append, args := #[d, x], argTypes := #[dT, sT] })
    (v u : Value) (hd : a.eval d = v) (hx : a.eval x = u) {v' : Value} {w' : World} (hr : (Builtin.append_ #[dT, sT] o.type #[v, u]).run P w = .ok v' w') (hK : K (a.put o.dst v') w') :
    if Region.wanted o (yielded ops tm) = true then Oper.wp P o a w K Q else E := by
  have hw : Region.wanted o (yielded ops tm) = true := by simp [Region.wanted, hg]
  rw [if_pos hw]
  unfold Oper.wp execOp
  simp only [hop, resolve, invoke, builtin, Sem.run_bind, Sem.run_pure, Result.andThen_ok, List.map_toArray, List.map_cons, List.map_nil, hd, hx, hr]
  exact hK
end
theorem own_open {w : World} {B n k : Nat} {T : TypeId} {v : Value} {cs : List Value} (h : OwnR w B T k v n cs) :
    (v = .slice none 0 0 ∧ n = 0 ∧ cs = []) ∨ ∃ g cap C, v = .slice (some ⟨g, 0, none⟩) n cap ∧ B ≤ g ∧ Blk w g C T ∧ n ≤ cap ∧ cap ≤ maxLen ∧ C.length = cap * k ∧ C.take (n * k) = cs := by
  rcases h.2 with ⟨rfl, rfl⟩ | ⟨g, cap, cur, rfl, hb, hg, h1, h2, h3, h4⟩
  · exact .inl ⟨rfl, rfl, List.eq_nil_of_length_eq_zero (by simpa using h.1)⟩
  · exact .inr ⟨g, cap, cur.toList, rfl, hb, by unfold Blk; simpa using hg, h1, h2, by simpa using h3, h4⟩
theorem own_of {w : World} {B n k g cap : Nat} {T : TypeId} {C cs : List Value} (hB : B ≤ g) (hb : Blk w g C T) (h1 : n ≤ cap) (h2 : cap ≤ maxLen) (h3 : C.length = cap * k) (h4 : C.take (n * k) = cs) : OwnR w B T k (.slice (some ⟨g, 0, none⟩) n cap) n cs :=
  ⟨by rw [← h4, List.length_take, h3]; exact Nat.min_eq_left (Nat.mul_le_mul_right k h1), .inr ⟨g, cap, C.toArray, rfl, hB, hb, h1, h2, by simpa using h3, by simpa using h4⟩⟩
/-- What the row holds, cell by cell. -/
theorem blk_take {w : World} {g : Nat} {C cs : List Value} {T : TypeId} {m : Nat} (hb : Blk w g C T) (ht : C.take m = cs) (o : Nat) : ∀ j v, (cs.drop o)[j]? = some v → w.cell? ⟨g, o + j, none⟩ = some v := by
  intro j v hj
  rw [List.getElem?_drop, ← ht] at hj
  have hlt : o + j < m := by
    rcases Nat.lt_or_ge (o + j) m with q | q
    · exact q
    · rw [List.getElem?_take_eq_none (by omega)] at hj; cases hj
  rw [List.getElem?_take_of_lt hlt] at hj
  exact hb.cell hj
theorem addr_add (g o j : Nat) : (⟨g, o, none⟩ : Addr).add j = ⟨g, o + j, none⟩ := by cases j <;> simp [Addr.add]
theorem flat_ins {α : Type} {enc : α → List Value} (L : List α) (x : α) (i : Nat) : (L.take i ++ x :: L.drop i).flatMap enc = (L.take i).flatMap enc ++ (enc x ++ (L.drop i).flatMap enc) := by
  rw [List.flatMap_append, List.flatMap_cons]
theorem flat_takeE {α : Type} {enc : α → List Value} {k : Nat} (hk : ∀ x, (enc x).length = k) (L : List α) (i : Nat) (hi : i ≤ L.length) : (L.take i).flatMap enc = (L.flatMap enc).take (i * k) := by
  have h : L.flatMap enc = (L.take i).flatMap enc ++ (L.drop i).flatMap enc := by rw [← List.flatMap_append, List.take_append_drop]
  have hn : ((L.take i).flatMap enc).length = i * k := by rw [flatMap_len enc k hk, List.length_take, Nat.min_eq_left hi]
  rw [h, ← hn, List.take_left]
theorem flat_dropE {α : Type} {enc : α → List Value} {k : Nat} (hk : ∀ x, (enc x).length = k) (L : List α) (i : Nat) (hi : i ≤ L.length) : (L.drop i).flatMap enc = (L.flatMap enc).drop (i * k) := by
  have h : L.flatMap enc = (L.take i).flatMap enc ++ (L.drop i).flatMap enc := by rw [← List.flatMap_append, List.take_append_drop]
  have hn : ((L.take i).flatMap enc).length = i * k := by rw [flatMap_len enc k hk, List.length_take, Nat.min_eq_left hi]
  rw [h, ← hn, List.drop_left]
end Go.Proofs.YtekakalhknjdaaaDoor
