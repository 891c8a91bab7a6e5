
/- Stage 16: the runtime in memory: plain laws. -/
import Derived.Test.YtcnjcldfbidkmaaSwM
import Derived.ArgAppend
namespace Go.Proofs.Ytcnjcldfbidkmaa
open Go.RowKit Go.Sort
set_option linter.unusedVariables false
set_option linter.unusedSimpArgs false
structure WorldV where
  retries : Int
  outs : List Bool
  boxes : List ContV
  images : List ImgV
/-- All but these blocks is as it was. -/
structure Apart (F : List Nat) (u v : World) : Prop where
  os : v.os = u.os
  tape : v.tape = u.tape
  output : v.output = u.output
  size : u.heap.size ≤ v.heap.size
  block : ∀ b, b < u.heap.size → b ∉ F → v.heap[b]? = u.heap[b]?
theorem Apart.refl (F : List Nat) (u : World) : Apart F u u := ⟨rfl, rfl, rfl, Nat.le_refl _, fun _ _ _ => rfl⟩
theorem Apart.of_below {F : List Nat} {u v : World} (h : Below u.heap.size u v) : Apart F u v := ⟨h.os, h.tape, h.output, h.size, fun b hb _ => h.block b hb⟩
theorem Apart.of_grown {F : List Nat} {u v : World} {r : Option Nat} (h : u.grownBy v r) (hr : ∀ b, r = some b → b ∈ F) : Apart F u v :=
  ⟨h.os, h.tape, h.output, h.size, fun b hb hF => h.block b hb (fun e => hF (hr b e.symm))⟩
theorem Apart.trans {F : List Nat} {u v x : World} (h : Apart F u v) (k : Apart F v x) : Apart F u x :=
  ⟨k.os.trans h.os, k.tape.trans h.tape, k.output.trans h.output, Nat.le_trans h.size k.size, fun b hb hF => (k.block b (Nat.lt_of_lt_of_le hb h.size) hF).trans (h.block b hb hF)⟩
/-- From a list of blocks to one that has some of them and new ones. -/
theorem Apart.trans2 {F G : List Nat} {u v x : World} (h : Apart F u v) (k : Apart G v x) (hG : ∀ b ∈ G, b ∈ F ∨ u.heap.size ≤ b) : Apart F u x :=
  ⟨k.os.trans h.os, k.tape.trans h.tape, k.output.trans h.output, Nat.le_trans h.size k.size, fun b hb hF => (k.block b (Nat.lt_of_lt_of_le hb h.size) (fun q => (hG b q).elim hF (fun r => absurd hb (by omega)))).trans (h.block b hb hF)⟩
theorem Apart.set {F : List Nat} {u v : World} (h : Apart F u v) (a : Addr) (x : Value) (ha : a.block ∈ F) : Apart F u (v.setCell a x) := by
  have hz : (v.setCell a x).heap.size = v.heap.size := by unfold World.setCell; split <;> simp
  refine ⟨?_, ?_, ?_, by rw [hz]; exact h.size, fun b hb hF => ?_⟩
  · rw [← h.os]; unfold World.setCell; split <;> rfl
  · rw [← h.tape]; unfold World.setCell; split <;> rfl
  · rw [← h.output]; unfold World.setCell; split <;> rfl
  · rw [Below.heap_setCell _ _ _ _ (fun e => hF (by rw [e]; exact ha))]; exact h.block b hb hF
theorem Apart.below {F : List Nat} {u v : World} {B : Nat} (h : Apart F u v) (hF : ∀ b ∈ F, B ≤ b) (hB : B ≤ u.heap.size) : Below B u v :=
  ⟨h.os, h.tape, h.output, h.size, fun b hb => h.block b (by omega) (fun q => absurd (hF b q) (by omega))⟩
theorem Apart.row {F : List Nat} {u v : World} {a : Option Addr} {len cap k : Nat} {cs : List Value} (h : Apart F u v) (hr : Row u a len cap k cs) (hF : cs ≠ [] → ∀ x, a = some x → x.block ∉ F) : Row v a len cap k cs := by
  obtain ⟨h1, h2, h3, h4, h5⟩ := hr
  refine ⟨h1, h2, h3, h4, ?_⟩
  rcases h5 with h5 | ⟨b, off, rfl, h5⟩
  · exact .inl h5
  · by_cases hc : cs = []
    · exact .inl hc
    · refine .inr ⟨b, off, rfl, fun i hi => ?_⟩
      have hb : b < u.heap.size := by
        have h6 := h5 0 (List.length_pos_iff.2 hc)
        rw [List.getElem?_eq_getElem (List.length_pos_iff.2 hc)] at h6
        exact World.block_lt_of_cell? _ _ h6
      have he := h.block b hb (hF hc _ rfl)
      rw [← h5 i hi]
      unfold World.cell?
      rw [he]
theorem Blk.apart {F : List Nat} {u v : World} {g : Nat} {C : List Value} {T : TypeId} (hb : Blk u g C T) (h : Apart F u v) (hF : g ∉ F) : Blk v g C T := by
  have h1 := hb.lt
  unfold Blk at *
  rw [h.block g h1 hF]; exact hb
theorem Blk.type {w : World} {g : Nat} {C D : List Value} {S T : TypeId} (h : Blk w g C S) (k : Blk w g D T) : S = T := by
  unfold Blk at h k
  rw [h] at k
  simp at k
  exact k.2
/-- The outcomes that wait: somewhere in a row that is the runtime's own. -/
def OwnQ (u : World) (B : Nat) (v : Value) (l : List Bool) : Prop :=
  (v = .slice none 0 0 ∧ l = []) ∨ ∃ g off cap C, v = .slice (some ⟨g, off, none⟩) l.length cap ∧ B ≤ g ∧ Blk u g C 4 ∧ l.length ≤ cap ∧ off + cap ≤ C.length ∧ cap ≤ maxLen ∧ (C.drop off).take l.length = l.map Value.bool
theorem OwnQ.lt {u : World} {B : Nat} {v : Value} {l : List Bool} (h : OwnQ u B v l) {g : Nat} (e : v.ownBlock = some g) : B ≤ g ∧ g < u.heap.size ∧ ∃ C, Blk u g C 4 := by
  rcases h with ⟨rfl, _⟩ | ⟨g2, off, cap, C, rfl, hB, hb, _⟩
  · cases e
  · cases e; exact ⟨hB, hb.lt, C, hb⟩
theorem OwnQ.row {u : World} {B : Nat} {v : Value} {l : List Bool} (h : OwnQ u B v l) : ∃ a c, v = .slice a l.length c ∧ Row u a l.length c 1 (l.map Value.bool) := by
  rcases h with ⟨rfl, rfl⟩ | ⟨g, off, cap, C, rfl, hB, hb, h1, h2, h3, h4⟩
  · exact ⟨none, 0, rfl, row_nil⟩
  · refine ⟨_, cap, rfl, by simp, h1, h3, (fun q => by cases q), .inr ⟨g, off, rfl, fun i hi => ?_⟩⟩
    have hi2 : i < l.length := by simpa using hi
    rw [← h4, List.getElem?_take_of_lt hi2, List.getElem?_drop]
    rw [hb.cell (j := off + i) (List.getElem?_eq_getElem (by omega)), List.getElem?_eq_getElem (by omega)]
theorem OwnQ.of_own {u : World} {B : Nat} {v : Value} {l : List Bool} (h : OwnR u B 4 1 v l.length (l.map Value.bool)) : OwnQ u B v l := by
  rcases own_open h with ⟨rfl, h0, h1⟩ | ⟨g, cap, C, rfl, hB, hb, h1, h2, h3, h4⟩
  · exact .inl ⟨rfl, List.eq_nil_of_length_eq_zero h0⟩
  · exact .inr ⟨g, 0, cap, C, rfl, hB, hb, h1, by omega, h2, by rw [List.drop_zero, ← h4, Nat.mul_one]⟩
theorem OwnQ.mono {u : World} {B B2 : Nat} {v : Value} {l : List Bool} (h : OwnQ u B v l) (hB : B2 ≤ B) : OwnQ u B2 v l :=
  h.imp id (fun ⟨g, off, cap, C, h1, h2, h3⟩ => ⟨g, off, cap, C, h1, by omega, h3⟩)
theorem OwnQ.same {u x : World} {B : Nat} {v : Value} {l : List Bool} (h : OwnQ u B v l) (hx : ∀ g, v.ownBlock = some g → x.heap[g]? = u.heap[g]?) : OwnQ x B v l := by
  refine h.imp id ?_
  rintro ⟨g, off, cap, C, rfl, h2, h3, h4⟩
  refine ⟨g, off, cap, C, rfl, h2, ?_, h4⟩
  unfold Blk at *
  rw [hx g rfl]; exact h3
theorem OwnQ.later {u x : World} {B : Nat} {v : Value} {l : List Bool} (h : OwnQ u B v l) (hb : Below u.heap.size u x) : OwnQ x B v l := h.same (fun g e => hb.block g (h.lt e).2.1)
theorem OwnQ.tail {u : World} {B : Nat} {g off n cap : Nat} {b : Bool} {l : List Bool} (h : OwnQ u B (.slice (some ⟨g, off, none⟩) n cap) (b :: l)) :
    (cap ≠ 1 → OwnQ u B (.slice (some ⟨g, off + 1, none⟩) l.length (cap - 1)) l) ∧ (cap = 1 → OwnQ u B (.slice (some ⟨g, off, none⟩) l.length 0) l) ∧ u.cell? ⟨g, off, none⟩ = some (.bool b) ∧ n = l.length + 1 ∧ n ≤ cap ∧ cap ≤ maxLen := by
  rcases h with ⟨h, _⟩ | ⟨g2, off2, cap2, C, e, hB, hb, h1, h2, h3, h4⟩
  · cases h
  · simp only [Value.slice.injEq, Option.some.injEq, Addr.mk.injEq, and_true] at e
    obtain ⟨⟨rfl, rfl⟩, rfl, rfl⟩ := e
    simp only [List.length_cons] at h1 h4
    have h0 : C[off]? = some (.bool b) := by
      have h5 : ((C.drop off).take (l.length + 1))[0]? = some (Value.bool b) := by rw [h4]; rfl
      rw [List.getElem?_take_of_lt (by omega), List.getElem?_drop, Nat.add_zero] at h5
      exact h5
    have h6 : (C.drop (off + 1)).take l.length = l.map Value.bool := by
      have h7 : ((C.drop off).take (l.length + 1)).drop 1 = ((b :: l).map Value.bool).drop 1 := by rw [h4]
      rw [List.drop_take, List.drop_drop] at h7
      simpa using h7
    refine ⟨fun hc => .inr ⟨g, off + 1, cap - 1, C, rfl, hB, hb, by omega, by omega, by omega, h6⟩, fun hc => ?_, hb.cell h0, rfl, by simpa using h1, h3⟩
    have hl : l = [] := List.eq_nil_of_length_eq_zero (by omega)
    subst hl
    exact .inr ⟨g, off, 0, C, rfl, hB, hb, Nat.le_refl _, by omega, by omega, by simp⟩
theorem run_append_q {P : Program} (w : World) (t ty e : TypeId) (i : TypeInfo) (ht : P.underlying t = some (.slice e)) (hi : P.info? e = some i) (hs : i.size = 1)
    (g off n cap : Nat) (cur : Array Value) (hg : w.heap[g]? = some (.cells cur e (0, 0)))
    (a : Addr) (m c : Nat) (news : List Value) (hl : news.length = m) (hnews : ∀ j u, news[j]? = some u → w.cell? (a.add j) = some u) (h1 : ∀ u ∈ news, u.oneCell' = true)
    (hroom : n + m ≤ cap) (hfit : off + n + news.length ≤ cur.size) :
    (Builtin.append_ #[t, t] ty #[.slice (some ⟨g, off, none⟩) n cap, .slice (some a) m c]).run P w =
      .ok (.slice (some ⟨g, off, none⟩) (n + m) cap) (w.setRow g (cur.toList.take (off + n) ++ news ++ cur.toList.drop (off + n + news.length)).toArray) := by
  have hf := run_firstCells_some (P := P) w i.size m a m c news (by rw [hs, Nat.mul_one]; exact hl) hnews
  have hst := run_storeCells_at P g (off + n) e news 0 cur w hg (by simpa using hfit) h1
  simp only [Nat.add_zero] at hst
  rw [hs] at hf
  simp [Builtin.append_, run_underlying ht, sizeOf, typeInfo, hi, Builtin.lenOf, hroom, hf, Addr.add_lit, hst, hs]
theorem run_append_q0 {P : Program} (w : World) (t ty e : TypeId) (i : TypeInfo) (ht : P.underlying t = some (.slice e)) (hi : P.info? e = some i)
    (ao : Option Addr) (n cap : Nat) (hn : n ≤ cap) (sa : Option Addr) (c : Nat) :
    (Builtin.append_ #[t, t] ty #[.slice ao n cap, .slice sa 0 c]).run P w = .ok (.slice ao n cap) w := by
  cases sa with
  | none => cases ao <;> simp [Builtin.append_, run_underlying ht, sizeOf, typeInfo, hi, Builtin.lenOf, Builtin.firstCells, hn, storeCells]
  | some a =>
    have hf := run_firstCells_some (P := P) w i.size 0 a 0 c [] (by simp) (fun j u h => by simp at h)
    cases ao <;> simp [Builtin.append_, run_underlying ht, sizeOf, typeInfo, hi, Builtin.lenOf, hf, hn, storeCells]
theorem bools_at {w : World} {b off len cap : Nat} {V : List Bool} (h : Row w (some ⟨b, off, none⟩) len cap 1 (V.map Value.bool)) : ∀ j u, (V.map Value.bool)[j]? = some u → w.cell? ((⟨b, off, none⟩ : Addr).add j) = some u := by
  intro j u hj
  obtain ⟨h1, h2, h3, h4, h5⟩ := h
  have hl := (List.getElem?_eq_some_iff.1 hj).1
  rcases h5 with h5 | ⟨b2, o2, e, hc⟩
  · rw [h5] at hl; exact absurd hl (Nat.not_lt_zero _)
  · simp only [Option.some.injEq, Addr.mk.injEq, and_true] at e
    obtain ⟨rfl, rfl⟩ := e
    have e2 : (⟨b, off, none⟩ : Addr).add j = ⟨b, off + j, none⟩ := by cases j <;> simp [Addr.add]
    rw [e2, hc j hl]; exact hj
/-- 'append(wait, xs...)'. -/
theorem wpList_app_q {w : World} {ops : Array Oper} {rest : List Oper} {o : Oper} {a : Act} {Q : Exit → Act → World → Prop} (hgd : o.guard = none) (s x : Operand) (t : TypeId)
    (ho : o.op = .call { callee := .builtin .append, args := #[s, x], argTypes := #[t, t] }) (ht : Try.prog.underlying t = some (.slice 4)) (hi : (Try.prog.info? 4).map (fun i => (i.zero, i.size, i.bytes)) = some (some (.bool false), 1, 1))
    (B : Nat) (v : Value) (l : List Bool) (hs : a.eval s = v) (hq : OwnQ w B v l) (sa : Option Addr) (len c : Nat) (zs : List Bool) (hx : a.eval x = .slice sa len c) (hz : zs.length = len) (hr : Row w sa len c 1 (zs.map Value.bool)) (hB : B ≤ w.heap.size) (hb1 : l.length + len ≤ 100000)
    (h : ∀ v' w', OwnQ w' B v' (l ++ zs) → w.grownBy w' v.ownBlock → Moved w v v' → wpList Try.prog ops Q rest (a.put o.dst v') w') : wpList Try.prog ops Q (o :: rest) a w := by
  obtain ⟨i, hi0, hz0, hsz, hbs⟩ : ∃ i, Try.prog.info? 4 = some i ∧ i.zero = some (.bool false) ∧ i.size = 1 ∧ i.bytes = 1 := by
    cases hp : Try.prog.info? 4 with
    | none => rw [hp] at hi; simp at hi
    | some i => rw [hp] at hi; simp at hi; exact ⟨i, rfl, hi.1, hi.2.1, hi.2.2⟩
  have go : ∀ v' w', (Builtin.append_ #[t, t] o.type #[v, .slice sa len c]).run Try.prog w = .ok v' w' → OwnQ w' B v' (l ++ zs) → w.grownBy w' v.ownBlock → Moved w v v' → wpList Try.prog ops Q (o :: rest) a w := by
    intro v' w' hrun r1 r2 r3
    refine wpList_plain hgd fun K hK => ?_
    unfold Oper.wp execOp
    simp only [ho, resolve, invoke, builtin, Sem.run_bind, Sem.run_pure, Result.andThen_ok, List.map_toArray, List.map_cons, List.map_nil, hs, hx, hrun]
    exact hK _ _ (h v' w' r1 r2 r3)
  by_cases h0 : len = 0
  · subst h0
    have hzn : zs = [] := List.eq_nil_of_length_eq_zero hz
    subst hzn
    have g0 : ∀ r, w.grownBy w r := fun r => ⟨rfl, rfl, rfl, Nat.le_refl _, fun _ _ _ => rfl⟩
    rcases hq with ⟨rfl, rfl⟩ | ⟨g, off, cap, C, rfl, h1, h2, h3, h4⟩
    · exact go _ _ (run_append_q0 w t o.type _ i ht hi0 none 0 0 (Nat.le_refl _) sa c) (.inl ⟨rfl, rfl⟩) (g0 _) (fun q hq => .inl hq)
    · exact go _ _ (run_append_q0 w t o.type _ i ht hi0 _ l.length cap h3 sa c) (by rw [List.append_nil]; exact .inr ⟨g, off, cap, C, rfl, h1, h2, h3, h4⟩) (g0 _) (fun q hq => .inl hq)
  · have hr2 := hr
    obtain ⟨ad, rfl⟩ : ∃ ad, sa = some ad := by
      cases sa with
      | none => exact absurd (hr.2.2.2.1 rfl).1 h0
      | some ad => exact ⟨ad, rfl⟩
    obtain ⟨sb, so, spot⟩ := ad
    have hspot : spot = none := by
      rcases hr.2.2.2.2 with q | ⟨b, off, q, _⟩
      · have : zs = [] := by simpa using q
        subst this; exact absurd hz.symm h0
      · simp only [Option.some.injEq, Addr.mk.injEq] at q; exact q.2.2
    subst hspot
    have hnews := bools_at hr2
    have hones : ∀ u ∈ zs.map Value.bool, u.oneCell' = true := fun u hu => by obtain ⟨q, _, rfl⟩ := List.mem_map.1 hu; rfl
    have hnl : (zs.map Value.bool).length = len := by simpa using hz
    obtain ⟨ao, cap, hv, hrow⟩ := hq.row
    by_cases hroom : l.length + len ≤ cap
    · rcases hq with ⟨rfl, rfl⟩ | ⟨g, off, cap2, C, rfl, h1, h2, h3, h4, h5, h6⟩
      · simp only [Value.slice.injEq] at hv
        obtain ⟨_, _, rfl⟩ := hv
        simp at hroom; exact absurd hroom h0
      · simp only [Value.slice.injEq, true_and] at hv
        obtain ⟨_, rfl⟩ := hv
        have hg : w.heap[g]? = some (.cells C.toArray 4 (0, 0)) := h2
        have hrun := run_append_q w t o.type _ i ht hi0 hsz g off l.length cap2 C.toArray hg _ len c (zs.map Value.bool) hnl hnews hones hroom (by rw [hnl]; simp; omega)
        refine go _ _ hrun ?_ (grownBy_setRow w g _) (fun q hq => .inl hq)
        refine .inr ⟨g, off, cap2, _, by rw [List.length_append, hz], h1, h2.row _, by rw [List.length_append, hz]; exact hroom, ?_, h5, ?_⟩
        · simp only [List.length_append, List.length_take, List.length_drop, hnl]; omega
        · have hlo : (C.take (off + l.length)).length = off + l.length := by rw [List.length_take]; omega
          rw [List.append_assoc, List.drop_append_of_le_length (by rw [hlo]; omega), List.drop_take, show off + l.length - off = l.length by omega, h6, ← List.append_assoc, ← List.map_append]
          exact List.take_left' (by simp)
    · refine wpList_append_grows w hgd s x t ho _ i (.bool false) 1 1 ht hi0 hz0 hsz hbs rfl (by decide) ao l.length cap (l.map Value.bool) (by rw [hs, hv]) hrow.2.2.2.1 (by simp) ?_ ⟨sb, so, none⟩ len c (zs.map Value.bool) hx (by simpa using hz) hnews hones (by omega) (by unfold maxLen; omega) (by omega) ?_
      · rintro b rfl j u hj
        obtain ⟨b2, o2, q2⟩ := b
        have : q2 = none := by
          rcases hrow.2.2.2.2 with q | ⟨b3, off3, q, _⟩
          · rw [q] at hj; simp at hj
          · simp only [Option.some.injEq, Addr.mk.injEq] at q; exact q.2.2
        subst this
        exact bools_at hrow j u hj
      · intro v' w' h1 h2
        refine h v' w' ?_ ?_ ?_
        · refine OwnQ.mono (OwnQ.of_own ?_) hB
          rw [List.length_append, hz, List.map_append]; exact h1
        · exact ⟨h2.os, h2.tape, h2.output, h2.size, fun b hb _ => h2.block b hb (by simp)⟩
        · intro q hq
          exact .inr (World.ownsRow.lt h1 q hq).1
/-! The runtime: four cells, and three rows. -/
def foot (M : Nat) (q b i : Value) : List Nat := M :: (q.ownBlock.toList ++ (b.ownBlock.toList ++ i.ownBlock.toList))
theorem foot_mem {M : Nat} {q b i : Value} {x : Nat} : x ∈ foot M q b i ↔ x = M ∨ q.ownBlock = some x ∨ b.ownBlock = some x ∨ i.ownBlock = some x := by
  unfold foot; simp [Option.mem_toList]
/-- The four cells, and what the three rows hold. -/
structure WCells (u : World) (B M : Nat) (q b i : Value) (m : WorldV) : Prop where
  base : B ≤ M
  blk : Blk u M [q, .int .i64 m.retries, b, i] 53
  wait : OwnQ u B q m.outs
  cont : OwnR u B 44 4 b m.boxes.length (m.boxes.flatMap ContV.cells)
  imgs : OwnR u B 58 3 i m.images.length (m.images.flatMap ImgV.cells)
def WAt (u : World) (B M : Nat) (F : List Nat) (m : WorldV) : Prop := ∃ q b i, F = foot M q b i ∧ WCells u B M q b i m
theorem WCells.later {u v : World} {B M : Nat} {q b i : Value} {m : WorldV} (h : WCells u B M q b i m) (hb : Below u.heap.size u v) : WCells v B M q b i m :=
  ⟨h.base, h.blk.later hb, h.wait.later hb, OwnR.later h.cont hb, OwnR.later h.imgs hb⟩
theorem WAt.later {u v : World} {B M : Nat} {F : List Nat} {m : WorldV} (h : WAt u B M F m) (hb : Below u.heap.size u v) : WAt v B M F m := by
  obtain ⟨q, b, i, rfl, h⟩ := h
  exact ⟨q, b, i, rfl, h.later hb⟩
theorem own_type {w : World} {B k n : Nat} {E : TypeId} {v : Value} {cs : List Value} (h : OwnR w B E k v n cs) {g : Nat} (e : v.ownBlock = some g) : B ≤ g ∧ g < w.heap.size ∧ ∃ C, Blk w g C E := by
  rcases own_open h with ⟨rfl, _, _⟩ | ⟨g2, cap, C, rfl, hB, hb, _⟩
  · cases e
  · cases e; exact ⟨hB, hb.lt, C, hb⟩
theorem WAt.foot_lt {u : World} {B M : Nat} {F : List Nat} {m : WorldV} (h : WAt u B M F m) : ∀ x ∈ F, B ≤ x ∧ x < u.heap.size := by
  obtain ⟨q, b, i, rfl, h⟩ := h
  intro x hx
  rcases foot_mem.1 hx with rfl | e | e | e
  · exact ⟨h.base, h.blk.lt⟩
  · exact ⟨(h.wait.lt e).1, (h.wait.lt e).2.1⟩
  · exact ⟨(own_type h.cont e).1, (own_type h.cont e).2.1⟩
  · exact ⟨(own_type h.imgs e).1, (own_type h.imgs e).2.1⟩
theorem WCells.ne_M {u : World} {B M : Nat} {q b i : Value} {m : WorldV} (h : WCells u B M q b i m) : q.ownBlock ≠ some M ∧ b.ownBlock ≠ some M ∧ i.ownBlock ≠ some M := by
  refine ⟨fun e => ?_, fun e => ?_, fun e => ?_⟩
  · obtain ⟨_, _, C, hb⟩ := h.wait.lt e; exact absurd (hb.type h.blk) (by decide)
  · obtain ⟨_, _, C, hb⟩ := own_type h.cont e; exact absurd (hb.type h.blk) (by decide)
  · obtain ⟨_, _, C, hb⟩ := own_type h.imgs e; exact absurd (hb.type h.blk) (by decide)
theorem WCells.apart {u : World} {B M : Nat} {q b i : Value} {m : WorldV} (h : WCells u B M q b i m) : (∀ g, q.ownBlock = some g → b.ownBlock ≠ some g ∧ i.ownBlock ≠ some g) ∧ (∀ g, b.ownBlock = some g → i.ownBlock ≠ some g) := by
  refine ⟨fun g e => ⟨fun k => ?_, fun k => ?_⟩, fun g e k => ?_⟩
  · obtain ⟨_, _, C, hb⟩ := h.wait.lt e; obtain ⟨_, _, D, hd⟩ := own_type h.cont k; exact absurd (hb.type hd) (by decide)
  · obtain ⟨_, _, C, hb⟩ := h.wait.lt e; obtain ⟨_, _, D, hd⟩ := own_type h.imgs k; exact absurd (hb.type hd) (by decide)
  · obtain ⟨_, _, C, hb⟩ := own_type h.cont e; obtain ⟨_, _, D, hd⟩ := own_type h.imgs k; exact absurd (hb.type hd) (by decide)
theorem heap_set_ne (w : World) (a : Addr) (x : Value) (g : Nat) (h : g ≠ a.block) : (w.setCell a x).heap[g]? = w.heap[g]? := Below.heap_setCell _ _ _ _ h
theorem own_same {u x : World} {B k n : Nat} {E : TypeId} {v : Value} {cs : List Value} (h : OwnR u B E k v n cs) (hx : ∀ g, v.ownBlock = some g → x.heap[g]? = u.heap[g]?) : OwnR x B E k v n cs := by
  refine ⟨h.1, h.2.imp id ?_⟩
  rintro ⟨g, cap, cur, rfl, hB, hb, h4⟩
  exact ⟨g, cap, cur, rfl, hB, by rw [hx g rfl]; exact hb, h4⟩
/-- What it comes to, whatever was done to it. -/
def WTo (u v : World) (B M : Nat) (F : List Nat) (m : WorldV) : Prop := ∃ G, WAt v B M G m ∧ Apart F u v ∧ ∀ b ∈ G, b ∈ F ∨ u.heap.size ≤ b
theorem WTo.refl {u v : World} {B M : Nat} {F : List Nat} {m : WorldV} (h : WAt u B M F m) (hb : Below u.heap.size u v) : WTo u v B M F m := ⟨F, h.later hb, Apart.of_below hb, fun b hb => .inl hb⟩
theorem WTo.trans {u v x : World} {B M : Nat} {F : List Nat} {m k : WorldV} (h : WTo u v B M F m) (hk : ∀ G, WAt v B M G m → WTo v x B M G k) : WTo u x B M F k := by
  obtain ⟨G, h1, h2, h3⟩ := h
  obtain ⟨H, k1, k2, k3⟩ := hk G h1
  refine ⟨H, k1, h2.trans2 k2 h3, fun b hb => ?_⟩
  rcases k3 b hb with q | q
  · exact h3 b q
  · exact .inr (Nat.le_trans h2.size q)
theorem WTo.below {u v : World} {B M : Nat} {F : List Nat} {m k : WorldV} (h : WTo u v B M F m) (hF : WAt u B M F k) {B2 : Nat} (hB : B2 ≤ B) (hs : B2 ≤ u.heap.size) : Below B2 u v := by
  obtain ⟨G, h1, h2, h3⟩ := h
  exact h2.below (fun b hb => Nat.le_trans hB (hF.foot_lt b hb).1) hs
/-- The outcomes are another row. -/
theorem WCells.setWait {u v : World} {B M : Nat} {q b i q2 : Value} {m : WorldV} {l : List Bool} (h : WCells u B M q b i m) (hq : OwnQ v B q2 l) (hg : u.grownBy v q.ownBlock) (hm : Moved u q q2) :
    WTo u (v.setCell ⟨M, 0, none⟩ q2) B M (foot M q b i) { m with outs := l } := by
  obtain ⟨n1, n2, n3⟩ := h.ne_M
  obtain ⟨a1, a2⟩ := h.apart
  have hM : Blk v M [q, .int .i64 m.retries, b, i] 53 := h.blk.grown hg n1
  have hqM : q2.ownBlock ≠ some M := fun e => by obtain ⟨_, _, C, hb⟩ := hq.lt e; exact absurd (hb.type hM) (by decide)
  refine ⟨foot M q2 b i, ⟨q2, b, i, rfl, ⟨h.base, hM.set 0 q2, ?_, ?_, ?_⟩⟩, ?_, ?_⟩
  · exact hq.same (fun g e => heap_set_ne _ _ _ _ (fun k => hqM (by rw [e]; exact congrArg some k)))
  · exact own_same h.cont (fun g e => (heap_set_ne _ _ _ _ (fun k => n2 (by rw [e]; exact congrArg some k))).trans (hg.block g (own_type h.cont e).2.1 (fun k => (a1 g k.symm).1 e)))
  · exact own_same h.imgs (fun g e => (heap_set_ne _ _ _ _ (fun k => n3 (by rw [e]; exact congrArg some k))).trans (hg.block g (own_type h.imgs e).2.1 (fun k => (a1 g k.symm).2 e)))
  · exact (Apart.of_grown hg (fun g e => foot_mem.2 (.inr (.inl e)))).set _ _ (foot_mem.2 (.inl rfl))
  · intro g hg2
    rcases foot_mem.1 hg2 with rfl | e | e | e
    · exact .inl (foot_mem.2 (.inl rfl))
    · rcases hm g e with k | k
      · exact .inl (foot_mem.2 (.inr (.inl k)))
      · exact .inr k
    · exact .inl (foot_mem.2 (.inr (.inr (.inl e))))
    · exact .inl (foot_mem.2 (.inr (.inr (.inr e))))
/-- The containers are another row. -/
theorem WCells.setCont {u v : World} {B M : Nat} {q b i b2 : Value} {m : WorldV} {L : List ContV} (h : WCells u B M q b i m) (hq : OwnR v B 44 4 b2 L.length (L.flatMap ContV.cells)) (hg : u.grownBy v b.ownBlock) (hm : Moved u b b2) :
    WTo u (v.setCell ⟨M, 2, none⟩ b2) B M (foot M q b i) { m with boxes := L } := by
  obtain ⟨n1, n2, n3⟩ := h.ne_M
  obtain ⟨a1, a2⟩ := h.apart
  have hM : Blk v M [q, .int .i64 m.retries, b, i] 53 := h.blk.grown hg n2
  have hqM : b2.ownBlock ≠ some M := fun e => by obtain ⟨_, _, C, hb⟩ := own_type hq e; exact absurd (hb.type hM) (by decide)
  refine ⟨foot M q b2 i, ⟨q, b2, i, rfl, ⟨h.base, hM.set 2 b2, ?_, ?_, ?_⟩⟩, ?_, ?_⟩
  · exact h.wait.same (fun g e => (heap_set_ne _ _ _ _ (fun k => n1 (by rw [e]; exact congrArg some k))).trans (hg.block g (h.wait.lt e).2.1 (fun k => (a1 g e).1 k.symm)))
  · exact own_same hq (fun g e => heap_set_ne _ _ _ _ (fun k => hqM (by rw [e]; exact congrArg some k)))
  · exact own_same h.imgs (fun g e => (heap_set_ne _ _ _ _ (fun k => n3 (by rw [e]; exact congrArg some k))).trans (hg.block g (own_type h.imgs e).2.1 (fun k => a2 g k.symm e)))
  · exact (Apart.of_grown hg (fun g e => foot_mem.2 (.inr (.inr (.inl e))))).set _ _ (foot_mem.2 (.inl rfl))
  · intro g hg2
    rcases foot_mem.1 hg2 with rfl | e | e | e
    · exact .inl (foot_mem.2 (.inl rfl))
    · exact .inl (foot_mem.2 (.inr (.inl e)))
    · rcases hm g e with k | k
      · exact .inl (foot_mem.2 (.inr (.inr (.inl k))))
      · exact .inr k
    · exact .inl (foot_mem.2 (.inr (.inr (.inr e))))
/-- The images are a new row. -/
theorem WCells.setImgs {u v : World} {B M : Nat} {q b i i2 : Value} {m : WorldV} {L : List ImgV} (h : WCells u B M q b i m) (hq : OwnR v u.heap.size 58 3 i2 L.length (L.flatMap ImgV.cells)) (hB : B ≤ u.heap.size) (hb : Below u.heap.size u v) :
    WTo u (v.setCell ⟨M, 3, none⟩ i2) B M (foot M q b i) { m with images := L } := by
  obtain ⟨n1, n2, n3⟩ := h.ne_M
  have hM := h.blk.later hb
  have hlt := h.blk.lt
  have hqM : ∀ g, i2.ownBlock = some g → u.heap.size ≤ g := fun g e => (own_type hq e).1
  refine ⟨foot M q b i2, ⟨q, b, i2, rfl, ⟨h.base, hM.set 3 i2, ?_, ?_, ?_⟩⟩, ?_, ?_⟩
  · exact h.wait.same (fun g e => (heap_set_ne _ _ _ _ (fun k => n1 (by rw [e]; exact congrArg some k))).trans (hb.block g (h.wait.lt e).2.1))
  · exact own_same h.cont (fun g e => (heap_set_ne _ _ _ _ (fun k => n2 (by rw [e]; exact congrArg some k))).trans (hb.block g (own_type h.cont e).2.1))
  · exact own_same (OwnR.mono hq hB) (fun g e => heap_set_ne _ _ _ _ (fun k => by have h1 := hqM g e; have h2 : g = M := k; omega))
  · exact (Apart.of_below hb).set _ _ (foot_mem.2 (.inl rfl))
  · intro g hg2
    rcases foot_mem.1 hg2 with rfl | e | e | e
    · exact .inl (foot_mem.2 (.inl rfl))
    · exact .inl (foot_mem.2 (.inr (.inl e)))
    · exact .inl (foot_mem.2 (.inr (.inr (.inl e))))
    · exact .inr (hqM g e)
end Go.Proofs.Ytcnjcldfbidkmaa
