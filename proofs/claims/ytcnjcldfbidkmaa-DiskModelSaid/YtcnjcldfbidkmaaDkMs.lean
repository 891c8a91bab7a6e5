
/- Stage 10: the memory of the rounds of DiskModel: plain laws. -/
import Derived.Test.YtcnjcldfbidkmaaDkMm
namespace Go.Proofs.Ytcnjcldfbidkmaa
open Go.RowKit Go.Sort Go.Maps
set_option linter.unusedVariables false
set_option linter.unusedSimpArgs false
theorem FIn.cut {X : List Nat} {w : World} {v : Value} {K : List FileV} (h : FIn X w v K) : FIn (X.filter (fun b => decide (b < w.heap.size))) w v K := by
  obtain ⟨a, c, h1, h2, h3, h4⟩ := h
  exact ⟨a, c, h1, h2, fun q x e => List.mem_filter.2 ⟨h3 q x e, decide_eq_true (row_ltF h2 q e)⟩, fun f hf => ⟨(h4 f hf).1, fun q x e => List.mem_filter.2 ⟨(h4 f hf).2 q x e, decide_eq_true (row_ltF (h4 f hf).1.1.1 (by simpa using q) e)⟩⟩⟩
/-- The memory of a round: disks l, the files v with K in the blocks XF, the row ov of the ops T behind Bo. -/
structure MemS (w0 w : World) (XF : List Nat) (Bo : Nat) (fv ov : Value) (K : List FileV) (T : List OpV) (l : List (Nat × DiskV)) : Prop where
  pool : Pool w0.heap.size w (XF ++ ov.ownBlock.toList) l
  fin : FIn XF w fv K
  xlt : ∀ b ∈ XF, b < Bo
  bo : Bo ≤ w.heap.size
  own : OwnR w Bo 70 4 ov T.length (T.flatMap OpV.cells)
  wbo : w0.heap.size ≤ Bo
  bel : Below w0.heap.size w0 w
variable {w0 u w : World} {XF : List Nat} {Bo : Nat} {fv ov : Value} {K : List FileV} {T : List OpV} {l l2 : List (Nat × DiskV)}
theorem MemS.xall (h : MemS w0 u XF Bo fv ov K T l) : ∀ b ∈ XF ++ ov.ownBlock.toList, b < u.heap.size := fun b hb => by
  rcases List.mem_append.1 hb with q | q
  · exact Nat.lt_of_lt_of_le (h.xlt b q) h.bo
  · exact (own_type h.own (Option.mem_toList.1 q)).2.1
theorem MemS.act (h : MemS w0 u XF Bo fv ov K T l) (hp : Pool w0.heap.size w (XF ++ ov.ownBlock.toList) l2) (hb : Below w0.heap.size u w) (hf : Free (XF ++ ov.ownBlock.toList) u w) : MemS w0 w XF Bo fv ov K T l2 := by
  have hs : u.heap.size ≤ w.heap.size := hb.size
  obtain ⟨F, hA, hF⟩ := hf
  exact ⟨hp, h.fin.apart hA (fun b q => hF b (List.mem_append_left _ q)), h.xlt, Nat.le_trans h.bo hs, own_same h.own (fun g e => hA.block g (own_type h.own e).2.1 (hF g (List.mem_append_right _ (Option.mem_toList.2 e)))), h.wbo, h.bel.trans hb⟩
theorem free_below {X : List Nat} (h : Below u.heap.size u w) : Free X u w := ⟨[], Apart.of_below h, fun _ _ => List.not_mem_nil⟩
theorem MemS.grow (h : MemS w0 u XF Bo fv ov K T l) (hp : Pool w0.heap.size w (XF ++ ov.ownBlock.toList) l2) (hb : Below u.heap.size u w) : MemS w0 w XF Bo fv ov K T l2 := h.act hp (hb.mono h.bel.size) (free_below hb)
theorem MemS.later (h : MemS w0 u XF Bo fv ov K T l) (hb : Below u.heap.size u w) : MemS w0 w XF Bo fv ov K T l := h.grow (h.pool.later hb) hb
theorem MemS.app {ov2 : Value} {T2 : List OpV} (h : MemS w0 u XF Bo fv ov K T l) (ho : OwnR w Bo 70 4 ov2 T2.length (T2.flatMap OpV.cells)) (hg : u.grownBy w ov.ownBlock) (hm : Moved u ov ov2) (hb : Below Bo u w) : MemS w0 w XF Bo fv ov2 K T2 l := by
  have hA : Apart ov.ownBlock.toList u w := Apart.of_grown hg (fun b e => Option.mem_toList.2 e)
  refine ⟨((h.pool.more (Y := (XF ++ ov.ownBlock.toList) ++ ov2.ownBlock.toList) (fun b q => ?_)).mine (hA.weaken (fun b q => List.mem_append_left _ (List.mem_append_right _ q)))).more (fun b q => .inl ?_), h.fin.apart hA (fun b q r => ?_), h.xlt, Nat.le_trans h.bo hb.size, ho, h.wbo, h.bel.trans (hb.mono h.wbo)⟩
  · rcases List.mem_append.1 q with r | r
    · exact .inl r
    · rcases hm b (Option.mem_toList.1 r) with z | z
      · exact .inl (List.mem_append_right _ (Option.mem_toList.2 z))
      · exact .inr z
  · rcases List.mem_append.1 q with r | r
    · exact List.mem_append_left _ (List.mem_append_left _ r)
    · exact List.mem_append_right _ r
  · have h1 := h.xlt b q
    have h2 := (own_type h.own (Option.mem_toList.1 r)).1
    omega
theorem MemS.reset {fv2 : Value} {K2 : List FileV} (h : MemS w0 u XF Bo fv ov K T l) (hz : ∃ Z, FIn Z w fv2 K2 ∧ ∀ b ∈ Z, b ∈ XF ∨ u.heap.size ≤ b) (hb : Below u.heap.size u w) : ∃ Z, MemS w0 w Z w.heap.size fv2 (.slice none 0 0) K2 [] l := by
  obtain ⟨Z, z1, z2⟩ := hz
  exact ⟨Z.filter (fun b => decide (b < w.heap.size)), (h.pool.more (fun b q => by
    rcases List.mem_append.1 q with r | r
    · exact (z2 b (List.mem_filter.1 r).1).imp (fun y => List.mem_append_left _ y) id
    · cases r)).later hb, z1.cut, fun b q => of_decide_eq_true (List.mem_filter.1 q).2, Nat.le_refl _, OwnR.nil _ _ _ _, Nat.le_trans h.bel.size hb.size, h.bel.trans (hb.mono h.bel.size)⟩
end Go.Proofs.Ytcnjcldfbidkmaa
