
/- Stage 16: a list and a box beside the runtime. -/
import Derived.Test.YtcnjcldfbidkmaaWr1
import Derived.Test.YtcnjcldfbidkmaaWl3
namespace Go.Proofs.Ytcnjcldfbidkmaa
open Go.RowKit Go.Sort
set_option linter.unusedVariables false
set_option linter.unusedSimpArgs false
theorem info_intW : (Try.prog.info? 3).map (fun i => (i.zero, i.size, i.bytes)) = some (some (.int .i64 0), 1, 8) := by kernel_rfl
theorem WL.grown {w u v : World} {M : Nat} {X Y : List Nat} {m : WorldV} (h : WL w u M X m) (ha : Apart X u v) (hY : ∀ y ∈ Y, y ∈ X ∨ (u.heap.size ≤ y ∧ y < v.heap.size)) : WL w v M Y m := by
  have h2 := h.mine ha
  have hs := h.below.size
  obtain ⟨F, k1, k2, k3, k4⟩ := h
  refine ⟨F, k1.same (fun b hb => ha.block b (k1.foot_lt b hb).2 (fun hX => (k4 b hX).2.1 hb)), h2.below, k3, fun y hy => ?_⟩
  rcases hY y hy with q | ⟨q1, q2⟩
  · exact ⟨(k4 y q).1, (k4 y q).2.1, Nat.lt_of_lt_of_le (k4 y q).2.2 ha.size⟩
  · exact ⟨Nat.le_trans hs q1, fun hF => absurd (k1.foot_lt _ hF).2 (by omega), q2⟩
theorem KX.blk {X : List Nat} {u v : World} (h : KX X u v) {g : Nat} {C : List Value} {T : TypeId} (hb : Blk u g C T) (hg : g ∈ X) : Blk v g C T := by
  unfold Blk at *; rw [(h g hg).2]; exact hb
def lX (xb : Option Nat) (v : Value) : List Nat := xb.toList ++ v.ownBlock.toList
/-- The runtime, a list of numbers and a container's box. -/
def LifeS (w u : World) (M : Nat) (xb : Option Nat) (v : Value) (l : List Int) (s t : Int) (m : WorldV) : Prop :=
  WL w u M (lX xb v) m ∧ OwnI u w.heap.size 3 .i64 v l ∧ ∀ x, xb = some x → Blk u x [.int .i64 s, .int .i64 t] 38
section
variable {w u u' : World} {M : Nat} {xb : Option Nat} {v : Value} {l : List Int} {s t : Int} {m k : WorldV}
theorem lX_box {x : Nat} (h : xb = some x) : x ∈ lX xb v := by subst h; simp [lX]
theorem lX_own {g : Nat} (h : v.ownBlock = some g) : g ∈ lX xb v := by simp [lX, h]
theorem LifeS.call (h : LifeS w u M xb v l s t m) (hS : WL w u' M (lX xb v) k) (hK : KX (lX xb v) u u') : LifeS w u' M xb v l s t k :=
  ⟨hS, hK.own h.2.1 (fun g e => lX_own e), fun x e => hK.blk (h.2.2 x e) (lX_box e)⟩
theorem LifeS.later (h : LifeS w u M xb v l s t m) (hb : Below u.heap.size u u') : LifeS w u' M xb v l s t m :=
  ⟨h.1.later hb, OwnR.later h.2.1 hb, fun x e => (h.2.2 x e).later hb⟩
theorem LifeS.ne (h : LifeS w u M xb v l s t m) {x : Nat} (hx : xb = some x) {g : Nat} (hg : v.ownBlock = some g) : g ≠ x := fun e => by
  subst e
  obtain ⟨_, _, C, hb⟩ := own_type h.2.1 hg
  exact absurd (hb.type (h.2.2 g hx)) (by decide)
theorem LifeS.store {x : Nat} (h : LifeS w u M (some x) v l s t m) (s2 t2 : Int) : LifeS w ((u.setCell ⟨x, 0, none⟩ (.int .i64 s2)).setCell ⟨x, 1, none⟩ (.int .i64 t2)) M (some x) v l s2 t2 m := by
  have hx : x ∈ lX (some x) v := lX_box rfl
  refine ⟨h.1.mine (((Apart.refl _ _).set _ _ hx).set _ _ hx), own_same h.2.1 (fun g e => ?_), fun y e => ?_⟩
  · have hne := h.ne rfl e
    rw [heap_set_ne _ _ _ _ hne, heap_set_ne _ _ _ _ hne]
  · cases e
    exact ((h.2.2 x rfl).set 0 (.int .i64 s2)).set 1 (.int .i64 t2)
theorem LifeS.box (h : LifeS w u M none v l s t m) (s2 t2 : Int) : LifeS w (u.alloc (.cells #[.int .i64 s2, .int .i64 t2] 38)) M (some u.heap.size) v l s2 t2 m := by
  have hb : Below u.heap.size u (u.alloc (.cells #[.int .i64 s2, .int .i64 t2] 38)) := belAlloc (Below.refl _ _) _
  refine ⟨h.1.grown (Apart.of_below hb) (fun y hy => ?_), OwnR.later h.2.1 hb, fun x e => by cases e; exact Blk.new _ _ _⟩
  unfold lX at hy ⊢
  simp only [Option.toList_some, List.mem_append, List.mem_singleton, Option.toList_none, List.not_mem_nil, false_or] at hy ⊢
  rcases hy with rfl | hy
  · exact .inr ⟨Nat.le_refl _, by simp⟩
  · exact .inl hy
theorem LifeS.app {v' : Value} {l' : List Int} (h : LifeS w u M xb v l s t m) (ho : OwnI u' w.heap.size 3 .i64 v' l') (hg : u.grownBy u' v.ownBlock) (hm : Moved u v v') : LifeS w u' M xb v' l' s t m := by
  refine ⟨h.1.grown (Apart.of_grown hg (fun b e => lX_own e)) (fun y hy => ?_), ho, fun x e => (h.2.2 x e).grown hg (fun q => h.ne e q rfl)⟩
  unfold lX at hy
  rcases List.mem_append.1 hy with q | q
  · exact .inl (List.mem_append_left _ q)
  · rw [Option.mem_toList] at q
    rcases hm y q with r | r
    · exact .inl (lX_own r)
    · exact .inr ⟨r, (own_type ho q).2.1⟩
end
theorem own_lit1 (w : World) (B : Nat) (hB : B ≤ w.heap.size) (c : Int) : OwnI (w.alloc (.cells #[.int .i64 c] 3)) B 3 .i64 (.slice (some ⟨w.heap.size, 0, none⟩) 1 1) [c] :=
  ⟨by simp, .inr ⟨w.heap.size, 1, #[.int .i64 c], rfl, hB, heap_alloc_new _ _, Nat.le_refl _, by unfold maxLen; omega, by simp, by simp⟩⟩
end Go.Proofs.Ytcnjcldfbidkmaa
