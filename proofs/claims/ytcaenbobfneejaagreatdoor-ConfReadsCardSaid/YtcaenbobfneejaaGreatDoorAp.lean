
/- Blocks let alone: plain laws. -/
import Derived.Test.YtcaenbobfneejaaGreatDoorInsK
import Derived.Test.YtcaenbobfneejaaGreatDoorRead
namespace Go.Proofs.YtcaenbobfneejaaGreatDoor
open Go.RowKit Go.Sort
set_option linter.unusedVariables false
set_option linter.unusedSimpArgs false
/-- All but these blocks is as it was. -/
structure Apart (F : List Nat) (u v : World) : Prop where
  os : v.os = u.os
  tape : v.tape = u.tape
  output : v.output = u.output
  size : u.heap.size ≤ v.heap.size
  block : ∀ b, b < u.heap.size → b ∉ F → v.heap[b]? = u.heap[b]?
theorem Apart.refl (F : List Nat) (u : World) : Apart F u u := ⟨rfl, rfl, rfl, Nat.le_refl _, fun _ _ _ => rfl⟩
theorem Apart.of_below {F : List Nat} {u v : World} (h : Below u.heap.size u v) : Apart F u v := ⟨h.os, h.tape, h.output, h.size, fun b hb _ => h.block b hb⟩
theorem Apart.of_grown {F : List Nat} {u v : World} {r : Option Nat} (h : u.grownBy v r) (hr : ∀ b, r = some b → b ∈ F) : Apart F u v :=
  ⟨h.os, h.tape, h.output, h.size, fun b hb hF => h.block b hb (fun e => hF (hr b e.symm))⟩
theorem Apart.trans {F : List Nat} {u v x : World} (h : Apart F u v) (k : Apart F v x) : Apart F u x :=
  ⟨k.os.trans h.os, k.tape.trans h.tape, k.output.trans h.output, Nat.le_trans h.size k.size, fun b hb hF => (k.block b (Nat.lt_of_lt_of_le hb h.size) hF).trans (h.block b hb hF)⟩
/-- From a list of blocks to one that has some of them and new ones. -/
theorem Apart.trans2 {F G : List Nat} {u v x : World} (h : Apart F u v) (k : Apart G v x) (hG : ∀ b ∈ G, b ∈ F ∨ u.heap.size ≤ b) : Apart F u x :=
  ⟨k.os.trans h.os, k.tape.trans h.tape, k.output.trans h.output, Nat.le_trans h.size k.size, fun b hb hF => (k.block b (Nat.lt_of_lt_of_le hb h.size) (fun q => (hG b q).elim hF (fun r => absurd hb (by omega)))).trans (h.block b hb hF)⟩
theorem Apart.set {F : List Nat} {u v : World} (h : Apart F u v) (a : Addr) (x : Value) (ha : a.block ∈ F) : Apart F u (v.setCell a x) := by
  have hz : (v.setCell a x).heap.size = v.heap.size := by unfold World.setCell; split <;> simp
  refine ⟨?_, ?_, ?_, by rw [hz]; exact h.size, fun b hb hF => ?_⟩
  · rw [← h.os]; unfold World.setCell; split <;> rfl
  · rw [← h.tape]; unfold World.setCell; split <;> rfl
  · rw [← h.output]; unfold World.setCell; split <;> rfl
  · rw [Below.heap_setCell _ _ _ _ (fun e => hF (by rw [e]; exact ha))]; exact h.block b hb hF
theorem Apart.below {F : List Nat} {u v : World} {B : Nat} (h : Apart F u v) (hF : ∀ b ∈ F, B ≤ b) (hB : B ≤ u.heap.size) : Below B u v :=
  ⟨h.os, h.tape, h.output, h.size, fun b hb => h.block b (by omega) (fun q => absurd (hF b q) (by omega))⟩
theorem Apart.row {F : List Nat} {u v : World} {a : Option Addr} {len cap k : Nat} {cs : List Value} (h : Apart F u v) (hr : Row u a len cap k cs) (hF : cs ≠ [] → ∀ x, a = some x → x.block ∉ F) : Row v a len cap k cs := by
  obtain ⟨h1, h2, h3, h4, h5⟩ := hr
  refine ⟨h1, h2, h3, h4, ?_⟩
  rcases h5 with h5 | ⟨b, off, rfl, h5⟩
  · exact .inl h5
  · by_cases hc : cs = []
    · exact .inl hc
    · refine .inr ⟨b, off, rfl, fun i hi => ?_⟩
      have hb : b < u.heap.size := by
        have h6 := h5 0 (List.length_pos_iff.2 hc)
        rw [List.getElem?_eq_getElem (List.length_pos_iff.2 hc)] at h6
        exact World.block_lt_of_cell? _ _ h6
      have he := h.block b hb (hF hc _ rfl)
      rw [← h5 i hi]
      unfold World.cell?
      rw [he]
theorem Blk.apart {F : List Nat} {u v : World} {g : Nat} {C : List Value} {T : TypeId} (hb : Blk u g C T) (h : Apart F u v) (hF : g ∉ F) : Blk v g C T := by
  have h1 := hb.lt
  unfold Blk at *
  rw [h.block g h1 hF]; exact hb
theorem Blk.type {w : World} {g : Nat} {C D : List Value} {S T : TypeId} (h : Blk w g C S) (k : Blk w g D T) : S = T := by
  unfold Blk at h k
  rw [h] at k
  simp at k
  exact k.2
theorem own_type {w : World} {B k n : Nat} {E : TypeId} {v : Value} {cs : List Value} (h : OwnR w B E k v n cs) {g : Nat} (e : v.ownBlock = some g) : B ≤ g ∧ g < w.heap.size ∧ ∃ C, Blk w g C E := by
  rcases own_open h with ⟨rfl, _, _⟩ | ⟨g2, cap, C, rfl, hB, hb, _⟩
  · cases e
  · cases e; exact ⟨hB, hb.lt, C, hb⟩
theorem heap_set_ne (w : World) (a : Addr) (x : Value) (g : Nat) (h : g ≠ a.block) : (w.setCell a x).heap[g]? = w.heap[g]? := Below.heap_setCell _ _ _ _ h
theorem own_same {u x : World} {B k n : Nat} {E : TypeId} {v : Value} {cs : List Value} (h : OwnR u B E k v n cs) (hx : ∀ g, v.ownBlock = some g → x.heap[g]? = u.heap[g]?) : OwnR x B E k v n cs := by
  refine ⟨h.1, h.2.imp id ?_⟩
  rintro ⟨g, cap, cur, rfl, hB, hb, h4⟩
  exact ⟨g, cap, cur, rfl, hB, by rw [hx g rfl]; exact hb, h4⟩
theorem Apart.weaken {F G : List Nat} {u v : World} (h : Apart F u v) (hF : ∀ b ∈ F, b ∈ G) : Apart G u v := ⟨h.os, h.tape, h.output, h.size, fun b hb hG => h.block b hb (fun q => hG (hF b q))⟩
theorem Apart.setNew {F : List Nat} {u v : World} (h : Apart F u v) (a : Addr) (x : Value) (ha : u.heap.size ≤ a.block) : Apart F u (v.setCell a x) := by
  have hz : (v.setCell a x).heap.size = v.heap.size := by unfold World.setCell; split <;> simp
  refine ⟨?_, ?_, ?_, by rw [hz]; exact h.size, fun b hb hF => ?_⟩
  · rw [← h.os]; unfold World.setCell; split <;> rfl
  · rw [← h.tape]; unfold World.setCell; split <;> rfl
  · rw [← h.output]; unfold World.setCell; split <;> rfl
  · rw [Below.heap_setCell _ _ _ _ (by omega)]; exact h.block b hb hF
theorem row_ltF {u : World} {a : Option Addr} {n c k : Nat} {cs : List Value} (h : Row u a n c k cs) (hc : cs ≠ []) {x : Addr} (e : a = some x) : x.block < u.heap.size := by
  obtain ⟨_, _, _, _, h5⟩ := h
  rcases h5 with h5 | ⟨b, o, e2, h5⟩
  · exact absurd h5 hc
  · rw [e] at e2; cases e2
    have h6 := h5 0 (List.length_pos_iff.2 hc)
    rw [List.getElem?_eq_getElem (List.length_pos_iff.2 hc)] at h6
    exact World.block_lt_of_cell? _ _ h6
theorem notin_flat {α : Type} {f : α → List Value} {L : List α} {k : Nat} (hf : ∀ x, (f x).length = k) (hk : 0 < k) (h : L ≠ []) : L.flatMap f ≠ [] := by
  cases L with
  | nil => exact absurd rfl h
  | cons x l => intro e; have := congrArg List.length e; rw [List.flatMap_cons, List.length_append, hf x] at this; simp at this; omega
theorem Blk.grown {w w' : World} {M : Nat} {C : List Value} {T : TypeId} {v : Value} (h : Blk w M C T) (hg : w.grownBy w' v.ownBlock) (hne : v.ownBlock ≠ some M) : Blk w' M C T := by
  have hl := h.lt
  unfold Blk at *
  rw [hg.block M hl (fun e => hne e.symm)]; exact h
end Go.Proofs.YtcaenbobfneejaaGreatDoor
