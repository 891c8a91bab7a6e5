
/- Stage 16: the runtime beside the document's: plain laws. -/
import Derived.Test.YtcnjcldfbidkmaaWrA
import Derived.Test.YtcnjcldfbidkmaaWm1
import Derived.Test.YtcnjcldfbidkmaaWm2
namespace Go.Proofs.Ytcnjcldfbidkmaa
open Go.RowKit Go.Sort
set_option linter.unusedVariables false
set_option linter.unusedSimpArgs false
/-- The runtime at M, and the document's runtime as a value, with the same behind both; w: the world that the law began in. -/
def JW (w u : World) (M : Nat) (m : WorldV) (v : Value) : Prop := ∃ F, WAt u M M F m ∧ RIs F u v m ∧ Below w.heap.size w u ∧ w.heap.size ≤ M
theorem Apart.weaken {F G : List Nat} {u v : World} (h : Apart F u v) (hF : ∀ b ∈ F, b ∈ G) : Apart G u v := ⟨h.os, h.tape, h.output, h.size, fun b hb hG => h.block b hb (fun q => hG (hF b q))⟩
/-- As JW, and what all that was there before the act, but what the runtime had, is: as it was. -/
def JX (w u0 u : World) (M : Nat) (X F : List Nat) (m : WorldV) (v : Value) : Prop := ∃ G, WAt u M M G m ∧ RIs (X ++ G) u v m ∧ Below w.heap.size w u ∧ w.heap.size ≤ M ∧ Apart F u0 u ∧ ∀ b ∈ G, b ∈ F ∨ u0.heap.size ≤ b
theorem Apart.setNew {F : List Nat} {u v : World} (h : Apart F u v) (a : Addr) (x : Value) (ha : u.heap.size ≤ a.block) : Apart F u (v.setCell a x) := by
  have hz : (v.setCell a x).heap.size = v.heap.size := by unfold World.setCell; split <;> simp
  refine ⟨?_, ?_, ?_, by rw [hz]; exact h.size, fun b hb hF => ?_⟩
  · rw [← h.os]; unfold World.setCell; split <;> rfl
  · rw [← h.tape]; unfold World.setCell; split <;> rfl
  · rw [← h.output]; unfold World.setCell; split <;> rfl
  · rw [Below.heap_setCell _ _ _ _ (by omega)]; exact h.block b hb hF
theorem JW.below {w u : World} {M : Nat} {m : WorldV} {v : Value} (h : JW w u M m v) : Below w.heap.size w u := by obtain ⟨F, _, _, h, _⟩ := h; exact h
theorem JW.later {w u x : World} {M : Nat} {m : WorldV} {v : Value} (h : JW w u M m v) (hb : Below u.heap.size u x) : JW w x M m v := by
  obtain ⟨F, h1, h2, h3, h4⟩ := h
  exact ⟨F, h1.later hb, h2.later hb, belStep h3 hb, h4⟩
/-- The runtime did what the document's did before. -/
theorem jw_run {w u x : World} {M : Nat} {F : List Nat} {m k : WorldV} {v : Value} (h1 : WAt u M M F m) (h2 : RIs F u v k) (h3 : Below w.heap.size w u) (h4 : w.heap.size ≤ M) (hT : WTo u x M M F k) : JW w x M k v := by
  have hbl := hT.below h1 h4 h3.size
  obtain ⟨G, k1, k2, k3⟩ := hT
  have r1 : RIs (F ++ G) u v k := h2.more (fun b hb => by
    rcases List.mem_append.1 hb with q | q
    · exact .inl q
    · exact k3 b q)
  have r2 := r1.apart (k2.weaken (fun b hb => List.mem_append_left G hb))
  exact ⟨G, k1, r2.more (fun b hb => .inl (List.mem_append_right F hb)), h3.trans hbl, h4⟩
/-- Blocks of the law that the runtime leaves alone. -/
theorem foot_not {u : World} {B M : Nat} {F : List Nat} {m : WorldV} (h : WAt u B M F m) {x : Nat} (hx : u.heap.size ≤ x) : x ∉ F := fun q => absurd (h.foot_lt x q).2 (by omega)
def stepW (m : WorldV) (x : ActW) : WorldV :=
  if x.op = 0 then m.fed x.V else if x.op = 1 then { m with boxes := createC m.boxes x.id x.round } else if x.op = 2 then askW m x.id x.what x.round
  else if x.op = 3 then pullW m x.id x.name x.size x.round else if x.op = 4 then dropW m x.name else touchW m x.U x.round
theorem good_step {n : Nat} {m : WorldV} (h : m.Good n) {W : World} {x : ActW} (hx : x.good W) : (stepW m x).Good (n + 1) := by
  obtain ⟨⟨_, h1, _, _, _, h2, _⟩, _⟩ := hx
  unfold stepW
  split
  · exact (good_fed h _).mono (Nat.le_succ _)
  · split
    · exact good_create h h1 h2
    · split
      · exact (good_ask h _ _ h2).mono (Nat.le_succ _)
      · split
        · exact good_pull h _ _ _ h2
        · split
          · exact (good_drop h _).mono (Nat.le_succ _)
          · exact (good_touch h _ _).mono (Nat.le_succ _)
def afterW (r : Int) (L : List ActW) : WorldV := L.foldl stepW ⟨r, [], [], []⟩
theorem afterW_next {r : Int} {L : List ActW} {k : Nat} {x : ActW} (h : L[k]? = some x) : afterW r (L.take (k + 1)) = stepW (afterW r (L.take k)) x := by
  unfold afterW; rw [takeG_next h, List.foldl_append]; rfl
theorem afterW_good {W : World} (r : Int) : ∀ (k : Nat) (L : List ActW), (∀ x ∈ L, x.good W) → k ≤ L.length → (afterW r (L.take k)).Good k := by
  intro k L hL hk
  induction k with
  | zero => exact good_new r
  | succ k ih =>
    have hx : L[k]? = some L[k] := List.getElem?_eq_getElem (by omega)
    rw [afterW_next hx]
    exact good_step (ih (by omega)) (hL _ (List.getElem_mem _))
end Go.Proofs.Ytcnjcldfbidkmaa
