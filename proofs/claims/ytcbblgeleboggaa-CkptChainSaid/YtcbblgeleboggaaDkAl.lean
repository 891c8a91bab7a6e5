
/- Stage 10: alike: contract. -/
import Derived.Test.YtcbblgeleboggaaDkRd
import Derived.BigQuiet
namespace Go.Proofs.Ytcbblgeleboggaa
open Go.RowKit Go.Sort Go.Maps Go.WideMaps
set_option linter.unusedVariables false
set_option linter.unusedSimpArgs false
theorem names_step {P : ByteArray → Prop} (L : List FileM) (o : MOp) (h : ∀ f ∈ L, P f.name) (h1 : P o.name) (h2 : P o.dst) : ∀ f ∈ applyF L o, P f.name := by
  have hput : ∀ (L : List FileM) (s : ByteArray) (Z : List Int), (∀ f ∈ L, P f.name) → P s → ∀ f ∈ putF L s Z, P f.name := by
    intro L s Z hL hs f hf
    unfold putF at hf
    rcases List.mem_append.1 hf with q | q
    · exact hL f (List.mem_filter.1 q).1
    · rcases List.mem_cons.1 q with rfl | q
      · exact hs
      · exact hL f (List.mem_filter.1 q).1
  have hdel : ∀ (L : List FileM) (s : ByteArray), (∀ f ∈ L, P f.name) → ∀ f ∈ delF L s, P f.name := fun L s hL f hf => hL f (List.mem_filter.1 hf).1
  unfold applyF moveF
  split
  · exact hput _ _ _ h h1
  · split
    · split
      · exact h
      · split
        · exact h
        · exact hdel _ _ (hput _ _ _ h h2)
    · split
      · exact hdel _ _ h
      · exact h
theorem names_fold {P : ByteArray → Prop} : ∀ (D : List MOp) (L : List FileM), (∀ f ∈ L, P f.name) → (∀ o ∈ D, P o.name ∧ P o.dst) → ∀ f ∈ D.foldl applyF L, P f.name
  | [], L, h, _ => h
  | o :: D, L, h, h2 => names_fold D _ (names_step L o h (h2 o List.mem_cons_self).1 (h2 o List.mem_cons_self).2) (fun x hx => h2 x (List.mem_cons_of_mem _ hx))
theorem DAt.small {w : World} {M : Nat} {X F : List Nat} {d : DiskV} (h : DAt w M X F d) (hs : SortedF d.files) : ∀ f ∈ d.look, f.name.size ≤ maxLen := by
  obtain ⟨p, v, T, rfl, _, hp, _, hT, hz, _⟩ := h
  refine names_fold (P := fun s => s.size ≤ maxLen) d.done d.files ?_ ?_
  · rcases hp with ⟨_, e⟩ | ⟨mb, n, D, _, _, hm, hl, _⟩
    · rw [e]; intro f hf; cases hf
    · intro f hf
      have h1 := (names_perm hm hl hs).subset (List.mem_map.2 ⟨f, hf, rfl⟩)
      have h2 := strKeys_le hm Try.underlying9 _ h1
      rw [ByteArray.toList_eq, Array.length_toList] at h2
      exact h2
  · intro o ho
    rw [← hT] at ho
    obtain ⟨x, hx, rfl⟩ := List.mem_map.1 ho
    exact ⟨(hz x hx).2.1, (hz x hx).2.2.1⟩
theorem DKv.small {B : Nat} {w : World} {M : Nat} {X : List Nat} {d : DiskV} (h : DKv B w M X d) (hs : SortedF d.files) : ∀ f ∈ d.look, f.name.size ≤ maxLen := by
  obtain ⟨F, h1, _⟩ := h
  exact h1.small hs
theorem row_cell {w : World} {a : Option Addr} {n c : Nat} {cs : List Value} (h : Row w a n c 1 cs) {k : Nat} {v : Value} (hk : cs[k]? = some v) : ∃ b o, a = some ⟨b, o, none⟩ ∧ w.cell? ⟨b, o + k, none⟩ = some v := by
  obtain ⟨_, _, _, _, h5⟩ := h
  have hl : k < cs.length := by rw [List.getElem?_eq_some_iff] at hk; exact hk.1
  rcases h5 with h5 | ⟨b, o, e, h5⟩
  · rw [h5] at hl; simp at hl
  · refine ⟨b, o, e, ?_⟩
    rw [← hk]; exact h5 k hl
theorem row_cell_at {w : World} {b o n c : Nat} {cs : List Value} (h : Row w (some ⟨b, o, none⟩) n c 1 cs) {k : Nat} {v : Value} (hk : cs[k]? = some v) : w.cell? ⟨b, o + k, none⟩ = some v := by
  obtain ⟨b2, o2, e, h2⟩ := row_cell h hk
  simp only [Option.some.injEq, Addr.mk.injEq, and_true] at e
  obtain ⟨rfl, rfl⟩ := e
  exact h2
end Go.Proofs.Ytcbblgeleboggaa
