/- What bilgeref21.Choose answers, as a row that stays; rows of texts that the call owns and stores into. -/
import Derived.Test.YtafojeeehehplaaVicRC
namespace Go.Proofs.Ytafojeeehehplaa
open Go.RowKit
set_option linter.unusedVariables false
set_option linter.unusedSimpArgs false
theorem rchoose_call (R : Room) (p : PodV) (c : Option (List ByteArray)) (a : Option Addr) (len cap : Nat) (L : List PodV) (v : World) (hl : L.length = len) (hok : ∀ x ∈ L, x.ok) (hR : Row v a len cap 11 (L.flatMap PodV.cells)) (hd : Dist L) (hb : len ≤ 400) (hp : p.ok) (hc : chooseF R L p = c) :
    Calls Try.prog 29 #[.agg #[.int .i64 R.a, .int .i64 R.b, .int .i64 R.c], .slice a len cap, .agg #[.string p.id, .int .i64 p.prio, .bool p.crit, .int .i64 p.r0, .int .i64 p.r1, .int .i64 p.r2, .int .i64 p.l0, .int .i64 p.l1, .int .i64 p.l2, .string p.img, .int .i64 p.size]] v fun e w' => (∃ b n, e = .returned (.tuple #[.slice b (c.getD []).length n, .bool c.isSome]) ∧ Row w' b (c.getD []).length n 1 ((c.getD []).map Value.string)) ∧ Below v.heap.size v w' := by
  refine (vref_Choose R p a len cap L v hl hok hR hd hb hp).mono ?_
  rintro e w' ⟨hr, hb⟩
  refine ⟨?_, hb⟩
  rw [hc] at hr
  rcases hr with ⟨rfl, rfl⟩ | ⟨G, v5, rfl, rfl, hO⟩
  · exact ⟨none, 0, rfl, rfl, Nat.le_refl _, by unfold maxLen; omega, fun _ => ⟨rfl, rfl⟩, .inl rfl⟩
  · obtain ⟨a5, c5, rfl, h5⟩ := rowR_of_own hO
    exact ⟨a5, c5, rfl, h5⟩
theorem own_shape {w : World} {B : Nat} {e : TypeId} {size : Nat} {v : Value} {n : Nat} {cs : List Value} (h : OwnR w B e size v n cs) :
    (v = .slice none 0 0 ∧ n = 0) ∨ ∃ g cap, v = .slice (some ⟨g, 0, none⟩) n cap ∧ B ≤ g ∧ g < w.heap.size ∧ n ≤ cap ∧ cap ≤ 9223372036854775807 := by
  obtain ⟨h1, h2⟩ := h
  rcases h2 with ⟨rfl, hn⟩ | ⟨g, cap, cur, rfl, hg, hh, hl, hm, hc, ht⟩
  · exact .inl ⟨rfl, hn⟩
  · exact .inr ⟨g, cap, rfl, hg, (Array.getElem?_eq_some_iff.1 hh).1, hl, by unfold maxLen at hm; omega⟩
theorem owns_at {w : World} {B : Nat} {e : TypeId} {g n cap : Nat} {cs : List Value} (h : OwnR w B e 1 (.slice (some ⟨g, 0, none⟩) n cap) n cs) {i : Nat} (hi : i < n) : (∃ u, w.cell? ⟨g, i, none⟩ = some u) ∧ w.frozen? ⟨g, i, none⟩ = false := by
  have hn : cs.length = n := by have := h.1; omega
  refine ⟨⟨cs[i]'(by omega), ?_⟩, World.ownsRow.frozenAt h i⟩
  · rw [World.ownsRow.cellAt h i (by omega)]
    exact List.getElem?_eq_getElem (by omega)
theorem owns_set {w : World} {B : Nat} {e : TypeId} {g n cap : Nat} {cs : List Value} (h : OwnR w B e 1 (.slice (some ⟨g, 0, none⟩) n cap) n cs) (i : Nat) (u : Value) : OwnR (w.setCell ⟨g, i, none⟩ u) B e 1 (.slice (some ⟨g, 0, none⟩) n cap) n (cs.set i u) :=
  (World.ownsRow.stored h i u).1
end Go.Proofs.Ytafojeeehehplaa
