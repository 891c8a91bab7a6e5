
/- Stage 10: disk.Copy: contract. -/
import Derived.Test.YtcbblgeleboggaaDkP
import Derived.Maps.RangeWalk
import Derived.Laws.IdiomRangeMap
import Derived.Sort.KeysCollected
namespace Go.Proofs.Ytcbblgeleboggaa
open Go.RowKit Go.Sort Go.Maps Go.WideMaps
set_option linter.unusedVariables false
set_option linter.unusedSimpArgs false
theorem key_str {s : ByteArray} {kl : Lit} (h : keyOf Try.prog 9 (.string s) = some kl) : kl = keyD s ∧ s.size ≤ maxLen := by
  obtain ⟨x, hx, hk2, hk3⟩ := Maps.keyOf_str Try.underlying9 h
  have e : s = ⟨x.toArray⟩ := by simpa [encStr] using hx
  subst e
  exact ⟨hk2, hk3⟩
theorem bel_grown {u w : World} {row : Option Nat} {B : Nat} (h : u.grownBy w row) (hr : ∀ j, row = some j → B ≤ j) (hB : B ≤ u.heap.size) : Below B u w :=
  ⟨h.os, h.tape, h.output, h.size, fun i hi => h.block i (by omega) (fun e => by have := hr i e.symm; omega)⟩
theorem bel_none {u w : World} (h : Below u.heap.size u w) : u.grownBy w none := ⟨h.os, h.tape, h.output, h.size, fun i hi _ => h.block i hi⟩
theorem ownsMap_tight {w : World} {b n : Nat} {D : DataW Value} (h : w.ownsMap Try.prog 9 RH b n D) : w.ownsMap Try.prog 9 RH b (Maps.size D) D := by
  obtain ⟨es, clock, hb, Ft, hs, rfl⟩ := h
  exact ⟨es, clock, hb, Ft, by rw [Maps.size_eq, length_sorted]; simp, rfl⟩
theorem put_self {L : List FileM} (h : SortedF L) {s : ByteArray} {Z : List Int} (hg : getF L s = some Z) : putF L s Z = L := by
  refine files_ext (sorted_putF h _ _) h (fun t => ?_)
  rw [find_putF]
  split
  · rename_i e
    rw [← ba_ext (eq_of_beq e), hg]
  · rfl
section
variable {P : Program} {w : World} {o : Oper} {a : Act} {K : Act → World → Prop} {Q : Exit → Act → World → Prop} {E : Prop}
theorem op_mapM {ops : Array Oper} {tm : Array Value} (hg : o.guard = none) (m x v : Operand) (t : TypeId) (hop : o.op = Op.mapUpdate t m x v) (k e : TypeId) (Kd : Keyed P k) (ht : P.underlying t = some (.map k e)) (b n : Nat) (D : DataW Value)
    (hm : a.eval m = .map (some b)) (hown : w.ownsMap P k RH b n D) (hn : n < maxLen) (key val : Value) (kl : Lit) (hx : a.eval x = key) (hv : a.eval v = val) (hkey : keyOf P k key = some kl)
    (h : ∀ w', w'.ownsMap P k RH b (n + 1) (D.put kl (.held val)) → w.mapTurned w' b → K (a.put o.dst undef) w') : if Region.wanted o (yielded ops tm) = true then Oper.wp P o a w K Q else E := by
  have hw : Region.wanted o (yielded ops tm) = true := by simp [Region.wanted, hg]
  rw [if_pos hw]
  obtain ⟨w', hrun, r1, r2⟩ := hown.store Kd ht hn hkey (show RH val = some (.held val, []) from rfl)
  unfold Oper.wp
  simp [execOp, hop, hm, hx, hv, hrun, Result.andThen]
  exact h w' r1 r2
end
end Go.Proofs.Ytcbblgeleboggaa
