
/- bilgeref21.put: contract. -/
import Derived.Test.YtbifmmdiekodjaaVicH
namespace Go.Proofs.Ytbifmmdiekodjaa
open Go.RowKit
set_option linter.unusedVariables false
set_option linter.unusedSimpArgs false
/-- Texts, rising, one more: a text of the list comes up. -/
def stepQ (s : ByteArray) (r : List ByteArray × Bool) (t : ByteArray) : List ByteArray × Bool := if !r.2 && (!Op.bytesLess t.toList s.toList && !(t.toList == s.toList)) then (r.1 ++ [s] ++ [t], true) else (r.1 ++ [t], r.2)
def putF (G : List ByteArray) (s : ByteArray) : List ByteArray := let r := G.foldl (stepQ s) ([], false); if r.2 then r.1 else r.1 ++ [s]
theorem put_next {G : List ByteArray} {s t : ByteArray} {k : Nat} {r : List ByteArray × Bool} (h : G[k]? = some t) (hr : (G.take k).foldl (stepQ s) ([], false) = r) : (G.take (k + 1)).foldl (stepQ s) ([], false) = stepQ s r t := by
  rw [List.take_add_one, h, List.foldl_append, hr]
  rfl
theorem own_text {w : World} {B : Nat} {v : Value} {O : List ByteArray} {s : ByteArray} (h : OwnR w B 9 1 v (O.length + 1) (O.map Value.string ++ [.string s])) : OwnS w B v (O ++ [s]) := by
  unfold OwnS
  rw [List.map_append, List.length_append]
  exact h
theorem own_text2 {w : World} {B : Nat} {v : Value} {O : List ByteArray} {s t : ByteArray} (h : OwnR w B 9 1 v (O.length + 1 + 1) (O.map Value.string ++ [.string s, .string t])) : OwnS w B v (O ++ [s] ++ [t]) := by
  unfold OwnS
  simp only [List.map_append, List.length_append, List.append_assoc]
  exact h
end Go.Proofs.Ytbifmmdiekodjaa
