
/- bilgeref21.Has and Fixed: contracts. -/
import Derived.Test.YtbifmmdiekodjaaVicT
namespace Go.Proofs.Ytbifmmdiekodjaa
open Go.RowKit
set_option linter.unusedVariables false
set_option linter.unusedSimpArgs false
def hasB (G : List ByteArray) (s : ByteArray) : Bool := G.any fun t => t.toList == s.toList
theorem has_next {G : List ByteArray} {k : Nat} {t s : ByteArray} (h : G[k]? = some t) : hasB (G.take (k + 1)) s = (hasB (G.take k) s || (t.toList == s.toList)) := by
  unfold hasB
  rw [List.take_add_one, h, List.any_append]
  simp
theorem has_now {G : List ByteArray} {k : Nat} {t s : ByteArray} (h : G[k]? = some t) (he : (t.toList == s.toList) = true) : hasB G s = true :=
  List.any_eq_true.2 ⟨t, List.mem_of_getElem? h, he⟩
end Go.Proofs.Ytbifmmdiekodjaa
