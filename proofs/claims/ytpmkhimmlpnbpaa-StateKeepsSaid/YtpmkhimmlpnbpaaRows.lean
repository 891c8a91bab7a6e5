/-
  No cell of these rows narrows 'for every input' (looked for: loops, veiled, ifaces, maps, wideKeys, modest, calm, conditions, laid).
  DERIVED. THE GIVEN ROWS OF THIS SEAT. 8 by the template 'for every input the law returns true; each argument reads behind the call as it read before'; 0 by the template 'total and deterministic' (their statements: YtpmkhimmlpnbpaaTotals.lean).
  GIVEN WITH THE SEED: the statements are not yours to turn. If you find one false, say at which input.
  Laid BY PROGRAM, IN A SANDBOX (cutbox-rows.mjs): the forced cells as the released guide's own fill.sh prints them over the translation 62eb0f65d7afcca1… (all of the seat's roots in one cut). By AI agents, Wed Nov 11 2026. No macro, syntax, notation, axiom, sorry.
-/
import Derived.Test.YtpmkhimmlpnbpaaChecked
import GoSem.Claim
import GoSem.ClaimJoined
import GoSem.ClaimMapViews
import Derived.JoinedTies
import Derived.KernelRfl
namespace Go.Proofs.Ytpmkhimmlpnbpaa
/- THE CELL 'sum', in the pinned program and in every row, IS THE sha256 OF THE DUMP (.gsa) THAT YtpmkhimmlpnbpaaProg.lean LOADS. Nothing in Lean hashes anything: it is a label: what it is worth is what the hold of that sum in a sandbox is worth. -/
noncomputable def Try.pinned : Pinned := { name := "ytpmkhimmlpnbpaa", sum := "62eb0f65d7afcca1da7c17d2f02651941f2c571302863ec0bf082d73512c5693", checked := Try.checked }
namespace Rows
def none {H : Type} : Left H := { results := [], args := [] }

/-- 'bilgelaw24.StatePuts': WHATEVER THE INPUT: true; the input reads as it did. -/
def statePutsSpec : ChangeSpec := { name := "statePuts", fn := fun _ => fun
  | [d] => { results := [.lit (.bool true)], args := [d] }
  | _ => none }
def statePutsRow : OpenClaim := { program := "ytpmkhimmlpnbpaa", sum := "62eb0f65d7afcca1da7c17d2f02651941f2c571302863ec0bf082d73512c5693", func := "bilge/bilgelaw24.StatePuts", spec := "statePuts", inPlace := ["slices.overlaps[bilge/api.Entry]"], apart := false }
def StatePutsSaid : Prop := statePutsRow.holds Try.pinned (OpenSpec.ofChange statePutsSpec)

/-- ITS FALSE NEIGHBOUR: 'it returns false'. Refute it at one input. -/
def statePutsWrong : ChangeSpec := { name := "statePuts", fn := fun _ => fun
  | [d] => { results := [.lit (.bool false)], args := [d] }
  | _ => none }
def StatePutsWrongFalsely : Prop := statePutsRow.holds Try.pinned (OpenSpec.ofChange statePutsWrong)

/-- 'bilgelaw24.StateGets': WHATEVER THE INPUT: true; the input reads as it did. -/
def stateGetsSpec : ChangeSpec := { name := "stateGets", fn := fun _ => fun
  | [d] => { results := [.lit (.bool true)], args := [d] }
  | _ => none }
def stateGetsRow : OpenClaim := { program := "ytpmkhimmlpnbpaa", sum := "62eb0f65d7afcca1da7c17d2f02651941f2c571302863ec0bf082d73512c5693", func := "bilge/bilgelaw24.StateGets", spec := "stateGets", inPlace := ["slices.overlaps[bilge/api.Entry]"], apart := false }
def StateGetsSaid : Prop := stateGetsRow.holds Try.pinned (OpenSpec.ofChange stateGetsSpec)

/-- ITS FALSE NEIGHBOUR: 'it returns false'. Refute it at one input. -/
def stateGetsWrong : ChangeSpec := { name := "stateGets", fn := fun _ => fun
  | [d] => { results := [.lit (.bool false)], args := [d] }
  | _ => none }
def StateGetsWrongFalsely : Prop := stateGetsRow.holds Try.pinned (OpenSpec.ofChange stateGetsWrong)

/-- 'bilgelaw24.StateBack': WHATEVER THE INPUT: true; the input reads as it did. -/
def stateBackSpec : ChangeSpec := { name := "stateBack", fn := fun _ => fun
  | [d1, d2, d3] => { results := [.lit (.bool true)], args := [d1, d2, d3] }
  | _ => none }
def stateBackRow : OpenClaim := { program := "ytpmkhimmlpnbpaa", sum := "62eb0f65d7afcca1da7c17d2f02651941f2c571302863ec0bf082d73512c5693", func := "bilge/bilgelaw24.StateBack", spec := "stateBack", inPlace := ["slices.overlaps[bilge/api.Entry]"], apart := false }
def StateBackSaid : Prop := stateBackRow.holds Try.pinned (OpenSpec.ofChange stateBackSpec)

/-- ITS FALSE NEIGHBOUR: 'it returns false'. Refute it at one input. -/
def stateBackWrong : ChangeSpec := { name := "stateBack", fn := fun _ => fun
  | [d1, d2, d3] => { results := [.lit (.bool false)], args := [d1, d2, d3] }
  | _ => none }
def StateBackWrongFalsely : Prop := stateBackRow.holds Try.pinned (OpenSpec.ofChange stateBackWrong)

/-- 'bilgelaw24.StateUnlike': WHATEVER THE INPUT: true; the input reads as it did. -/
def stateUnlikeSpec : ChangeSpec := { name := "stateUnlike", fn := fun _ => fun
  | [d1, d2] => { results := [.lit (.bool true)], args := [d1, d2] }
  | _ => none }
def stateUnlikeRow : OpenClaim := { program := "ytpmkhimmlpnbpaa", sum := "62eb0f65d7afcca1da7c17d2f02651941f2c571302863ec0bf082d73512c5693", func := "bilge/bilgelaw24.StateUnlike", spec := "stateUnlike", inPlace := ["slices.overlaps[bilge/api.Entry]"], apart := false }
def StateUnlikeSaid : Prop := stateUnlikeRow.holds Try.pinned (OpenSpec.ofChange stateUnlikeSpec)

/-- ITS FALSE NEIGHBOUR: 'it returns false'. Refute it at one input. -/
def stateUnlikeWrong : ChangeSpec := { name := "stateUnlike", fn := fun _ => fun
  | [d1, d2] => { results := [.lit (.bool false)], args := [d1, d2] }
  | _ => none }
def StateUnlikeWrongFalsely : Prop := stateUnlikeRow.holds Try.pinned (OpenSpec.ofChange stateUnlikeWrong)

/-- 'bilgelaw24.StateTable': WHATEVER THE INPUT: true; the input reads as it did. -/
def stateTableSpec : ChangeSpec := { name := "stateTable", fn := fun _ => fun
  | [d1, d2, d3] => { results := [.lit (.bool true)], args := [d1, d2, d3] }
  | _ => none }
def stateTableRow : OpenClaim := { program := "ytpmkhimmlpnbpaa", sum := "62eb0f65d7afcca1da7c17d2f02651941f2c571302863ec0bf082d73512c5693", func := "bilge/bilgelaw24.StateTable", spec := "stateTable", inPlace := ["slices.overlaps[bilge/api.Entry]"], apart := false }
def StateTableSaid : Prop := stateTableRow.holds Try.pinned (OpenSpec.ofChange stateTableSpec)

/-- ITS FALSE NEIGHBOUR: 'it returns false'. Refute it at one input. -/
def stateTableWrong : ChangeSpec := { name := "stateTable", fn := fun _ => fun
  | [d1, d2, d3] => { results := [.lit (.bool false)], args := [d1, d2, d3] }
  | _ => none }
def StateTableWrongFalsely : Prop := stateTableRow.holds Try.pinned (OpenSpec.ofChange stateTableWrong)

/-- 'bilgelaw24.StateTwice': WHATEVER THE INPUT: true; the input reads as it did. -/
def stateTwiceSpec : ChangeSpec := { name := "stateTwice", fn := fun _ => fun
  | [d1, d2] => { results := [.lit (.bool true)], args := [d1, d2] }
  | _ => none }
def stateTwiceRow : OpenClaim := { program := "ytpmkhimmlpnbpaa", sum := "62eb0f65d7afcca1da7c17d2f02651941f2c571302863ec0bf082d73512c5693", func := "bilge/bilgelaw24.StateTwice", spec := "stateTwice", inPlace := ["slices.overlaps[bilge/api.Entry]"], apart := false }
def StateTwiceSaid : Prop := stateTwiceRow.holds Try.pinned (OpenSpec.ofChange stateTwiceSpec)

/-- ITS FALSE NEIGHBOUR: 'it returns false'. Refute it at one input. -/
def stateTwiceWrong : ChangeSpec := { name := "stateTwice", fn := fun _ => fun
  | [d1, d2] => { results := [.lit (.bool false)], args := [d1, d2] }
  | _ => none }
def StateTwiceWrongFalsely : Prop := stateTwiceRow.holds Try.pinned (OpenSpec.ofChange stateTwiceWrong)

/-- 'bilgelaw24.StateFits': WHATEVER THE INPUT: true; the input reads as it did. -/
def stateFitsSpec : ChangeSpec := { name := "stateFits", fn := fun _ => fun
  | [d1, d2] => { results := [.lit (.bool true)], args := [d1, d2] }
  | _ => none }
def stateFitsRow : OpenClaim := { program := "ytpmkhimmlpnbpaa", sum := "62eb0f65d7afcca1da7c17d2f02651941f2c571302863ec0bf082d73512c5693", func := "bilge/bilgelaw24.StateFits", spec := "stateFits", inPlace := ["slices.overlaps[bilge/api.Entry]"], apart := false }
def StateFitsSaid : Prop := stateFitsRow.holds Try.pinned (OpenSpec.ofChange stateFitsSpec)

/-- ITS FALSE NEIGHBOUR: 'it returns false'. Refute it at one input. -/
def stateFitsWrong : ChangeSpec := { name := "stateFits", fn := fun _ => fun
  | [d1, d2] => { results := [.lit (.bool false)], args := [d1, d2] }
  | _ => none }
def StateFitsWrongFalsely : Prop := stateFitsRow.holds Try.pinned (OpenSpec.ofChange stateFitsWrong)

/-- 'bilgelaw24.StateKeeps': WHATEVER THE INPUT: true; the input reads as it did. -/
def stateKeepsSpec : ChangeSpec := { name := "stateKeeps", fn := fun _ => fun
  | [d1, d2] => { results := [.lit (.bool true)], args := [d1, d2] }
  | _ => none }
def stateKeepsRow : OpenClaim := { program := "ytpmkhimmlpnbpaa", sum := "62eb0f65d7afcca1da7c17d2f02651941f2c571302863ec0bf082d73512c5693", func := "bilge/bilgelaw24.StateKeeps", spec := "stateKeeps", inPlace := ["slices.overlaps[bilge/api.Entry]"], apart := false }
def StateKeepsSaid : Prop := stateKeepsRow.holds Try.pinned (OpenSpec.ofChange stateKeepsSpec)

/-- ITS FALSE NEIGHBOUR: 'it returns false'. Refute it at one input. -/
def stateKeepsWrong : ChangeSpec := { name := "stateKeeps", fn := fun _ => fun
  | [d1, d2] => { results := [.lit (.bool false)], args := [d1, d2] }
  | _ => none }
def StateKeepsWrongFalsely : Prop := stateKeepsRow.holds Try.pinned (OpenSpec.ofChange stateKeepsWrong)

/- THE SECOND FORM. 'bulk': how many values and letters a reading holds, each counted each time it is reached (what is shared counts as often as it is met; a slice's spare places count too). A statement '..UptoSaid' is the law's where the arguments, and the package variables that the reading takes, are together of bulk at most 1048576: NARROWER than '..Said'. Prove '..Said' where nothing that the law and all that it calls make is longer than what came in: it says more and counts as full. Else prove '..UptoSaid'. A law counts once. -/
mutual
def uptoBulk {H : Type} : DataW H → Nat
  | .lit (.string bytes) => bytes.length + 1
  | .lit _ => 1
  | .nil => 1
  | .ptr d => uptoBulk d + 1
  | .slice elems spare => uptoBulkAll elems + uptoBulkAll spare + 1
  | .agg parts => uptoBulkAll parts + 1
  | .iface _ d => uptoBulk d + 1
  | .map entries => uptoBulkEntries entries + 1
  | .held _ => 1
def uptoBulkAll {H : Type} : List (DataW H) → Nat
  | [] => 0
  | d :: r => uptoBulk d + uptoBulkAll r
def uptoBulkEntries {H : Type} : List (Lit × DataW H) → Nat
  | [] => 0
  | x :: r => uptoBulkEntry x + uptoBulkEntries r
def uptoBulkEntry {H : Type} : Lit × DataW H → Nat
  | (.string bytes, d) => bytes.length + uptoBulk d + 1
  | (_, d) => uptoBulk d + 1
 end
def uptoSmall : (H : Type) → List (DataW H) → Bool := fun _ ds => decide (uptoBulkAll ds ≤ 1048576)
def OpenSpec.upto (s : _root_.Go.ChangeSpec) : _root_.Go.OpenSpec := { _root_.Go.OpenSpec.ofChange s with cond := some uptoSmall }

/-- 'bilgelaw24.StatePuts', WHERE WHAT IT READS IS OF BULK AT MOST 1048576: true; the input reads as it did. -/
def statePutsUptoRow : OpenClaim := { program := "ytpmkhimmlpnbpaa", sum := "62eb0f65d7afcca1da7c17d2f02651941f2c571302863ec0bf082d73512c5693", func := "bilge/bilgelaw24.StatePuts", spec := "statePuts", inPlace := ["slices.overlaps[bilge/api.Entry]"], apart := false, narrowed := true }
def StatePutsUptoSaid : Prop := statePutsUptoRow.holds Try.pinned (OpenSpec.upto statePutsSpec)

/-- 'bilgelaw24.StateGets', WHERE WHAT IT READS IS OF BULK AT MOST 1048576: true; the input reads as it did. -/
def stateGetsUptoRow : OpenClaim := { program := "ytpmkhimmlpnbpaa", sum := "62eb0f65d7afcca1da7c17d2f02651941f2c571302863ec0bf082d73512c5693", func := "bilge/bilgelaw24.StateGets", spec := "stateGets", inPlace := ["slices.overlaps[bilge/api.Entry]"], apart := false, narrowed := true }
def StateGetsUptoSaid : Prop := stateGetsUptoRow.holds Try.pinned (OpenSpec.upto stateGetsSpec)

/-- 'bilgelaw24.StateBack', WHERE WHAT IT READS IS OF BULK AT MOST 1048576: true; the input reads as it did. -/
def stateBackUptoRow : OpenClaim := { program := "ytpmkhimmlpnbpaa", sum := "62eb0f65d7afcca1da7c17d2f02651941f2c571302863ec0bf082d73512c5693", func := "bilge/bilgelaw24.StateBack", spec := "stateBack", inPlace := ["slices.overlaps[bilge/api.Entry]"], apart := false, narrowed := true }
def StateBackUptoSaid : Prop := stateBackUptoRow.holds Try.pinned (OpenSpec.upto stateBackSpec)

/-- 'bilgelaw24.StateUnlike', WHERE WHAT IT READS IS OF BULK AT MOST 1048576: true; the input reads as it did. -/
def stateUnlikeUptoRow : OpenClaim := { program := "ytpmkhimmlpnbpaa", sum := "62eb0f65d7afcca1da7c17d2f02651941f2c571302863ec0bf082d73512c5693", func := "bilge/bilgelaw24.StateUnlike", spec := "stateUnlike", inPlace := ["slices.overlaps[bilge/api.Entry]"], apart := false, narrowed := true }
def StateUnlikeUptoSaid : Prop := stateUnlikeUptoRow.holds Try.pinned (OpenSpec.upto stateUnlikeSpec)

/-- 'bilgelaw24.StateTable', WHERE WHAT IT READS IS OF BULK AT MOST 1048576: true; the input reads as it did. -/
def stateTableUptoRow : OpenClaim := { program := "ytpmkhimmlpnbpaa", sum := "62eb0f65d7afcca1da7c17d2f02651941f2c571302863ec0bf082d73512c5693", func := "bilge/bilgelaw24.StateTable", spec := "stateTable", inPlace := ["slices.overlaps[bilge/api.Entry]"], apart := false, narrowed := true }
def StateTableUptoSaid : Prop := stateTableUptoRow.holds Try.pinned (OpenSpec.upto stateTableSpec)

/-- 'bilgelaw24.StateTwice', WHERE WHAT IT READS IS OF BULK AT MOST 1048576: true; the input reads as it did. -/
def stateTwiceUptoRow : OpenClaim := { program := "ytpmkhimmlpnbpaa", sum := "62eb0f65d7afcca1da7c17d2f02651941f2c571302863ec0bf082d73512c5693", func := "bilge/bilgelaw24.StateTwice", spec := "stateTwice", inPlace := ["slices.overlaps[bilge/api.Entry]"], apart := false, narrowed := true }
def StateTwiceUptoSaid : Prop := stateTwiceUptoRow.holds Try.pinned (OpenSpec.upto stateTwiceSpec)

/-- 'bilgelaw24.StateFits', WHERE WHAT IT READS IS OF BULK AT MOST 1048576: true; the input reads as it did. -/
def stateFitsUptoRow : OpenClaim := { program := "ytpmkhimmlpnbpaa", sum := "62eb0f65d7afcca1da7c17d2f02651941f2c571302863ec0bf082d73512c5693", func := "bilge/bilgelaw24.StateFits", spec := "stateFits", inPlace := ["slices.overlaps[bilge/api.Entry]"], apart := false, narrowed := true }
def StateFitsUptoSaid : Prop := stateFitsUptoRow.holds Try.pinned (OpenSpec.upto stateFitsSpec)

/-- 'bilgelaw24.StateKeeps', WHERE WHAT IT READS IS OF BULK AT MOST 1048576: true; the input reads as it did. -/
def stateKeepsUptoRow : OpenClaim := { program := "ytpmkhimmlpnbpaa", sum := "62eb0f65d7afcca1da7c17d2f02651941f2c571302863ec0bf082d73512c5693", func := "bilge/bilgelaw24.StateKeeps", spec := "stateKeeps", inPlace := ["slices.overlaps[bilge/api.Entry]"], apart := false, narrowed := true }
def StateKeepsUptoSaid : Prop := stateKeepsUptoRow.holds Try.pinned (OpenSpec.upto stateKeepsSpec)

end Rows
end Go.Proofs.Ytpmkhimmlpnbpaa
