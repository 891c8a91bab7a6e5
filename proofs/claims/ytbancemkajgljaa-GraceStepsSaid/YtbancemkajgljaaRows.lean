/-
  No cell of these rows narrows 'for every input' (looked for: loops, veiled, ifaces, maps, wideKeys, modest, calm, conditions, laid).
  DERIVED. THE GIVEN ROWS OF THIS SEAT. 6 by the template 'for every input the law returns true; each argument reads behind the call as it read before'; 0 by the template 'total and deterministic' (their statements: YtbancemkajgljaaTotals.lean).
  GIVEN WITH THE SEED: the statements are not yours to turn. If you find one false, say at which input.
  Laid BY PROGRAM, IN A SANDBOX (cutbox-rows.mjs): the forced cells as the released guide's own fill.sh prints them over the translation 2d20ee300c59e383… (all of the seat's roots in one cut). By AI agents, Wed Nov 11 2026. No macro, syntax, notation, axiom, sorry.
-/
import Derived.Test.YtbancemkajgljaaChecked
import GoSem.Claim
import GoSem.ClaimJoined
import GoSem.ClaimMapViews
import Derived.JoinedTies
import Derived.KernelRfl
namespace Go.Proofs.Ytbancemkajgljaa
/- THE CELL 'sum', in the pinned program and in every row, IS THE sha256 OF THE DUMP (.gsa) THAT YtbancemkajgljaaProg.lean LOADS. Nothing in Lean hashes anything: it is a label: what it is worth is what the hold of that sum in a sandbox is worth. -/
noncomputable def Try.pinned : Pinned := { name := "ytbancemkajgljaa", sum := "2d20ee300c59e383cefae8adc301b1582b82ac69095465fb0b062a6233bcd6de", checked := Try.checked }
namespace Rows
def none {H : Type} : Left H := { results := [], args := [] }

/-- 'bilgelaw18.GraceSteps': WHATEVER THE INPUT: true; the input reads as it did. -/
def graceStepsSpec : ChangeSpec := { name := "graceSteps", fn := fun _ => fun
  | [d1, d2, d3, d4] => { results := [.lit (.bool true)], args := [d1, d2, d3, d4] }
  | _ => none }
def graceStepsRow : OpenClaim := { program := "ytbancemkajgljaa", sum := "2d20ee300c59e383cefae8adc301b1582b82ac69095465fb0b062a6233bcd6de", func := "bilge/bilgelaw18.GraceSteps", spec := "graceSteps", inPlace := ["math/bits.Add64"], named := ["math/bits.divideError", "math/bits.overflowError"], apart := false }
def GraceStepsSaid : Prop := graceStepsRow.holds Try.pinned (OpenSpec.ofChange graceStepsSpec)

/-- ITS FALSE NEIGHBOUR: 'it returns false'. Refute it at one input. -/
def graceStepsWrong : ChangeSpec := { name := "graceSteps", fn := fun _ => fun
  | [d1, d2, d3, d4] => { results := [.lit (.bool false)], args := [d1, d2, d3, d4] }
  | _ => none }
def GraceStepsWrongFalsely : Prop := graceStepsRow.holds Try.pinned (OpenSpec.ofChange graceStepsWrong)

/-- 'bilgelaw18.GraceSignals': WHATEVER THE INPUT: true; the input reads as it did. -/
def graceSignalsSpec : ChangeSpec := { name := "graceSignals", fn := fun _ => fun
  | [d1, d2] => { results := [.lit (.bool true)], args := [d1, d2] }
  | _ => none }
def graceSignalsRow : OpenClaim := { program := "ytbancemkajgljaa", sum := "2d20ee300c59e383cefae8adc301b1582b82ac69095465fb0b062a6233bcd6de", func := "bilge/bilgelaw18.GraceSignals", spec := "graceSignals", inPlace := ["math/bits.Add64"], named := ["math/bits.divideError", "math/bits.overflowError"], apart := false }
def GraceSignalsSaid : Prop := graceSignalsRow.holds Try.pinned (OpenSpec.ofChange graceSignalsSpec)

/-- ITS FALSE NEIGHBOUR: 'it returns false'. Refute it at one input. -/
def graceSignalsWrong : ChangeSpec := { name := "graceSignals", fn := fun _ => fun
  | [d1, d2] => { results := [.lit (.bool false)], args := [d1, d2] }
  | _ => none }
def GraceSignalsWrongFalsely : Prop := graceSignalsRow.holds Try.pinned (OpenSpec.ofChange graceSignalsWrong)

/-- 'bilgelaw18.GraceRuns': WHATEVER THE INPUT: true; the input reads as it did. -/
def graceRunsSpec : ChangeSpec := { name := "graceRuns", fn := fun _ => fun
  | [d1, d2] => { results := [.lit (.bool true)], args := [d1, d2] }
  | _ => none }
def graceRunsRow : OpenClaim := { program := "ytbancemkajgljaa", sum := "2d20ee300c59e383cefae8adc301b1582b82ac69095465fb0b062a6233bcd6de", func := "bilge/bilgelaw18.GraceRuns", spec := "graceRuns", inPlace := ["math/bits.Add64"], named := ["math/bits.divideError", "math/bits.overflowError"], apart := false }
def GraceRunsSaid : Prop := graceRunsRow.holds Try.pinned (OpenSpec.ofChange graceRunsSpec)

/-- ITS FALSE NEIGHBOUR: 'it returns false'. Refute it at one input. -/
def graceRunsWrong : ChangeSpec := { name := "graceRuns", fn := fun _ => fun
  | [d1, d2] => { results := [.lit (.bool false)], args := [d1, d2] }
  | _ => none }
def GraceRunsWrongFalsely : Prop := graceRunsRow.holds Try.pinned (OpenSpec.ofChange graceRunsWrong)

/-- 'bilgelaw18.GraceAnew': WHATEVER THE INPUT: true; the input reads as it did. -/
def graceAnewSpec : ChangeSpec := { name := "graceAnew", fn := fun _ => fun
  | [d1, d2, d3, d4] => { results := [.lit (.bool true)], args := [d1, d2, d3, d4] }
  | _ => none }
def graceAnewRow : OpenClaim := { program := "ytbancemkajgljaa", sum := "2d20ee300c59e383cefae8adc301b1582b82ac69095465fb0b062a6233bcd6de", func := "bilge/bilgelaw18.GraceAnew", spec := "graceAnew", inPlace := ["math/bits.Add64"], named := ["math/bits.divideError", "math/bits.overflowError"], apart := false }
def GraceAnewSaid : Prop := graceAnewRow.holds Try.pinned (OpenSpec.ofChange graceAnewSpec)

/-- ITS FALSE NEIGHBOUR: 'it returns false'. Refute it at one input. -/
def graceAnewWrong : ChangeSpec := { name := "graceAnew", fn := fun _ => fun
  | [d1, d2, d3, d4] => { results := [.lit (.bool false)], args := [d1, d2, d3, d4] }
  | _ => none }
def GraceAnewWrongFalsely : Prop := graceAnewRow.holds Try.pinned (OpenSpec.ofChange graceAnewWrong)

/-- 'bilgelaw18.GraceLess': WHATEVER THE INPUT: true; the input reads as it did. -/
def graceLessSpec : ChangeSpec := { name := "graceLess", fn := fun _ => fun
  | [d1, d2, d3, d4, d5] => { results := [.lit (.bool true)], args := [d1, d2, d3, d4, d5] }
  | _ => none }
def graceLessRow : OpenClaim := { program := "ytbancemkajgljaa", sum := "2d20ee300c59e383cefae8adc301b1582b82ac69095465fb0b062a6233bcd6de", func := "bilge/bilgelaw18.GraceLess", spec := "graceLess", inPlace := ["math/bits.Add64"], named := ["math/bits.divideError", "math/bits.overflowError"], apart := false }
def GraceLessSaid : Prop := graceLessRow.holds Try.pinned (OpenSpec.ofChange graceLessSpec)

/-- ITS FALSE NEIGHBOUR: 'it returns false'. Refute it at one input. -/
def graceLessWrong : ChangeSpec := { name := "graceLess", fn := fun _ => fun
  | [d1, d2, d3, d4, d5] => { results := [.lit (.bool false)], args := [d1, d2, d3, d4, d5] }
  | _ => none }
def GraceLessWrongFalsely : Prop := graceLessRow.holds Try.pinned (OpenSpec.ofChange graceLessWrong)

/-- 'bilgelaw18.GraceKeeps': WHATEVER THE INPUT: true; the input reads as it did. -/
def graceKeepsSpec : ChangeSpec := { name := "graceKeeps", fn := fun _ => fun
  | [d1, d2, d3, d4] => { results := [.lit (.bool true)], args := [d1, d2, d3, d4] }
  | _ => none }
def graceKeepsRow : OpenClaim := { program := "ytbancemkajgljaa", sum := "2d20ee300c59e383cefae8adc301b1582b82ac69095465fb0b062a6233bcd6de", func := "bilge/bilgelaw18.GraceKeeps", spec := "graceKeeps", inPlace := ["math/bits.Add64"], named := ["math/bits.divideError", "math/bits.overflowError"], apart := false }
def GraceKeepsSaid : Prop := graceKeepsRow.holds Try.pinned (OpenSpec.ofChange graceKeepsSpec)

/-- ITS FALSE NEIGHBOUR: 'it returns false'. Refute it at one input. -/
def graceKeepsWrong : ChangeSpec := { name := "graceKeeps", fn := fun _ => fun
  | [d1, d2, d3, d4] => { results := [.lit (.bool false)], args := [d1, d2, d3, d4] }
  | _ => none }
def GraceKeepsWrongFalsely : Prop := graceKeepsRow.holds Try.pinned (OpenSpec.ofChange graceKeepsWrong)

/- THE SECOND FORM. 'bulk': how many values and letters a reading holds, each counted each time it is reached (what is shared counts as often as it is met; a slice's spare places count too). A statement '..UptoSaid' is the law's where the arguments, and the package variables that the reading takes, are together of bulk at most 1048576: NARROWER than '..Said'. Prove '..Said' where nothing that the law and all that it calls make is longer than what came in: it says more and counts as full. Else prove '..UptoSaid'. A law counts once. -/
mutual
def uptoBulk {H : Type} : DataW H → Nat
  | .lit (.string bytes) => bytes.length + 1
  | .lit _ => 1
  | .nil => 1
  | .ptr d => uptoBulk d + 1
  | .slice elems spare => uptoBulkAll elems + uptoBulkAll spare + 1
  | .agg parts => uptoBulkAll parts + 1
  | .iface _ d => uptoBulk d + 1
  | .map entries => uptoBulkEntries entries + 1
  | .held _ => 1
def uptoBulkAll {H : Type} : List (DataW H) → Nat
  | [] => 0
  | d :: r => uptoBulk d + uptoBulkAll r
def uptoBulkEntries {H : Type} : List (Lit × DataW H) → Nat
  | [] => 0
  | x :: r => uptoBulkEntry x + uptoBulkEntries r
def uptoBulkEntry {H : Type} : Lit × DataW H → Nat
  | (.string bytes, d) => bytes.length + uptoBulk d + 1
  | (_, d) => uptoBulk d + 1
 end
def uptoSmall : (H : Type) → List (DataW H) → Bool := fun _ ds => decide (uptoBulkAll ds ≤ 1048576)
def OpenSpec.upto (s : _root_.Go.ChangeSpec) : _root_.Go.OpenSpec := { _root_.Go.OpenSpec.ofChange s with cond := some uptoSmall }

/-- 'bilgelaw18.GraceSteps', WHERE WHAT IT READS IS OF BULK AT MOST 1048576: true; the input reads as it did. -/
def graceStepsUptoRow : OpenClaim := { program := "ytbancemkajgljaa", sum := "2d20ee300c59e383cefae8adc301b1582b82ac69095465fb0b062a6233bcd6de", func := "bilge/bilgelaw18.GraceSteps", spec := "graceSteps", inPlace := ["math/bits.Add64"], named := ["math/bits.divideError", "math/bits.overflowError"], apart := false, narrowed := true }
def GraceStepsUptoSaid : Prop := graceStepsUptoRow.holds Try.pinned (OpenSpec.upto graceStepsSpec)

/-- 'bilgelaw18.GraceSignals', WHERE WHAT IT READS IS OF BULK AT MOST 1048576: true; the input reads as it did. -/
def graceSignalsUptoRow : OpenClaim := { program := "ytbancemkajgljaa", sum := "2d20ee300c59e383cefae8adc301b1582b82ac69095465fb0b062a6233bcd6de", func := "bilge/bilgelaw18.GraceSignals", spec := "graceSignals", inPlace := ["math/bits.Add64"], named := ["math/bits.divideError", "math/bits.overflowError"], apart := false, narrowed := true }
def GraceSignalsUptoSaid : Prop := graceSignalsUptoRow.holds Try.pinned (OpenSpec.upto graceSignalsSpec)

/-- 'bilgelaw18.GraceRuns', WHERE WHAT IT READS IS OF BULK AT MOST 1048576: true; the input reads as it did. -/
def graceRunsUptoRow : OpenClaim := { program := "ytbancemkajgljaa", sum := "2d20ee300c59e383cefae8adc301b1582b82ac69095465fb0b062a6233bcd6de", func := "bilge/bilgelaw18.GraceRuns", spec := "graceRuns", inPlace := ["math/bits.Add64"], named := ["math/bits.divideError", "math/bits.overflowError"], apart := false, narrowed := true }
def GraceRunsUptoSaid : Prop := graceRunsUptoRow.holds Try.pinned (OpenSpec.upto graceRunsSpec)

/-- 'bilgelaw18.GraceAnew', WHERE WHAT IT READS IS OF BULK AT MOST 1048576: true; the input reads as it did. -/
def graceAnewUptoRow : OpenClaim := { program := "ytbancemkajgljaa", sum := "2d20ee300c59e383cefae8adc301b1582b82ac69095465fb0b062a6233bcd6de", func := "bilge/bilgelaw18.GraceAnew", spec := "graceAnew", inPlace := ["math/bits.Add64"], named := ["math/bits.divideError", "math/bits.overflowError"], apart := false, narrowed := true }
def GraceAnewUptoSaid : Prop := graceAnewUptoRow.holds Try.pinned (OpenSpec.upto graceAnewSpec)

/-- 'bilgelaw18.GraceLess', WHERE WHAT IT READS IS OF BULK AT MOST 1048576: true; the input reads as it did. -/
def graceLessUptoRow : OpenClaim := { program := "ytbancemkajgljaa", sum := "2d20ee300c59e383cefae8adc301b1582b82ac69095465fb0b062a6233bcd6de", func := "bilge/bilgelaw18.GraceLess", spec := "graceLess", inPlace := ["math/bits.Add64"], named := ["math/bits.divideError", "math/bits.overflowError"], apart := false, narrowed := true }
def GraceLessUptoSaid : Prop := graceLessUptoRow.holds Try.pinned (OpenSpec.upto graceLessSpec)

/-- 'bilgelaw18.GraceKeeps', WHERE WHAT IT READS IS OF BULK AT MOST 1048576: true; the input reads as it did. -/
def graceKeepsUptoRow : OpenClaim := { program := "ytbancemkajgljaa", sum := "2d20ee300c59e383cefae8adc301b1582b82ac69095465fb0b062a6233bcd6de", func := "bilge/bilgelaw18.GraceKeeps", spec := "graceKeeps", inPlace := ["math/bits.Add64"], named := ["math/bits.divideError", "math/bits.overflowError"], apart := false, narrowed := true }
def GraceKeepsUptoSaid : Prop := graceKeepsUptoRow.holds Try.pinned (OpenSpec.upto graceKeepsSpec)

end Rows
end Go.Proofs.Ytbancemkajgljaa
