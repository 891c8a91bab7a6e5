/-
  No cell of these rows narrows 'for every input' (looked for: loops, veiled, ifaces, maps, wideKeys, modest, calm, conditions, laid).
  DERIVED. THE GIVEN ROWS OF THIS SEAT. 6 by the template 'for every input the law returns true; each argument reads behind the call as it read before'; 0 by the template 'total and deterministic' (their statements: YtkdkhbeacejamaaTotals.lean).
  GIVEN WITH THE SEED: the statements are not yours to turn. If you find one false, say at which input.
  Laid BY PROGRAM, IN A SANDBOX (cutbox-rows.mjs): the forced cells as the released guide's own fill.sh prints them over the translation 573d1c6fa5492cb4… (all of the seat's roots in one cut). By AI agents, Wed Nov 11 2026. No macro, syntax, notation, axiom, sorry.
-/
import Derived.Test.YtkdkhbeacejamaaChecked
import GoSem.Claim
import GoSem.ClaimJoined
import GoSem.ClaimMapViews
import Derived.JoinedTies
import Derived.KernelRfl
namespace Go.Proofs.Ytkdkhbeacejamaa
/- THE CELL 'sum', in the pinned program and in every row, IS THE sha256 OF THE DUMP (.gsa) THAT YtkdkhbeacejamaaProg.lean LOADS. Nothing in Lean hashes anything: it is a label: what it is worth is what the hold of that sum in a sandbox is worth. -/
noncomputable def Try.pinned : Pinned := { name := "ytkdkhbeacejamaa", sum := "573d1c6fa5492cb4e85e5482cb63b2910745647d0835471ea36e9cd0eda36535", checked := Try.checked }
namespace Rows
def none {H : Type} : Left H := { results := [], args := [] }

/-- 'bilgelaw03.EdgeReads': WHATEVER THE INPUT: true; the input reads as it did. -/
def edgeReadsSpec : ChangeSpec := { name := "edgeReads", fn := fun _ => fun
  | [d] => { results := [.lit (.bool true)], args := [d] }
  | _ => none }
def edgeReadsRow : OpenClaim := { program := "ytkdkhbeacejamaa", sum := "573d1c6fa5492cb4e85e5482cb63b2910745647d0835471ea36e9cd0eda36535", func := "bilge/bilgelaw03.EdgeReads", spec := "edgeReads", inPlace := ["math.Float64bits", "math.Float64frombits", "math.archFloor", "math.archTrunc"], apart := false }
def EdgeReadsSaid : Prop := edgeReadsRow.holds Try.pinned (OpenSpec.ofChange edgeReadsSpec)

/-- ITS FALSE NEIGHBOUR: 'it returns false'. Refute it at one input. -/
def edgeReadsWrong : ChangeSpec := { name := "edgeReads", fn := fun _ => fun
  | [d] => { results := [.lit (.bool false)], args := [d] }
  | _ => none }
def EdgeReadsWrongFalsely : Prop := edgeReadsRow.holds Try.pinned (OpenSpec.ofChange edgeReadsWrong)

/-- 'bilgelaw03.EdgeOrder': WHATEVER THE INPUT: true; the input reads as it did. -/
def edgeOrderSpec : ChangeSpec := { name := "edgeOrder", fn := fun _ => fun
  | [d1, d2, d3] => { results := [.lit (.bool true)], args := [d1, d2, d3] }
  | _ => none }
def edgeOrderRow : OpenClaim := { program := "ytkdkhbeacejamaa", sum := "573d1c6fa5492cb4e85e5482cb63b2910745647d0835471ea36e9cd0eda36535", func := "bilge/bilgelaw03.EdgeOrder", spec := "edgeOrder", inPlace := ["math.Float64bits", "math.Float64frombits", "math.archFloor", "math.archTrunc"], apart := false }
def EdgeOrderSaid : Prop := edgeOrderRow.holds Try.pinned (OpenSpec.ofChange edgeOrderSpec)

/-- ITS FALSE NEIGHBOUR: 'it returns false'. Refute it at one input. -/
def edgeOrderWrong : ChangeSpec := { name := "edgeOrder", fn := fun _ => fun
  | [d1, d2, d3] => { results := [.lit (.bool false)], args := [d1, d2, d3] }
  | _ => none }
def EdgeOrderWrongFalsely : Prop := edgeOrderRow.holds Try.pinned (OpenSpec.ofChange edgeOrderWrong)

/-- 'bilgelaw03.EdgeLists': WHATEVER THE INPUT: true; the input reads as it did. -/
def edgeListsSpec : ChangeSpec := { name := "edgeLists", fn := fun _ => fun
  | [d] => { results := [.lit (.bool true)], args := [d] }
  | _ => none }
def edgeListsRow : OpenClaim := { program := "ytkdkhbeacejamaa", sum := "573d1c6fa5492cb4e85e5482cb63b2910745647d0835471ea36e9cd0eda36535", func := "bilge/bilgelaw03.EdgeLists", spec := "edgeLists", inPlace := ["math.Float64bits", "math.Float64frombits", "math.archFloor", "math.archTrunc"], apart := false }
def EdgeListsSaid : Prop := edgeListsRow.holds Try.pinned (OpenSpec.ofChange edgeListsSpec)

/-- ITS FALSE NEIGHBOUR: 'it returns false'. Refute it at one input. -/
def edgeListsWrong : ChangeSpec := { name := "edgeLists", fn := fun _ => fun
  | [d] => { results := [.lit (.bool false)], args := [d] }
  | _ => none }
def EdgeListsWrongFalsely : Prop := edgeListsRow.holds Try.pinned (OpenSpec.ofChange edgeListsWrong)

/-- 'bilgelaw03.EdgeWhole': WHATEVER THE INPUT: true; the input reads as it did. -/
def edgeWholeSpec : ChangeSpec := { name := "edgeWhole", fn := fun _ => fun
  | [d1, d2] => { results := [.lit (.bool true)], args := [d1, d2] }
  | _ => none }
def edgeWholeRow : OpenClaim := { program := "ytkdkhbeacejamaa", sum := "573d1c6fa5492cb4e85e5482cb63b2910745647d0835471ea36e9cd0eda36535", func := "bilge/bilgelaw03.EdgeWhole", spec := "edgeWhole", inPlace := ["math.Float64bits", "math.Float64frombits", "math.archFloor", "math.archTrunc"], apart := false }
def EdgeWholeSaid : Prop := edgeWholeRow.holds Try.pinned (OpenSpec.ofChange edgeWholeSpec)

/-- ITS FALSE NEIGHBOUR: 'it returns false'. Refute it at one input. -/
def edgeWholeWrong : ChangeSpec := { name := "edgeWhole", fn := fun _ => fun
  | [d1, d2] => { results := [.lit (.bool false)], args := [d1, d2] }
  | _ => none }
def EdgeWholeWrongFalsely : Prop := edgeWholeRow.holds Try.pinned (OpenSpec.ofChange edgeWholeWrong)

/-- 'bilgelaw03.EdgeKeeps': WHATEVER THE INPUT: true; the input reads as it did. -/
def edgeKeepsSpec : ChangeSpec := { name := "edgeKeeps", fn := fun _ => fun
  | [d] => { results := [.lit (.bool true)], args := [d] }
  | _ => none }
def edgeKeepsRow : OpenClaim := { program := "ytkdkhbeacejamaa", sum := "573d1c6fa5492cb4e85e5482cb63b2910745647d0835471ea36e9cd0eda36535", func := "bilge/bilgelaw03.EdgeKeeps", spec := "edgeKeeps", inPlace := ["math.Float64bits", "math.Float64frombits", "math.archFloor", "math.archTrunc"], apart := false }
def EdgeKeepsSaid : Prop := edgeKeepsRow.holds Try.pinned (OpenSpec.ofChange edgeKeepsSpec)

/-- ITS FALSE NEIGHBOUR: 'it returns false'. Refute it at one input. -/
def edgeKeepsWrong : ChangeSpec := { name := "edgeKeeps", fn := fun _ => fun
  | [d] => { results := [.lit (.bool false)], args := [d] }
  | _ => none }
def EdgeKeepsWrongFalsely : Prop := edgeKeepsRow.holds Try.pinned (OpenSpec.ofChange edgeKeepsWrong)

/-- 'bilgelaw03.EdgeSigns': WHATEVER THE INPUT: true; the input reads as it did. -/
def edgeSignsSpec : ChangeSpec := { name := "edgeSigns", fn := fun _ => fun
  | [d1, d2] => { results := [.lit (.bool true)], args := [d1, d2] }
  | _ => none }
def edgeSignsRow : OpenClaim := { program := "ytkdkhbeacejamaa", sum := "573d1c6fa5492cb4e85e5482cb63b2910745647d0835471ea36e9cd0eda36535", func := "bilge/bilgelaw03.EdgeSigns", spec := "edgeSigns", inPlace := ["math.Float64bits", "math.Float64frombits", "math.archFloor", "math.archTrunc"], apart := false }
def EdgeSignsSaid : Prop := edgeSignsRow.holds Try.pinned (OpenSpec.ofChange edgeSignsSpec)

/-- ITS FALSE NEIGHBOUR: 'it returns false'. Refute it at one input. -/
def edgeSignsWrong : ChangeSpec := { name := "edgeSigns", fn := fun _ => fun
  | [d1, d2] => { results := [.lit (.bool false)], args := [d1, d2] }
  | _ => none }
def EdgeSignsWrongFalsely : Prop := edgeSignsRow.holds Try.pinned (OpenSpec.ofChange edgeSignsWrong)

/- THE SECOND FORM. 'bulk': how many values and letters a reading holds, each counted each time it is reached (what is shared counts as often as it is met; a slice's spare places count too). A statement '..UptoSaid' is the law's where the arguments, and the package variables that the reading takes, are together of bulk at most 1048576: NARROWER than '..Said'. Prove '..Said' where nothing that the law and all that it calls make is longer than what came in: it says more and counts as full. Else prove '..UptoSaid'. A law counts once. -/
mutual
def uptoBulk {H : Type} : DataW H → Nat
  | .lit (.string bytes) => bytes.length + 1
  | .lit _ => 1
  | .nil => 1
  | .ptr d => uptoBulk d + 1
  | .slice elems spare => uptoBulkAll elems + uptoBulkAll spare + 1
  | .agg parts => uptoBulkAll parts + 1
  | .iface _ d => uptoBulk d + 1
  | .map entries => uptoBulkEntries entries + 1
  | .held _ => 1
def uptoBulkAll {H : Type} : List (DataW H) → Nat
  | [] => 0
  | d :: r => uptoBulk d + uptoBulkAll r
def uptoBulkEntries {H : Type} : List (Lit × DataW H) → Nat
  | [] => 0
  | x :: r => uptoBulkEntry x + uptoBulkEntries r
def uptoBulkEntry {H : Type} : Lit × DataW H → Nat
  | (.string bytes, d) => bytes.length + uptoBulk d + 1
  | (_, d) => uptoBulk d + 1
 end
def uptoSmall : (H : Type) → List (DataW H) → Bool := fun _ ds => decide (uptoBulkAll ds ≤ 1048576)
def OpenSpec.upto (s : _root_.Go.ChangeSpec) : _root_.Go.OpenSpec := { _root_.Go.OpenSpec.ofChange s with cond := some uptoSmall }

/-- 'bilgelaw03.EdgeReads', WHERE WHAT IT READS IS OF BULK AT MOST 1048576: true; the input reads as it did. -/
def edgeReadsUptoRow : OpenClaim := { program := "ytkdkhbeacejamaa", sum := "573d1c6fa5492cb4e85e5482cb63b2910745647d0835471ea36e9cd0eda36535", func := "bilge/bilgelaw03.EdgeReads", spec := "edgeReads", inPlace := ["math.Float64bits", "math.Float64frombits", "math.archFloor", "math.archTrunc"], apart := false, narrowed := true }
def EdgeReadsUptoSaid : Prop := edgeReadsUptoRow.holds Try.pinned (OpenSpec.upto edgeReadsSpec)

/-- 'bilgelaw03.EdgeOrder', WHERE WHAT IT READS IS OF BULK AT MOST 1048576: true; the input reads as it did. -/
def edgeOrderUptoRow : OpenClaim := { program := "ytkdkhbeacejamaa", sum := "573d1c6fa5492cb4e85e5482cb63b2910745647d0835471ea36e9cd0eda36535", func := "bilge/bilgelaw03.EdgeOrder", spec := "edgeOrder", inPlace := ["math.Float64bits", "math.Float64frombits", "math.archFloor", "math.archTrunc"], apart := false, narrowed := true }
def EdgeOrderUptoSaid : Prop := edgeOrderUptoRow.holds Try.pinned (OpenSpec.upto edgeOrderSpec)

/-- 'bilgelaw03.EdgeLists', WHERE WHAT IT READS IS OF BULK AT MOST 1048576: true; the input reads as it did. -/
def edgeListsUptoRow : OpenClaim := { program := "ytkdkhbeacejamaa", sum := "573d1c6fa5492cb4e85e5482cb63b2910745647d0835471ea36e9cd0eda36535", func := "bilge/bilgelaw03.EdgeLists", spec := "edgeLists", inPlace := ["math.Float64bits", "math.Float64frombits", "math.archFloor", "math.archTrunc"], apart := false, narrowed := true }
def EdgeListsUptoSaid : Prop := edgeListsUptoRow.holds Try.pinned (OpenSpec.upto edgeListsSpec)

/-- 'bilgelaw03.EdgeWhole', WHERE WHAT IT READS IS OF BULK AT MOST 1048576: true; the input reads as it did. -/
def edgeWholeUptoRow : OpenClaim := { program := "ytkdkhbeacejamaa", sum := "573d1c6fa5492cb4e85e5482cb63b2910745647d0835471ea36e9cd0eda36535", func := "bilge/bilgelaw03.EdgeWhole", spec := "edgeWhole", inPlace := ["math.Float64bits", "math.Float64frombits", "math.archFloor", "math.archTrunc"], apart := false, narrowed := true }
def EdgeWholeUptoSaid : Prop := edgeWholeUptoRow.holds Try.pinned (OpenSpec.upto edgeWholeSpec)

/-- 'bilgelaw03.EdgeKeeps', WHERE WHAT IT READS IS OF BULK AT MOST 1048576: true; the input reads as it did. -/
def edgeKeepsUptoRow : OpenClaim := { program := "ytkdkhbeacejamaa", sum := "573d1c6fa5492cb4e85e5482cb63b2910745647d0835471ea36e9cd0eda36535", func := "bilge/bilgelaw03.EdgeKeeps", spec := "edgeKeeps", inPlace := ["math.Float64bits", "math.Float64frombits", "math.archFloor", "math.archTrunc"], apart := false, narrowed := true }
def EdgeKeepsUptoSaid : Prop := edgeKeepsUptoRow.holds Try.pinned (OpenSpec.upto edgeKeepsSpec)

/-- 'bilgelaw03.EdgeSigns', WHERE WHAT IT READS IS OF BULK AT MOST 1048576: true; the input reads as it did. -/
def edgeSignsUptoRow : OpenClaim := { program := "ytkdkhbeacejamaa", sum := "573d1c6fa5492cb4e85e5482cb63b2910745647d0835471ea36e9cd0eda36535", func := "bilge/bilgelaw03.EdgeSigns", spec := "edgeSigns", inPlace := ["math.Float64bits", "math.Float64frombits", "math.archFloor", "math.archTrunc"], apart := false, narrowed := true }
def EdgeSignsUptoSaid : Prop := edgeSignsUptoRow.holds Try.pinned (OpenSpec.upto edgeSignsSpec)

end Rows
end Go.Proofs.Ytkdkhbeacejamaa
