/-
  No cell of these rows narrows 'for every input' (looked for: loops, veiled, ifaces, maps, wideKeys, modest, calm, conditions, laid).
  DERIVED. THE GIVEN ROWS OF THIS SEAT. 7 by the template 'for every input the law returns true; each argument reads behind the call as it read before'; 0 by the template 'total and deterministic' (their statements: YtafojeeehehplaaTotals.lean).
  GIVEN WITH THE SEED: the statements are not yours to turn. If you find one false, say at which input.
  Laid BY PROGRAM, IN A SANDBOX (cutbox-rows.mjs): the forced cells as the released guide's own fill.sh prints them over the translation 7ef9f7550fc5243d… (all of the seat's roots in one cut). By AI agents, Wed Nov 11 2026. No macro, syntax, notation, axiom, sorry.
-/
import Derived.Test.YtafojeeehehplaaChecked
import GoSem.Claim
import GoSem.ClaimJoined
import GoSem.ClaimMapViews
import Derived.JoinedTies
import Derived.KernelRfl
namespace Go.Proofs.Ytafojeeehehplaa
/- THE CELL 'sum', in the pinned program and in every row, IS THE sha256 OF THE DUMP (.gsa) THAT YtafojeeehehplaaProg.lean LOADS. Nothing in Lean hashes anything: it is a label: what it is worth is what the hold of that sum in a sandbox is worth. -/
noncomputable def Try.pinned : Pinned := { name := "ytafojeeehehplaa", sum := "7ef9f7550fc5243d2886667fe1fe6fa2f943f6404955daa5de624fd623fa4441", checked := Try.checked }
namespace Rows
def none {H : Type} : Left H := { results := [], args := [] }

/-- 'bilgelaw23.AdmitDecides': WHATEVER THE INPUT: true; the input reads as it did. -/
def admitDecidesSpec : ChangeSpec := { name := "admitDecides", fn := fun _ => fun
  | [d1, d2, d3, d4] => { results := [.lit (.bool true)], args := [d1, d2, d3, d4] }
  | _ => none }
def admitDecidesRow : OpenClaim := { program := "ytafojeeehehplaa", sum := "7ef9f7550fc5243d2886667fe1fe6fa2f943f6404955daa5de624fd623fa4441", func := "bilge/bilgelaw23.AdmitDecides", spec := "admitDecides", unfollowed := true, recurses := true, apart := false }
def AdmitDecidesSaid : Prop := admitDecidesRow.holds Try.pinned (OpenSpec.ofChange admitDecidesSpec)

/-- ITS FALSE NEIGHBOUR: 'it returns false'. Refute it at one input. -/
def admitDecidesWrong : ChangeSpec := { name := "admitDecides", fn := fun _ => fun
  | [d1, d2, d3, d4] => { results := [.lit (.bool false)], args := [d1, d2, d3, d4] }
  | _ => none }
def AdmitDecidesWrongFalsely : Prop := admitDecidesRow.holds Try.pinned (OpenSpec.ofChange admitDecidesWrong)

/-- 'bilgelaw23.AdmitBound': WHATEVER THE INPUT: true; the input reads as it did. -/
def admitBoundSpec : ChangeSpec := { name := "admitBound", fn := fun _ => fun
  | [d1, d2, d3, d4] => { results := [.lit (.bool true)], args := [d1, d2, d3, d4] }
  | _ => none }
def admitBoundRow : OpenClaim := { program := "ytafojeeehehplaa", sum := "7ef9f7550fc5243d2886667fe1fe6fa2f943f6404955daa5de624fd623fa4441", func := "bilge/bilgelaw23.AdmitBound", spec := "admitBound", unfollowed := true, recurses := true, apart := false }
def AdmitBoundSaid : Prop := admitBoundRow.holds Try.pinned (OpenSpec.ofChange admitBoundSpec)

/-- ITS FALSE NEIGHBOUR: 'it returns false'. Refute it at one input. -/
def admitBoundWrong : ChangeSpec := { name := "admitBound", fn := fun _ => fun
  | [d1, d2, d3, d4] => { results := [.lit (.bool false)], args := [d1, d2, d3, d4] }
  | _ => none }
def AdmitBoundWrongFalsely : Prop := admitBoundRow.holds Try.pinned (OpenSpec.ofChange admitBoundWrong)

/-- 'bilgelaw23.AdmitCritical': WHATEVER THE INPUT: true; the input reads as it did. -/
def admitCriticalSpec : ChangeSpec := { name := "admitCritical", fn := fun _ => fun
  | [d1, d2, d3, d4] => { results := [.lit (.bool true)], args := [d1, d2, d3, d4] }
  | _ => none }
def admitCriticalRow : OpenClaim := { program := "ytafojeeehehplaa", sum := "7ef9f7550fc5243d2886667fe1fe6fa2f943f6404955daa5de624fd623fa4441", func := "bilge/bilgelaw23.AdmitCritical", spec := "admitCritical", unfollowed := true, recurses := true, apart := false }
def AdmitCriticalSaid : Prop := admitCriticalRow.holds Try.pinned (OpenSpec.ofChange admitCriticalSpec)

/-- ITS FALSE NEIGHBOUR: 'it returns false'. Refute it at one input. -/
def admitCriticalWrong : ChangeSpec := { name := "admitCritical", fn := fun _ => fun
  | [d1, d2, d3, d4] => { results := [.lit (.bool false)], args := [d1, d2, d3, d4] }
  | _ => none }
def AdmitCriticalWrongFalsely : Prop := admitCriticalRow.holds Try.pinned (OpenSpec.ofChange admitCriticalWrong)

/-- 'bilgelaw23.AdmitBars': WHATEVER THE INPUT: true; the input reads as it did. -/
def admitBarsSpec : ChangeSpec := { name := "admitBars", fn := fun _ => fun
  | [d1, d2, d3] => { results := [.lit (.bool true)], args := [d1, d2, d3] }
  | _ => none }
def admitBarsRow : OpenClaim := { program := "ytafojeeehehplaa", sum := "7ef9f7550fc5243d2886667fe1fe6fa2f943f6404955daa5de624fd623fa4441", func := "bilge/bilgelaw23.AdmitBars", spec := "admitBars", unfollowed := true, recurses := true, apart := false }
def AdmitBarsSaid : Prop := admitBarsRow.holds Try.pinned (OpenSpec.ofChange admitBarsSpec)

/-- ITS FALSE NEIGHBOUR: 'it returns false'. Refute it at one input. -/
def admitBarsWrong : ChangeSpec := { name := "admitBars", fn := fun _ => fun
  | [d1, d2, d3] => { results := [.lit (.bool false)], args := [d1, d2, d3] }
  | _ => none }
def AdmitBarsWrongFalsely : Prop := admitBarsRow.holds Try.pinned (OpenSpec.ofChange admitBarsWrong)

/-- 'bilgelaw23.AdmitErrors': WHATEVER THE INPUT: true; the input reads as it did. -/
def admitErrorsSpec : ChangeSpec := { name := "admitErrors", fn := fun _ => fun
  | [d1, d2, d3, d4] => { results := [.lit (.bool true)], args := [d1, d2, d3, d4] }
  | _ => none }
def admitErrorsRow : OpenClaim := { program := "ytafojeeehehplaa", sum := "7ef9f7550fc5243d2886667fe1fe6fa2f943f6404955daa5de624fd623fa4441", func := "bilge/bilgelaw23.AdmitErrors", spec := "admitErrors", unfollowed := true, recurses := true, apart := false }
def AdmitErrorsSaid : Prop := admitErrorsRow.holds Try.pinned (OpenSpec.ofChange admitErrorsSpec)

/-- ITS FALSE NEIGHBOUR: 'it returns false'. Refute it at one input. -/
def admitErrorsWrong : ChangeSpec := { name := "admitErrors", fn := fun _ => fun
  | [d1, d2, d3, d4] => { results := [.lit (.bool false)], args := [d1, d2, d3, d4] }
  | _ => none }
def AdmitErrorsWrongFalsely : Prop := admitErrorsRow.holds Try.pinned (OpenSpec.ofChange admitErrorsWrong)

/-- 'bilgelaw23.AdmitLess': WHATEVER THE INPUT: true; the input reads as it did. -/
def admitLessSpec : ChangeSpec := { name := "admitLess", fn := fun _ => fun
  | [d1, d2, d3, d4] => { results := [.lit (.bool true)], args := [d1, d2, d3, d4] }
  | _ => none }
def admitLessRow : OpenClaim := { program := "ytafojeeehehplaa", sum := "7ef9f7550fc5243d2886667fe1fe6fa2f943f6404955daa5de624fd623fa4441", func := "bilge/bilgelaw23.AdmitLess", spec := "admitLess", unfollowed := true, recurses := true, apart := false }
def AdmitLessSaid : Prop := admitLessRow.holds Try.pinned (OpenSpec.ofChange admitLessSpec)

/-- ITS FALSE NEIGHBOUR: 'it returns false'. Refute it at one input. -/
def admitLessWrong : ChangeSpec := { name := "admitLess", fn := fun _ => fun
  | [d1, d2, d3, d4] => { results := [.lit (.bool false)], args := [d1, d2, d3, d4] }
  | _ => none }
def AdmitLessWrongFalsely : Prop := admitLessRow.holds Try.pinned (OpenSpec.ofChange admitLessWrong)

/-- 'bilgelaw23.AdmitKeeps': WHATEVER THE INPUT: true; the input reads as it did. -/
def admitKeepsSpec : ChangeSpec := { name := "admitKeeps", fn := fun _ => fun
  | [d1, d2, d3, d4] => { results := [.lit (.bool true)], args := [d1, d2, d3, d4] }
  | _ => none }
def admitKeepsRow : OpenClaim := { program := "ytafojeeehehplaa", sum := "7ef9f7550fc5243d2886667fe1fe6fa2f943f6404955daa5de624fd623fa4441", func := "bilge/bilgelaw23.AdmitKeeps", spec := "admitKeeps", unfollowed := true, recurses := true, apart := false }
def AdmitKeepsSaid : Prop := admitKeepsRow.holds Try.pinned (OpenSpec.ofChange admitKeepsSpec)

/-- ITS FALSE NEIGHBOUR: 'it returns false'. Refute it at one input. -/
def admitKeepsWrong : ChangeSpec := { name := "admitKeeps", fn := fun _ => fun
  | [d1, d2, d3, d4] => { results := [.lit (.bool false)], args := [d1, d2, d3, d4] }
  | _ => none }
def AdmitKeepsWrongFalsely : Prop := admitKeepsRow.holds Try.pinned (OpenSpec.ofChange admitKeepsWrong)

/- THE SECOND FORM. 'bulk': how many values and letters a reading holds, each counted each time it is reached (what is shared counts as often as it is met; a slice's spare places count too). A statement '..UptoSaid' is the law's where the arguments, and the package variables that the reading takes, are together of bulk at most 1048576: NARROWER than '..Said'. Prove '..Said' where nothing that the law and all that it calls make is longer than what came in: it says more and counts as full. Else prove '..UptoSaid'. A law counts once. -/
mutual
def uptoBulk {H : Type} : DataW H → Nat
  | .lit (.string bytes) => bytes.length + 1
  | .lit _ => 1
  | .nil => 1
  | .ptr d => uptoBulk d + 1
  | .slice elems spare => uptoBulkAll elems + uptoBulkAll spare + 1
  | .agg parts => uptoBulkAll parts + 1
  | .iface _ d => uptoBulk d + 1
  | .map entries => uptoBulkEntries entries + 1
  | .held _ => 1
def uptoBulkAll {H : Type} : List (DataW H) → Nat
  | [] => 0
  | d :: r => uptoBulk d + uptoBulkAll r
def uptoBulkEntries {H : Type} : List (Lit × DataW H) → Nat
  | [] => 0
  | x :: r => uptoBulkEntry x + uptoBulkEntries r
def uptoBulkEntry {H : Type} : Lit × DataW H → Nat
  | (.string bytes, d) => bytes.length + uptoBulk d + 1
  | (_, d) => uptoBulk d + 1
 end
def uptoSmall : (H : Type) → List (DataW H) → Bool := fun _ ds => decide (uptoBulkAll ds ≤ 1048576)
def OpenSpec.upto (s : _root_.Go.ChangeSpec) : _root_.Go.OpenSpec := { _root_.Go.OpenSpec.ofChange s with cond := some uptoSmall }

/-- 'bilgelaw23.AdmitDecides', WHERE WHAT IT READS IS OF BULK AT MOST 1048576: true; the input reads as it did. -/
def admitDecidesUptoRow : OpenClaim := { program := "ytafojeeehehplaa", sum := "7ef9f7550fc5243d2886667fe1fe6fa2f943f6404955daa5de624fd623fa4441", func := "bilge/bilgelaw23.AdmitDecides", spec := "admitDecides", unfollowed := true, recurses := true, apart := false, narrowed := true }
def AdmitDecidesUptoSaid : Prop := admitDecidesUptoRow.holds Try.pinned (OpenSpec.upto admitDecidesSpec)

/-- 'bilgelaw23.AdmitBound', WHERE WHAT IT READS IS OF BULK AT MOST 1048576: true; the input reads as it did. -/
def admitBoundUptoRow : OpenClaim := { program := "ytafojeeehehplaa", sum := "7ef9f7550fc5243d2886667fe1fe6fa2f943f6404955daa5de624fd623fa4441", func := "bilge/bilgelaw23.AdmitBound", spec := "admitBound", unfollowed := true, recurses := true, apart := false, narrowed := true }
def AdmitBoundUptoSaid : Prop := admitBoundUptoRow.holds Try.pinned (OpenSpec.upto admitBoundSpec)

/-- 'bilgelaw23.AdmitCritical', WHERE WHAT IT READS IS OF BULK AT MOST 1048576: true; the input reads as it did. -/
def admitCriticalUptoRow : OpenClaim := { program := "ytafojeeehehplaa", sum := "7ef9f7550fc5243d2886667fe1fe6fa2f943f6404955daa5de624fd623fa4441", func := "bilge/bilgelaw23.AdmitCritical", spec := "admitCritical", unfollowed := true, recurses := true, apart := false, narrowed := true }
def AdmitCriticalUptoSaid : Prop := admitCriticalUptoRow.holds Try.pinned (OpenSpec.upto admitCriticalSpec)

/-- 'bilgelaw23.AdmitBars', WHERE WHAT IT READS IS OF BULK AT MOST 1048576: true; the input reads as it did. -/
def admitBarsUptoRow : OpenClaim := { program := "ytafojeeehehplaa", sum := "7ef9f7550fc5243d2886667fe1fe6fa2f943f6404955daa5de624fd623fa4441", func := "bilge/bilgelaw23.AdmitBars", spec := "admitBars", unfollowed := true, recurses := true, apart := false, narrowed := true }
def AdmitBarsUptoSaid : Prop := admitBarsUptoRow.holds Try.pinned (OpenSpec.upto admitBarsSpec)

/-- 'bilgelaw23.AdmitErrors', WHERE WHAT IT READS IS OF BULK AT MOST 1048576: true; the input reads as it did. -/
def admitErrorsUptoRow : OpenClaim := { program := "ytafojeeehehplaa", sum := "7ef9f7550fc5243d2886667fe1fe6fa2f943f6404955daa5de624fd623fa4441", func := "bilge/bilgelaw23.AdmitErrors", spec := "admitErrors", unfollowed := true, recurses := true, apart := false, narrowed := true }
def AdmitErrorsUptoSaid : Prop := admitErrorsUptoRow.holds Try.pinned (OpenSpec.upto admitErrorsSpec)

/-- 'bilgelaw23.AdmitLess', WHERE WHAT IT READS IS OF BULK AT MOST 1048576: true; the input reads as it did. -/
def admitLessUptoRow : OpenClaim := { program := "ytafojeeehehplaa", sum := "7ef9f7550fc5243d2886667fe1fe6fa2f943f6404955daa5de624fd623fa4441", func := "bilge/bilgelaw23.AdmitLess", spec := "admitLess", unfollowed := true, recurses := true, apart := false, narrowed := true }
def AdmitLessUptoSaid : Prop := admitLessUptoRow.holds Try.pinned (OpenSpec.upto admitLessSpec)

/-- 'bilgelaw23.AdmitKeeps', WHERE WHAT IT READS IS OF BULK AT MOST 1048576: true; the input reads as it did. -/
def admitKeepsUptoRow : OpenClaim := { program := "ytafojeeehehplaa", sum := "7ef9f7550fc5243d2886667fe1fe6fa2f943f6404955daa5de624fd623fa4441", func := "bilge/bilgelaw23.AdmitKeeps", spec := "admitKeeps", unfollowed := true, recurses := true, apart := false, narrowed := true }
def AdmitKeepsUptoSaid : Prop := admitKeepsUptoRow.holds Try.pinned (OpenSpec.upto admitKeepsSpec)

end Rows
end Go.Proofs.Ytafojeeehehplaa
