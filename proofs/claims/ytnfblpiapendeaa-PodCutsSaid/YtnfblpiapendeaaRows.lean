/-
  No cell of these rows narrows 'for every input' (looked for: loops, veiled, ifaces, maps, wideKeys, modest, calm, conditions, laid).
  DERIVED. THE GIVEN ROWS OF THIS SEAT. 11 by the template 'for every input the law returns true; each argument reads behind the call as it read before'; 0 by the template 'total and deterministic' (their statements: YtnfblpiapendeaaTotals.lean).
  GIVEN WITH THE SEED: the statements are not yours to turn. If you find one false, say at which input.
  Laid BY PROGRAM, IN A SANDBOX (cutbox-rows.mjs): the forced cells as the released guide's own fill.sh prints them over the translation 81b132ed3730ec2a… (all of the seat's roots in one cut). By AI agents, Wed Nov 11 2026. No macro, syntax, notation, axiom, sorry.
-/
import Derived.Test.YtnfblpiapendeaaChecked
import GoSem.Claim
import GoSem.ClaimJoined
import GoSem.ClaimMapViews
import Derived.JoinedTies
import Derived.KernelRfl
namespace Go.Proofs.Ytnfblpiapendeaa
/- THE CELL 'sum', in the pinned program and in every row, IS THE sha256 OF THE DUMP (.gsa) THAT YtnfblpiapendeaaProg.lean LOADS. Nothing in Lean hashes anything: it is a label: what it is worth is what the hold of that sum in a sandbox is worth. -/
noncomputable def Try.pinned : Pinned := { name := "ytnfblpiapendeaa", sum := "81b132ed3730ec2af26132cdfcb55224b00c04730eee4ca9a7b6b9d97112bce2", checked := Try.checked }
namespace Rows
def none {H : Type} : Left H := { results := [], args := [] }

/-- 'bilgelaw12.PodPuts': WHATEVER THE INPUT: true; the input reads as it did. -/
def podPutsSpec : ChangeSpec := { name := "podPuts", fn := fun _ => fun
  | [d1, d2] => { results := [.lit (.bool true)], args := [d1, d2] }
  | _ => none }
def podPutsRow : OpenClaim := { program := "ytnfblpiapendeaa", sum := "81b132ed3730ec2af26132cdfcb55224b00c04730eee4ca9a7b6b9d97112bce2", func := "bilge/bilgelaw12.PodPuts", spec := "podPuts", apart := false }
def PodPutsSaid : Prop := podPutsRow.holds Try.pinned (OpenSpec.ofChange podPutsSpec)

/-- ITS FALSE NEIGHBOUR: 'it returns false'. Refute it at one input. -/
def podPutsWrong : ChangeSpec := { name := "podPuts", fn := fun _ => fun
  | [d1, d2] => { results := [.lit (.bool false)], args := [d1, d2] }
  | _ => none }
def PodPutsWrongFalsely : Prop := podPutsRow.holds Try.pinned (OpenSpec.ofChange podPutsWrong)

/-- 'bilgelaw12.PodBack': WHATEVER THE INPUT: true; the input reads as it did. -/
def podBackSpec : ChangeSpec := { name := "podBack", fn := fun _ => fun
  | [d1, d2, d3] => { results := [.lit (.bool true)], args := [d1, d2, d3] }
  | _ => none }
def podBackRow : OpenClaim := { program := "ytnfblpiapendeaa", sum := "81b132ed3730ec2af26132cdfcb55224b00c04730eee4ca9a7b6b9d97112bce2", func := "bilge/bilgelaw12.PodBack", spec := "podBack", apart := false }
def PodBackSaid : Prop := podBackRow.holds Try.pinned (OpenSpec.ofChange podBackSpec)

/-- ITS FALSE NEIGHBOUR: 'it returns false'. Refute it at one input. -/
def podBackWrong : ChangeSpec := { name := "podBack", fn := fun _ => fun
  | [d1, d2, d3] => { results := [.lit (.bool false)], args := [d1, d2, d3] }
  | _ => none }
def PodBackWrongFalsely : Prop := podBackRow.holds Try.pinned (OpenSpec.ofChange podBackWrong)

/-- 'bilgelaw12.PodCuts': WHATEVER THE INPUT: true; the input reads as it did. -/
def podCutsSpec : ChangeSpec := { name := "podCuts", fn := fun _ => fun
  | [d] => { results := [.lit (.bool true)], args := [d] }
  | _ => none }
def podCutsRow : OpenClaim := { program := "ytnfblpiapendeaa", sum := "81b132ed3730ec2af26132cdfcb55224b00c04730eee4ca9a7b6b9d97112bce2", func := "bilge/bilgelaw12.PodCuts", spec := "podCuts", apart := false }
def PodCutsSaid : Prop := podCutsRow.holds Try.pinned (OpenSpec.ofChange podCutsSpec)

/-- ITS FALSE NEIGHBOUR: 'it returns false'. Refute it at one input. -/
def podCutsWrong : ChangeSpec := { name := "podCuts", fn := fun _ => fun
  | [d] => { results := [.lit (.bool false)], args := [d] }
  | _ => none }
def PodCutsWrongFalsely : Prop := podCutsRow.holds Try.pinned (OpenSpec.ofChange podCutsWrong)

/-- 'bilgelaw12.PodSums': WHATEVER THE INPUT: true; the input reads as it did. -/
def podSumsSpec : ChangeSpec := { name := "podSums", fn := fun _ => fun
  | [d] => { results := [.lit (.bool true)], args := [d] }
  | _ => none }
def podSumsRow : OpenClaim := { program := "ytnfblpiapendeaa", sum := "81b132ed3730ec2af26132cdfcb55224b00c04730eee4ca9a7b6b9d97112bce2", func := "bilge/bilgelaw12.PodSums", spec := "podSums", apart := false }
def PodSumsSaid : Prop := podSumsRow.holds Try.pinned (OpenSpec.ofChange podSumsSpec)

/-- ITS FALSE NEIGHBOUR: 'it returns false'. Refute it at one input. -/
def podSumsWrong : ChangeSpec := { name := "podSums", fn := fun _ => fun
  | [d] => { results := [.lit (.bool false)], args := [d] }
  | _ => none }
def PodSumsWrongFalsely : Prop := podSumsRow.holds Try.pinned (OpenSpec.ofChange podSumsWrong)

/-- 'bilgelaw12.PodKeeps': WHATEVER THE INPUT: true; the input reads as it did. -/
def podKeepsSpec : ChangeSpec := { name := "podKeeps", fn := fun _ => fun
  | [d1, d2] => { results := [.lit (.bool true)], args := [d1, d2] }
  | _ => none }
def podKeepsRow : OpenClaim := { program := "ytnfblpiapendeaa", sum := "81b132ed3730ec2af26132cdfcb55224b00c04730eee4ca9a7b6b9d97112bce2", func := "bilge/bilgelaw12.PodKeeps", spec := "podKeeps", apart := false }
def PodKeepsSaid : Prop := podKeepsRow.holds Try.pinned (OpenSpec.ofChange podKeepsSpec)

/-- ITS FALSE NEIGHBOUR: 'it returns false'. Refute it at one input. -/
def podKeepsWrong : ChangeSpec := { name := "podKeeps", fn := fun _ => fun
  | [d1, d2] => { results := [.lit (.bool false)], args := [d1, d2] }
  | _ => none }
def PodKeepsWrongFalsely : Prop := podKeepsRow.holds Try.pinned (OpenSpec.ofChange podKeepsWrong)

/-- 'bilgelaw12.PodUnlike': WHATEVER THE INPUT: true; the input reads as it did. -/
def podUnlikeSpec : ChangeSpec := { name := "podUnlike", fn := fun _ => fun
  | [d1, d2] => { results := [.lit (.bool true)], args := [d1, d2] }
  | _ => none }
def podUnlikeRow : OpenClaim := { program := "ytnfblpiapendeaa", sum := "81b132ed3730ec2af26132cdfcb55224b00c04730eee4ca9a7b6b9d97112bce2", func := "bilge/bilgelaw12.PodUnlike", spec := "podUnlike", apart := false }
def PodUnlikeSaid : Prop := podUnlikeRow.holds Try.pinned (OpenSpec.ofChange podUnlikeSpec)

/-- ITS FALSE NEIGHBOUR: 'it returns false'. Refute it at one input. -/
def podUnlikeWrong : ChangeSpec := { name := "podUnlike", fn := fun _ => fun
  | [d1, d2] => { results := [.lit (.bool false)], args := [d1, d2] }
  | _ => none }
def PodUnlikeWrongFalsely : Prop := podUnlikeRow.holds Try.pinned (OpenSpec.ofChange podUnlikeWrong)

/-- 'bilgelaw13.QosClasses': WHATEVER THE INPUT: true; the input reads as it did. -/
def qosClassesSpec : ChangeSpec := { name := "qosClasses", fn := fun _ => fun
  | [d1, d2] => { results := [.lit (.bool true)], args := [d1, d2] }
  | _ => none }
def qosClassesRow : OpenClaim := { program := "ytnfblpiapendeaa", sum := "81b132ed3730ec2af26132cdfcb55224b00c04730eee4ca9a7b6b9d97112bce2", func := "bilge/bilgelaw13.QosClasses", spec := "qosClasses", unfollowed := true, recurses := true, apart := false }
def QosClassesSaid : Prop := qosClassesRow.holds Try.pinned (OpenSpec.ofChange qosClassesSpec)

/-- ITS FALSE NEIGHBOUR: 'it returns false'. Refute it at one input. -/
def qosClassesWrong : ChangeSpec := { name := "qosClasses", fn := fun _ => fun
  | [d1, d2] => { results := [.lit (.bool false)], args := [d1, d2] }
  | _ => none }
def QosClassesWrongFalsely : Prop := qosClassesRow.holds Try.pinned (OpenSpec.ofChange qosClassesWrong)

/-- 'bilgelaw13.QosParts': WHATEVER THE INPUT: true; the input reads as it did. -/
def qosPartsSpec : ChangeSpec := { name := "qosParts", fn := fun _ => fun
  | [d1, d2] => { results := [.lit (.bool true)], args := [d1, d2] }
  | _ => none }
def qosPartsRow : OpenClaim := { program := "ytnfblpiapendeaa", sum := "81b132ed3730ec2af26132cdfcb55224b00c04730eee4ca9a7b6b9d97112bce2", func := "bilge/bilgelaw13.QosParts", spec := "qosParts", unfollowed := true, recurses := true, apart := false }
def QosPartsSaid : Prop := qosPartsRow.holds Try.pinned (OpenSpec.ofChange qosPartsSpec)

/-- ITS FALSE NEIGHBOUR: 'it returns false'. Refute it at one input. -/
def qosPartsWrong : ChangeSpec := { name := "qosParts", fn := fun _ => fun
  | [d1, d2] => { results := [.lit (.bool false)], args := [d1, d2] }
  | _ => none }
def QosPartsWrongFalsely : Prop := qosPartsRow.holds Try.pinned (OpenSpec.ofChange qosPartsWrong)

/-- 'bilgelaw13.QosMore': WHATEVER THE INPUT: true; the input reads as it did. -/
def qosMoreSpec : ChangeSpec := { name := "qosMore", fn := fun _ => fun
  | [d1, d2, d3] => { results := [.lit (.bool true)], args := [d1, d2, d3] }
  | _ => none }
def qosMoreRow : OpenClaim := { program := "ytnfblpiapendeaa", sum := "81b132ed3730ec2af26132cdfcb55224b00c04730eee4ca9a7b6b9d97112bce2", func := "bilge/bilgelaw13.QosMore", spec := "qosMore", unfollowed := true, recurses := true, apart := false }
def QosMoreSaid : Prop := qosMoreRow.holds Try.pinned (OpenSpec.ofChange qosMoreSpec)

/-- ITS FALSE NEIGHBOUR: 'it returns false'. Refute it at one input. -/
def qosMoreWrong : ChangeSpec := { name := "qosMore", fn := fun _ => fun
  | [d1, d2, d3] => { results := [.lit (.bool false)], args := [d1, d2, d3] }
  | _ => none }
def QosMoreWrongFalsely : Prop := qosMoreRow.holds Try.pinned (OpenSpec.ofChange qosMoreWrong)

/-- 'bilgelaw13.QosCounts': WHATEVER THE INPUT: true; the input reads as it did. -/
def qosCountsSpec : ChangeSpec := { name := "qosCounts", fn := fun _ => fun
  | [d] => { results := [.lit (.bool true)], args := [d] }
  | _ => none }
def qosCountsRow : OpenClaim := { program := "ytnfblpiapendeaa", sum := "81b132ed3730ec2af26132cdfcb55224b00c04730eee4ca9a7b6b9d97112bce2", func := "bilge/bilgelaw13.QosCounts", spec := "qosCounts", unfollowed := true, recurses := true, apart := false }
def QosCountsSaid : Prop := qosCountsRow.holds Try.pinned (OpenSpec.ofChange qosCountsSpec)

/-- ITS FALSE NEIGHBOUR: 'it returns false'. Refute it at one input. -/
def qosCountsWrong : ChangeSpec := { name := "qosCounts", fn := fun _ => fun
  | [d] => { results := [.lit (.bool false)], args := [d] }
  | _ => none }
def QosCountsWrongFalsely : Prop := qosCountsRow.holds Try.pinned (OpenSpec.ofChange qosCountsWrong)

/-- 'bilgelaw13.QosLimits': WHATEVER THE INPUT: true; the input reads as it did. -/
def qosLimitsSpec : ChangeSpec := { name := "qosLimits", fn := fun _ => fun
  | [d1, d2, d3, d4, d5] => { results := [.lit (.bool true)], args := [d1, d2, d3, d4, d5] }
  | _ => none }
def qosLimitsRow : OpenClaim := { program := "ytnfblpiapendeaa", sum := "81b132ed3730ec2af26132cdfcb55224b00c04730eee4ca9a7b6b9d97112bce2", func := "bilge/bilgelaw13.QosLimits", spec := "qosLimits", unfollowed := true, recurses := true, apart := false }
def QosLimitsSaid : Prop := qosLimitsRow.holds Try.pinned (OpenSpec.ofChange qosLimitsSpec)

/-- ITS FALSE NEIGHBOUR: 'it returns false'. Refute it at one input. -/
def qosLimitsWrong : ChangeSpec := { name := "qosLimits", fn := fun _ => fun
  | [d1, d2, d3, d4, d5] => { results := [.lit (.bool false)], args := [d1, d2, d3, d4, d5] }
  | _ => none }
def QosLimitsWrongFalsely : Prop := qosLimitsRow.holds Try.pinned (OpenSpec.ofChange qosLimitsWrong)

/- THE SECOND FORM. 'bulk': how many values and letters a reading holds, each counted each time it is reached (what is shared counts as often as it is met; a slice's spare places count too). A statement '..UptoSaid' is the law's where the arguments, and the package variables that the reading takes, are together of bulk at most 1048576: NARROWER than '..Said'. Prove '..Said' where nothing that the law and all that it calls make is longer than what came in: it says more and counts as full. Else prove '..UptoSaid'. A law counts once. -/
mutual
def uptoBulk {H : Type} : DataW H → Nat
  | .lit (.string bytes) => bytes.length + 1
  | .lit _ => 1
  | .nil => 1
  | .ptr d => uptoBulk d + 1
  | .slice elems spare => uptoBulkAll elems + uptoBulkAll spare + 1
  | .agg parts => uptoBulkAll parts + 1
  | .iface _ d => uptoBulk d + 1
  | .map entries => uptoBulkEntries entries + 1
  | .held _ => 1
def uptoBulkAll {H : Type} : List (DataW H) → Nat
  | [] => 0
  | d :: r => uptoBulk d + uptoBulkAll r
def uptoBulkEntries {H : Type} : List (Lit × DataW H) → Nat
  | [] => 0
  | x :: r => uptoBulkEntry x + uptoBulkEntries r
def uptoBulkEntry {H : Type} : Lit × DataW H → Nat
  | (.string bytes, d) => bytes.length + uptoBulk d + 1
  | (_, d) => uptoBulk d + 1
 end
def uptoSmall : (H : Type) → List (DataW H) → Bool := fun _ ds => decide (uptoBulkAll ds ≤ 1048576)
def OpenSpec.upto (s : _root_.Go.ChangeSpec) : _root_.Go.OpenSpec := { _root_.Go.OpenSpec.ofChange s with cond := some uptoSmall }

/-- 'bilgelaw12.PodPuts', WHERE WHAT IT READS IS OF BULK AT MOST 1048576: true; the input reads as it did. -/
def podPutsUptoRow : OpenClaim := { program := "ytnfblpiapendeaa", sum := "81b132ed3730ec2af26132cdfcb55224b00c04730eee4ca9a7b6b9d97112bce2", func := "bilge/bilgelaw12.PodPuts", spec := "podPuts", apart := false, narrowed := true }
def PodPutsUptoSaid : Prop := podPutsUptoRow.holds Try.pinned (OpenSpec.upto podPutsSpec)

/-- 'bilgelaw12.PodBack', WHERE WHAT IT READS IS OF BULK AT MOST 1048576: true; the input reads as it did. -/
def podBackUptoRow : OpenClaim := { program := "ytnfblpiapendeaa", sum := "81b132ed3730ec2af26132cdfcb55224b00c04730eee4ca9a7b6b9d97112bce2", func := "bilge/bilgelaw12.PodBack", spec := "podBack", apart := false, narrowed := true }
def PodBackUptoSaid : Prop := podBackUptoRow.holds Try.pinned (OpenSpec.upto podBackSpec)

/-- 'bilgelaw12.PodCuts', WHERE WHAT IT READS IS OF BULK AT MOST 1048576: true; the input reads as it did. -/
def podCutsUptoRow : OpenClaim := { program := "ytnfblpiapendeaa", sum := "81b132ed3730ec2af26132cdfcb55224b00c04730eee4ca9a7b6b9d97112bce2", func := "bilge/bilgelaw12.PodCuts", spec := "podCuts", apart := false, narrowed := true }
def PodCutsUptoSaid : Prop := podCutsUptoRow.holds Try.pinned (OpenSpec.upto podCutsSpec)

/-- 'bilgelaw12.PodSums', WHERE WHAT IT READS IS OF BULK AT MOST 1048576: true; the input reads as it did. -/
def podSumsUptoRow : OpenClaim := { program := "ytnfblpiapendeaa", sum := "81b132ed3730ec2af26132cdfcb55224b00c04730eee4ca9a7b6b9d97112bce2", func := "bilge/bilgelaw12.PodSums", spec := "podSums", apart := false, narrowed := true }
def PodSumsUptoSaid : Prop := podSumsUptoRow.holds Try.pinned (OpenSpec.upto podSumsSpec)

/-- 'bilgelaw12.PodKeeps', WHERE WHAT IT READS IS OF BULK AT MOST 1048576: true; the input reads as it did. -/
def podKeepsUptoRow : OpenClaim := { program := "ytnfblpiapendeaa", sum := "81b132ed3730ec2af26132cdfcb55224b00c04730eee4ca9a7b6b9d97112bce2", func := "bilge/bilgelaw12.PodKeeps", spec := "podKeeps", apart := false, narrowed := true }
def PodKeepsUptoSaid : Prop := podKeepsUptoRow.holds Try.pinned (OpenSpec.upto podKeepsSpec)

/-- 'bilgelaw12.PodUnlike', WHERE WHAT IT READS IS OF BULK AT MOST 1048576: true; the input reads as it did. -/
def podUnlikeUptoRow : OpenClaim := { program := "ytnfblpiapendeaa", sum := "81b132ed3730ec2af26132cdfcb55224b00c04730eee4ca9a7b6b9d97112bce2", func := "bilge/bilgelaw12.PodUnlike", spec := "podUnlike", apart := false, narrowed := true }
def PodUnlikeUptoSaid : Prop := podUnlikeUptoRow.holds Try.pinned (OpenSpec.upto podUnlikeSpec)

/-- 'bilgelaw13.QosClasses', WHERE WHAT IT READS IS OF BULK AT MOST 1048576: true; the input reads as it did. -/
def qosClassesUptoRow : OpenClaim := { program := "ytnfblpiapendeaa", sum := "81b132ed3730ec2af26132cdfcb55224b00c04730eee4ca9a7b6b9d97112bce2", func := "bilge/bilgelaw13.QosClasses", spec := "qosClasses", unfollowed := true, recurses := true, apart := false, narrowed := true }
def QosClassesUptoSaid : Prop := qosClassesUptoRow.holds Try.pinned (OpenSpec.upto qosClassesSpec)

/-- 'bilgelaw13.QosParts', WHERE WHAT IT READS IS OF BULK AT MOST 1048576: true; the input reads as it did. -/
def qosPartsUptoRow : OpenClaim := { program := "ytnfblpiapendeaa", sum := "81b132ed3730ec2af26132cdfcb55224b00c04730eee4ca9a7b6b9d97112bce2", func := "bilge/bilgelaw13.QosParts", spec := "qosParts", unfollowed := true, recurses := true, apart := false, narrowed := true }
def QosPartsUptoSaid : Prop := qosPartsUptoRow.holds Try.pinned (OpenSpec.upto qosPartsSpec)

/-- 'bilgelaw13.QosMore', WHERE WHAT IT READS IS OF BULK AT MOST 1048576: true; the input reads as it did. -/
def qosMoreUptoRow : OpenClaim := { program := "ytnfblpiapendeaa", sum := "81b132ed3730ec2af26132cdfcb55224b00c04730eee4ca9a7b6b9d97112bce2", func := "bilge/bilgelaw13.QosMore", spec := "qosMore", unfollowed := true, recurses := true, apart := false, narrowed := true }
def QosMoreUptoSaid : Prop := qosMoreUptoRow.holds Try.pinned (OpenSpec.upto qosMoreSpec)

/-- 'bilgelaw13.QosCounts', WHERE WHAT IT READS IS OF BULK AT MOST 1048576: true; the input reads as it did. -/
def qosCountsUptoRow : OpenClaim := { program := "ytnfblpiapendeaa", sum := "81b132ed3730ec2af26132cdfcb55224b00c04730eee4ca9a7b6b9d97112bce2", func := "bilge/bilgelaw13.QosCounts", spec := "qosCounts", unfollowed := true, recurses := true, apart := false, narrowed := true }
def QosCountsUptoSaid : Prop := qosCountsUptoRow.holds Try.pinned (OpenSpec.upto qosCountsSpec)

/-- 'bilgelaw13.QosLimits', WHERE WHAT IT READS IS OF BULK AT MOST 1048576: true; the input reads as it did. -/
def qosLimitsUptoRow : OpenClaim := { program := "ytnfblpiapendeaa", sum := "81b132ed3730ec2af26132cdfcb55224b00c04730eee4ca9a7b6b9d97112bce2", func := "bilge/bilgelaw13.QosLimits", spec := "qosLimits", unfollowed := true, recurses := true, apart := false, narrowed := true }
def QosLimitsUptoSaid : Prop := qosLimitsUptoRow.holds Try.pinned (OpenSpec.upto qosLimitsSpec)

end Rows
end Go.Proofs.Ytnfblpiapendeaa
