/-
  No cell of these rows narrows 'for every input' (looked for: loops, veiled, ifaces, maps, wideKeys, modest, calm, conditions, laid).
  DERIVED. THE GIVEN ROWS OF THIS SEAT. 10 by the template 'for every input the law returns true; each argument reads behind the call as it read before'; 0 by the template 'total and deterministic' (their statements: YtahjkpmlnjhddaaTotals.lean).
  GIVEN WITH THE SEED: the statements are not yours to turn. If you find one false, say at which input.
  Laid BY PROGRAM, IN A SANDBOX (cutbox-rows.mjs): the forced cells as the released guide's own fill.sh prints them over the translation 9b572807b2897394… (all of the seat's roots in one cut). By AI agents, Wed Nov 11 2026. No macro, syntax, notation, axiom, sorry.
-/
import Derived.Test.YtahjkpmlnjhddaaChecked
import GoSem.Claim
import GoSem.ClaimJoined
import GoSem.ClaimMapViews
import Derived.JoinedTies
import Derived.KernelRfl
namespace Go.Proofs.Ytahjkpmlnjhddaa
/- THE CELL 'sum', in the pinned program and in every row, IS THE sha256 OF THE DUMP (.gsa) THAT YtahjkpmlnjhddaaProg.lean LOADS. Nothing in Lean hashes anything: it is a label: what it is worth is what the hold of that sum in a sandbox is worth. -/
noncomputable def Try.pinned : Pinned := { name := "ytahjkpmlnjhddaa", sum := "9b572807b2897394fb943b6c2fa5b525e3c955466be320e1752617f868a18d20", checked := Try.checked }
namespace Rows
def none {H : Type} : Left H := { results := [], args := [] }

/-- 'bilgelaw01.SatSums': WHATEVER THE INPUT: true; the input reads as it did. -/
def satSumsSpec : ChangeSpec := { name := "satSums", fn := fun _ => fun
  | [d1, d2] => { results := [.lit (.bool true)], args := [d1, d2] }
  | _ => none }
def satSumsRow : OpenClaim := { program := "ytahjkpmlnjhddaa", sum := "9b572807b2897394fb943b6c2fa5b525e3c955466be320e1752617f868a18d20", func := "bilge/bilgelaw01.SatSums", spec := "satSums", apart := false }
def SatSumsSaid : Prop := satSumsRow.holds Try.pinned (OpenSpec.ofChange satSumsSpec)

/-- ITS FALSE NEIGHBOUR: 'it returns false'. Refute it at one input. -/
def satSumsWrong : ChangeSpec := { name := "satSums", fn := fun _ => fun
  | [d1, d2] => { results := [.lit (.bool false)], args := [d1, d2] }
  | _ => none }
def SatSumsWrongFalsely : Prop := satSumsRow.holds Try.pinned (OpenSpec.ofChange satSumsWrong)

/-- 'bilgelaw01.SatAll': WHATEVER THE INPUT: true; the input reads as it did. -/
def satAllSpec : ChangeSpec := { name := "satAll", fn := fun _ => fun
  | [d] => { results := [.lit (.bool true)], args := [d] }
  | _ => none }
def satAllRow : OpenClaim := { program := "ytahjkpmlnjhddaa", sum := "9b572807b2897394fb943b6c2fa5b525e3c955466be320e1752617f868a18d20", func := "bilge/bilgelaw01.SatAll", spec := "satAll", apart := false }
def SatAllSaid : Prop := satAllRow.holds Try.pinned (OpenSpec.ofChange satAllSpec)

/-- ITS FALSE NEIGHBOUR: 'it returns false'. Refute it at one input. -/
def satAllWrong : ChangeSpec := { name := "satAll", fn := fun _ => fun
  | [d] => { results := [.lit (.bool false)], args := [d] }
  | _ => none }
def SatAllWrongFalsely : Prop := satAllRow.holds Try.pinned (OpenSpec.ofChange satAllWrong)

/-- 'bilgelaw01.SatRules': WHATEVER THE INPUT: true; the input reads as it did. -/
def satRulesSpec : ChangeSpec := { name := "satRules", fn := fun _ => fun
  | [d1, d2, d3] => { results := [.lit (.bool true)], args := [d1, d2, d3] }
  | _ => none }
def satRulesRow : OpenClaim := { program := "ytahjkpmlnjhddaa", sum := "9b572807b2897394fb943b6c2fa5b525e3c955466be320e1752617f868a18d20", func := "bilge/bilgelaw01.SatRules", spec := "satRules", apart := false }
def SatRulesSaid : Prop := satRulesRow.holds Try.pinned (OpenSpec.ofChange satRulesSpec)

/-- ITS FALSE NEIGHBOUR: 'it returns false'. Refute it at one input. -/
def satRulesWrong : ChangeSpec := { name := "satRules", fn := fun _ => fun
  | [d1, d2, d3] => { results := [.lit (.bool false)], args := [d1, d2, d3] }
  | _ => none }
def SatRulesWrongFalsely : Prop := satRulesRow.holds Try.pinned (OpenSpec.ofChange satRulesWrong)

/-- 'bilgelaw01.SatLists': WHATEVER THE INPUT: true; the input reads as it did. -/
def satListsSpec : ChangeSpec := { name := "satLists", fn := fun _ => fun
  | [d1, d2] => { results := [.lit (.bool true)], args := [d1, d2] }
  | _ => none }
def satListsRow : OpenClaim := { program := "ytahjkpmlnjhddaa", sum := "9b572807b2897394fb943b6c2fa5b525e3c955466be320e1752617f868a18d20", func := "bilge/bilgelaw01.SatLists", spec := "satLists", apart := false }
def SatListsSaid : Prop := satListsRow.holds Try.pinned (OpenSpec.ofChange satListsSpec)

/-- ITS FALSE NEIGHBOUR: 'it returns false'. Refute it at one input. -/
def satListsWrong : ChangeSpec := { name := "satLists", fn := fun _ => fun
  | [d1, d2] => { results := [.lit (.bool false)], args := [d1, d2] }
  | _ => none }
def SatListsWrongFalsely : Prop := satListsRow.holds Try.pinned (OpenSpec.ofChange satListsWrong)

/-- 'bilgelaw01.SatTimes': WHATEVER THE INPUT: true; the input reads as it did. -/
def satTimesSpec : ChangeSpec := { name := "satTimes", fn := fun _ => fun
  | [d1, d2, d3] => { results := [.lit (.bool true)], args := [d1, d2, d3] }
  | _ => none }
def satTimesRow : OpenClaim := { program := "ytahjkpmlnjhddaa", sum := "9b572807b2897394fb943b6c2fa5b525e3c955466be320e1752617f868a18d20", func := "bilge/bilgelaw01.SatTimes", spec := "satTimes", apart := false }
def SatTimesSaid : Prop := satTimesRow.holds Try.pinned (OpenSpec.ofChange satTimesSpec)

/-- ITS FALSE NEIGHBOUR: 'it returns false'. Refute it at one input. -/
def satTimesWrong : ChangeSpec := { name := "satTimes", fn := fun _ => fun
  | [d1, d2, d3] => { results := [.lit (.bool false)], args := [d1, d2, d3] }
  | _ => none }
def SatTimesWrongFalsely : Prop := satTimesRow.holds Try.pinned (OpenSpec.ofChange satTimesWrong)

/-- 'bilgelaw02.WideExact': WHATEVER THE INPUT: true; the input reads as it did. -/
def wideExactSpec : ChangeSpec := { name := "wideExact", fn := fun _ => fun
  | [d1, d2, d3, d4] => { results := [.lit (.bool true)], args := [d1, d2, d3, d4] }
  | _ => none }
def wideExactRow : OpenClaim := { program := "ytahjkpmlnjhddaa", sum := "9b572807b2897394fb943b6c2fa5b525e3c955466be320e1752617f868a18d20", func := "bilge/bilgelaw02.WideExact", spec := "wideExact", inPlace := ["math/bits.Add64"], named := ["math/bits.divideError", "math/bits.overflowError"], apart := false }
def WideExactSaid : Prop := wideExactRow.holds Try.pinned (OpenSpec.ofChange wideExactSpec)

/-- ITS FALSE NEIGHBOUR: 'it returns false'. Refute it at one input. -/
def wideExactWrong : ChangeSpec := { name := "wideExact", fn := fun _ => fun
  | [d1, d2, d3, d4] => { results := [.lit (.bool false)], args := [d1, d2, d3, d4] }
  | _ => none }
def WideExactWrongFalsely : Prop := wideExactRow.holds Try.pinned (OpenSpec.ofChange wideExactWrong)

/-- 'bilgelaw02.WideRules': WHATEVER THE INPUT: true; the input reads as it did. -/
def wideRulesSpec : ChangeSpec := { name := "wideRules", fn := fun _ => fun
  | [d1, d2, d3, d4, d5, d6, d7, d8] => { results := [.lit (.bool true)], args := [d1, d2, d3, d4, d5, d6, d7, d8] }
  | _ => none }
def wideRulesRow : OpenClaim := { program := "ytahjkpmlnjhddaa", sum := "9b572807b2897394fb943b6c2fa5b525e3c955466be320e1752617f868a18d20", func := "bilge/bilgelaw02.WideRules", spec := "wideRules", inPlace := ["math/bits.Add64"], named := ["math/bits.divideError", "math/bits.overflowError"], apart := false }
def WideRulesSaid : Prop := wideRulesRow.holds Try.pinned (OpenSpec.ofChange wideRulesSpec)

/-- ITS FALSE NEIGHBOUR: 'it returns false'. Refute it at one input. -/
def wideRulesWrong : ChangeSpec := { name := "wideRules", fn := fun _ => fun
  | [d1, d2, d3, d4, d5, d6, d7, d8] => { results := [.lit (.bool false)], args := [d1, d2, d3, d4, d5, d6, d7, d8] }
  | _ => none }
def WideRulesWrongFalsely : Prop := wideRulesRow.holds Try.pinned (OpenSpec.ofChange wideRulesWrong)

/-- 'bilgelaw02.WideRatios': WHATEVER THE INPUT: true; the input reads as it did. -/
def wideRatiosSpec : ChangeSpec := { name := "wideRatios", fn := fun _ => fun
  | [d1, d2, d3, d4, d5] => { results := [.lit (.bool true)], args := [d1, d2, d3, d4, d5] }
  | _ => none }
def wideRatiosRow : OpenClaim := { program := "ytahjkpmlnjhddaa", sum := "9b572807b2897394fb943b6c2fa5b525e3c955466be320e1752617f868a18d20", func := "bilge/bilgelaw02.WideRatios", spec := "wideRatios", inPlace := ["math/bits.Add64"], named := ["math/bits.divideError", "math/bits.overflowError"], apart := false }
def WideRatiosSaid : Prop := wideRatiosRow.holds Try.pinned (OpenSpec.ofChange wideRatiosSpec)

/-- ITS FALSE NEIGHBOUR: 'it returns false'. Refute it at one input. -/
def wideRatiosWrong : ChangeSpec := { name := "wideRatios", fn := fun _ => fun
  | [d1, d2, d3, d4, d5] => { results := [.lit (.bool false)], args := [d1, d2, d3, d4, d5] }
  | _ => none }
def WideRatiosWrongFalsely : Prop := wideRatiosRow.holds Try.pinned (OpenSpec.ofChange wideRatiosWrong)

/-- 'bilgelaw02.WideShares': WHATEVER THE INPUT: true; the input reads as it did. -/
def wideSharesSpec : ChangeSpec := { name := "wideShares", fn := fun _ => fun
  | [d1, d2, d3] => { results := [.lit (.bool true)], args := [d1, d2, d3] }
  | _ => none }
def wideSharesRow : OpenClaim := { program := "ytahjkpmlnjhddaa", sum := "9b572807b2897394fb943b6c2fa5b525e3c955466be320e1752617f868a18d20", func := "bilge/bilgelaw02.WideShares", spec := "wideShares", inPlace := ["math/bits.Add64"], named := ["math/bits.divideError", "math/bits.overflowError"], apart := false }
def WideSharesSaid : Prop := wideSharesRow.holds Try.pinned (OpenSpec.ofChange wideSharesSpec)

/-- ITS FALSE NEIGHBOUR: 'it returns false'. Refute it at one input. -/
def wideSharesWrong : ChangeSpec := { name := "wideShares", fn := fun _ => fun
  | [d1, d2, d3] => { results := [.lit (.bool false)], args := [d1, d2, d3] }
  | _ => none }
def WideSharesWrongFalsely : Prop := wideSharesRow.holds Try.pinned (OpenSpec.ofChange wideSharesWrong)

/-- 'bilgelaw02.WideSplits': WHATEVER THE INPUT: true; the input reads as it did. -/
def wideSplitsSpec : ChangeSpec := { name := "wideSplits", fn := fun _ => fun
  | [d1, d2, d3, d4] => { results := [.lit (.bool true)], args := [d1, d2, d3, d4] }
  | _ => none }
def wideSplitsRow : OpenClaim := { program := "ytahjkpmlnjhddaa", sum := "9b572807b2897394fb943b6c2fa5b525e3c955466be320e1752617f868a18d20", func := "bilge/bilgelaw02.WideSplits", spec := "wideSplits", inPlace := ["math/bits.Add64"], named := ["math/bits.divideError", "math/bits.overflowError"], apart := false }
def WideSplitsSaid : Prop := wideSplitsRow.holds Try.pinned (OpenSpec.ofChange wideSplitsSpec)

/-- ITS FALSE NEIGHBOUR: 'it returns false'. Refute it at one input. -/
def wideSplitsWrong : ChangeSpec := { name := "wideSplits", fn := fun _ => fun
  | [d1, d2, d3, d4] => { results := [.lit (.bool false)], args := [d1, d2, d3, d4] }
  | _ => none }
def WideSplitsWrongFalsely : Prop := wideSplitsRow.holds Try.pinned (OpenSpec.ofChange wideSplitsWrong)

/- THE SECOND FORM. 'bulk': how many values and letters a reading holds, each counted each time it is reached (what is shared counts as often as it is met; a slice's spare places count too). A statement '..UptoSaid' is the law's where the arguments, and the package variables that the reading takes, are together of bulk at most 1048576: NARROWER than '..Said'. Prove '..Said' where nothing that the law and all that it calls make is longer than what came in: it says more and counts as full. Else prove '..UptoSaid'. A law counts once. -/
mutual
def uptoBulk {H : Type} : DataW H → Nat
  | .lit (.string bytes) => bytes.length + 1
  | .lit _ => 1
  | .nil => 1
  | .ptr d => uptoBulk d + 1
  | .slice elems spare => uptoBulkAll elems + uptoBulkAll spare + 1
  | .agg parts => uptoBulkAll parts + 1
  | .iface _ d => uptoBulk d + 1
  | .map entries => uptoBulkEntries entries + 1
  | .held _ => 1
def uptoBulkAll {H : Type} : List (DataW H) → Nat
  | [] => 0
  | d :: r => uptoBulk d + uptoBulkAll r
def uptoBulkEntries {H : Type} : List (Lit × DataW H) → Nat
  | [] => 0
  | x :: r => uptoBulkEntry x + uptoBulkEntries r
def uptoBulkEntry {H : Type} : Lit × DataW H → Nat
  | (.string bytes, d) => bytes.length + uptoBulk d + 1
  | (_, d) => uptoBulk d + 1
 end
def uptoSmall : (H : Type) → List (DataW H) → Bool := fun _ ds => decide (uptoBulkAll ds ≤ 1048576)
def OpenSpec.upto (s : _root_.Go.ChangeSpec) : _root_.Go.OpenSpec := { _root_.Go.OpenSpec.ofChange s with cond := some uptoSmall }

/-- 'bilgelaw01.SatSums', WHERE WHAT IT READS IS OF BULK AT MOST 1048576: true; the input reads as it did. -/
def satSumsUptoRow : OpenClaim := { program := "ytahjkpmlnjhddaa", sum := "9b572807b2897394fb943b6c2fa5b525e3c955466be320e1752617f868a18d20", func := "bilge/bilgelaw01.SatSums", spec := "satSums", apart := false, narrowed := true }
def SatSumsUptoSaid : Prop := satSumsUptoRow.holds Try.pinned (OpenSpec.upto satSumsSpec)

/-- 'bilgelaw01.SatAll', WHERE WHAT IT READS IS OF BULK AT MOST 1048576: true; the input reads as it did. -/
def satAllUptoRow : OpenClaim := { program := "ytahjkpmlnjhddaa", sum := "9b572807b2897394fb943b6c2fa5b525e3c955466be320e1752617f868a18d20", func := "bilge/bilgelaw01.SatAll", spec := "satAll", apart := false, narrowed := true }
def SatAllUptoSaid : Prop := satAllUptoRow.holds Try.pinned (OpenSpec.upto satAllSpec)

/-- 'bilgelaw01.SatRules', WHERE WHAT IT READS IS OF BULK AT MOST 1048576: true; the input reads as it did. -/
def satRulesUptoRow : OpenClaim := { program := "ytahjkpmlnjhddaa", sum := "9b572807b2897394fb943b6c2fa5b525e3c955466be320e1752617f868a18d20", func := "bilge/bilgelaw01.SatRules", spec := "satRules", apart := false, narrowed := true }
def SatRulesUptoSaid : Prop := satRulesUptoRow.holds Try.pinned (OpenSpec.upto satRulesSpec)

/-- 'bilgelaw01.SatLists', WHERE WHAT IT READS IS OF BULK AT MOST 1048576: true; the input reads as it did. -/
def satListsUptoRow : OpenClaim := { program := "ytahjkpmlnjhddaa", sum := "9b572807b2897394fb943b6c2fa5b525e3c955466be320e1752617f868a18d20", func := "bilge/bilgelaw01.SatLists", spec := "satLists", apart := false, narrowed := true }
def SatListsUptoSaid : Prop := satListsUptoRow.holds Try.pinned (OpenSpec.upto satListsSpec)

/-- 'bilgelaw01.SatTimes', WHERE WHAT IT READS IS OF BULK AT MOST 1048576: true; the input reads as it did. -/
def satTimesUptoRow : OpenClaim := { program := "ytahjkpmlnjhddaa", sum := "9b572807b2897394fb943b6c2fa5b525e3c955466be320e1752617f868a18d20", func := "bilge/bilgelaw01.SatTimes", spec := "satTimes", apart := false, narrowed := true }
def SatTimesUptoSaid : Prop := satTimesUptoRow.holds Try.pinned (OpenSpec.upto satTimesSpec)

/-- 'bilgelaw02.WideExact', WHERE WHAT IT READS IS OF BULK AT MOST 1048576: true; the input reads as it did. -/
def wideExactUptoRow : OpenClaim := { program := "ytahjkpmlnjhddaa", sum := "9b572807b2897394fb943b6c2fa5b525e3c955466be320e1752617f868a18d20", func := "bilge/bilgelaw02.WideExact", spec := "wideExact", inPlace := ["math/bits.Add64"], named := ["math/bits.divideError", "math/bits.overflowError"], apart := false, narrowed := true }
def WideExactUptoSaid : Prop := wideExactUptoRow.holds Try.pinned (OpenSpec.upto wideExactSpec)

/-- 'bilgelaw02.WideRules', WHERE WHAT IT READS IS OF BULK AT MOST 1048576: true; the input reads as it did. -/
def wideRulesUptoRow : OpenClaim := { program := "ytahjkpmlnjhddaa", sum := "9b572807b2897394fb943b6c2fa5b525e3c955466be320e1752617f868a18d20", func := "bilge/bilgelaw02.WideRules", spec := "wideRules", inPlace := ["math/bits.Add64"], named := ["math/bits.divideError", "math/bits.overflowError"], apart := false, narrowed := true }
def WideRulesUptoSaid : Prop := wideRulesUptoRow.holds Try.pinned (OpenSpec.upto wideRulesSpec)

/-- 'bilgelaw02.WideRatios', WHERE WHAT IT READS IS OF BULK AT MOST 1048576: true; the input reads as it did. -/
def wideRatiosUptoRow : OpenClaim := { program := "ytahjkpmlnjhddaa", sum := "9b572807b2897394fb943b6c2fa5b525e3c955466be320e1752617f868a18d20", func := "bilge/bilgelaw02.WideRatios", spec := "wideRatios", inPlace := ["math/bits.Add64"], named := ["math/bits.divideError", "math/bits.overflowError"], apart := false, narrowed := true }
def WideRatiosUptoSaid : Prop := wideRatiosUptoRow.holds Try.pinned (OpenSpec.upto wideRatiosSpec)

/-- 'bilgelaw02.WideShares', WHERE WHAT IT READS IS OF BULK AT MOST 1048576: true; the input reads as it did. -/
def wideSharesUptoRow : OpenClaim := { program := "ytahjkpmlnjhddaa", sum := "9b572807b2897394fb943b6c2fa5b525e3c955466be320e1752617f868a18d20", func := "bilge/bilgelaw02.WideShares", spec := "wideShares", inPlace := ["math/bits.Add64"], named := ["math/bits.divideError", "math/bits.overflowError"], apart := false, narrowed := true }
def WideSharesUptoSaid : Prop := wideSharesUptoRow.holds Try.pinned (OpenSpec.upto wideSharesSpec)

/-- 'bilgelaw02.WideSplits', WHERE WHAT IT READS IS OF BULK AT MOST 1048576: true; the input reads as it did. -/
def wideSplitsUptoRow : OpenClaim := { program := "ytahjkpmlnjhddaa", sum := "9b572807b2897394fb943b6c2fa5b525e3c955466be320e1752617f868a18d20", func := "bilge/bilgelaw02.WideSplits", spec := "wideSplits", inPlace := ["math/bits.Add64"], named := ["math/bits.divideError", "math/bits.overflowError"], apart := false, narrowed := true }
def WideSplitsUptoSaid : Prop := wideSplitsUptoRow.holds Try.pinned (OpenSpec.upto wideSplitsSpec)

end Rows
end Go.Proofs.Ytahjkpmlnjhddaa
