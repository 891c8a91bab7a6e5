/-
  No cell of these rows narrows 'for every input' (looked for: loops, veiled, ifaces, maps, wideKeys, modest, calm, conditions, laid).
  DERIVED. THE GIVEN ROWS OF THIS SEAT. 5 by the template 'for every input the law returns true; each argument reads behind the call as it read before'; 0 by the template 'total and deterministic' (their statements: YtcbblgeleboggaaTotals.lean).
  GIVEN WITH THE SEED: the statements are not yours to turn. If you find one false, say at which input.
  Laid BY PROGRAM, IN A SANDBOX (cutbox-rows.mjs): the forced cells as the released guide's own fill.sh prints them over the translation 551e156e26630165… (all of the seat's roots in one cut). By AI agents, Wed Nov 11 2026. No macro, syntax, notation, axiom, sorry.
-/
import Derived.Test.YtcbblgeleboggaaChecked
import GoSem.Claim
import GoSem.ClaimJoined
import GoSem.ClaimMapViews
import Derived.JoinedTies
import Derived.KernelRfl
namespace Go.Proofs.Ytcbblgeleboggaa
/- THE CELL 'sum', in the pinned program and in every row, IS THE sha256 OF THE DUMP (.gsa) THAT YtcbblgeleboggaaProg.lean LOADS. Nothing in Lean hashes anything: it is a label: what it is worth is what the hold of that sum in a sandbox is worth. -/
noncomputable def Try.pinned : Pinned := { name := "ytcbblgeleboggaa", sum := "551e156e266301655d2856d99efc2e6755eb14f7568aa274421e07bc020c47fb", checked := Try.checked }
namespace Rows
def none {H : Type} : Left H := { results := [], args := [] }

/-- 'bilgelaw11.CkptSaves': WHATEVER THE INPUT: true; the input reads as it did. -/
def ckptSavesSpec : ChangeSpec := { name := "ckptSaves", fn := fun _ => fun
  | [d1, d2] => { results := [.lit (.bool true)], args := [d1, d2] }
  | _ => none }
def ckptSavesRow : OpenClaim := { program := "ytcbblgeleboggaa", sum := "551e156e266301655d2856d99efc2e6755eb14f7568aa274421e07bc020c47fb", func := "bilge/bilgelaw11.CkptSaves", spec := "ckptSaves", inPlace := ["maps.clone"], unfollowed := true, recurses := true, apart := false }
def CkptSavesSaid : Prop := ckptSavesRow.holds Try.pinned (OpenSpec.ofChange ckptSavesSpec)

/-- ITS FALSE NEIGHBOUR: 'it returns false'. Refute it at one input. -/
def ckptSavesWrong : ChangeSpec := { name := "ckptSaves", fn := fun _ => fun
  | [d1, d2] => { results := [.lit (.bool false)], args := [d1, d2] }
  | _ => none }
def CkptSavesWrongFalsely : Prop := ckptSavesRow.holds Try.pinned (OpenSpec.ofChange ckptSavesWrong)

/-- 'bilgelaw11.CkptCrash': WHATEVER THE INPUT: true; the input reads as it did. -/
def ckptCrashSpec : ChangeSpec := { name := "ckptCrash", fn := fun _ => fun
  | [d1, d2, d3, d4] => { results := [.lit (.bool true)], args := [d1, d2, d3, d4] }
  | _ => none }
def ckptCrashRow : OpenClaim := { program := "ytcbblgeleboggaa", sum := "551e156e266301655d2856d99efc2e6755eb14f7568aa274421e07bc020c47fb", func := "bilge/bilgelaw11.CkptCrash", spec := "ckptCrash", inPlace := ["maps.clone"], unfollowed := true, recurses := true, apart := false }
def CkptCrashSaid : Prop := ckptCrashRow.holds Try.pinned (OpenSpec.ofChange ckptCrashSpec)

/-- ITS FALSE NEIGHBOUR: 'it returns false'. Refute it at one input. -/
def ckptCrashWrong : ChangeSpec := { name := "ckptCrash", fn := fun _ => fun
  | [d1, d2, d3, d4] => { results := [.lit (.bool false)], args := [d1, d2, d3, d4] }
  | _ => none }
def CkptCrashWrongFalsely : Prop := ckptCrashRow.holds Try.pinned (OpenSpec.ofChange ckptCrashWrong)

/-- 'bilgelaw11.CkptOpens': WHATEVER THE INPUT: true; the input reads as it did. -/
def ckptOpensSpec : ChangeSpec := { name := "ckptOpens", fn := fun _ => fun
  | [d1, d2, d3] => { results := [.lit (.bool true)], args := [d1, d2, d3] }
  | _ => none }
def ckptOpensRow : OpenClaim := { program := "ytcbblgeleboggaa", sum := "551e156e266301655d2856d99efc2e6755eb14f7568aa274421e07bc020c47fb", func := "bilge/bilgelaw11.CkptOpens", spec := "ckptOpens", inPlace := ["maps.clone"], unfollowed := true, recurses := true, apart := false }
def CkptOpensSaid : Prop := ckptOpensRow.holds Try.pinned (OpenSpec.ofChange ckptOpensSpec)

/-- ITS FALSE NEIGHBOUR: 'it returns false'. Refute it at one input. -/
def ckptOpensWrong : ChangeSpec := { name := "ckptOpens", fn := fun _ => fun
  | [d1, d2, d3] => { results := [.lit (.bool false)], args := [d1, d2, d3] }
  | _ => none }
def CkptOpensWrongFalsely : Prop := ckptOpensRow.holds Try.pinned (OpenSpec.ofChange ckptOpensWrong)

/-- 'bilgelaw11.CkptKeeps': WHATEVER THE INPUT: true; the input reads as it did. -/
def ckptKeepsSpec : ChangeSpec := { name := "ckptKeeps", fn := fun _ => fun
  | [d] => { results := [.lit (.bool true)], args := [d] }
  | _ => none }
def ckptKeepsRow : OpenClaim := { program := "ytcbblgeleboggaa", sum := "551e156e266301655d2856d99efc2e6755eb14f7568aa274421e07bc020c47fb", func := "bilge/bilgelaw11.CkptKeeps", spec := "ckptKeeps", inPlace := ["maps.clone"], unfollowed := true, recurses := true, apart := false }
def CkptKeepsSaid : Prop := ckptKeepsRow.holds Try.pinned (OpenSpec.ofChange ckptKeepsSpec)

/-- ITS FALSE NEIGHBOUR: 'it returns false'. Refute it at one input. -/
def ckptKeepsWrong : ChangeSpec := { name := "ckptKeeps", fn := fun _ => fun
  | [d] => { results := [.lit (.bool false)], args := [d] }
  | _ => none }
def CkptKeepsWrongFalsely : Prop := ckptKeepsRow.holds Try.pinned (OpenSpec.ofChange ckptKeepsWrong)

/-- 'bilgelaw11.CkptChain': WHATEVER THE INPUT: true; the input reads as it did. -/
def ckptChainSpec : ChangeSpec := { name := "ckptChain", fn := fun _ => fun
  | [d] => { results := [.lit (.bool true)], args := [d] }
  | _ => none }
def ckptChainRow : OpenClaim := { program := "ytcbblgeleboggaa", sum := "551e156e266301655d2856d99efc2e6755eb14f7568aa274421e07bc020c47fb", func := "bilge/bilgelaw11.CkptChain", spec := "ckptChain", inPlace := ["maps.clone"], unfollowed := true, recurses := true, apart := false }
def CkptChainSaid : Prop := ckptChainRow.holds Try.pinned (OpenSpec.ofChange ckptChainSpec)

/-- ITS FALSE NEIGHBOUR: 'it returns false'. Refute it at one input. -/
def ckptChainWrong : ChangeSpec := { name := "ckptChain", fn := fun _ => fun
  | [d] => { results := [.lit (.bool false)], args := [d] }
  | _ => none }
def CkptChainWrongFalsely : Prop := ckptChainRow.holds Try.pinned (OpenSpec.ofChange ckptChainWrong)

/- THE SECOND FORM. 'bulk': how many values and letters a reading holds, each counted each time it is reached (what is shared counts as often as it is met; a slice's spare places count too). A statement '..UptoSaid' is the law's where the arguments, and the package variables that the reading takes, are together of bulk at most 1048576: NARROWER than '..Said'. Prove '..Said' where nothing that the law and all that it calls make is longer than what came in: it says more and counts as full. Else prove '..UptoSaid'. A law counts once. -/
mutual
def uptoBulk {H : Type} : DataW H → Nat
  | .lit (.string bytes) => bytes.length + 1
  | .lit _ => 1
  | .nil => 1
  | .ptr d => uptoBulk d + 1
  | .slice elems spare => uptoBulkAll elems + uptoBulkAll spare + 1
  | .agg parts => uptoBulkAll parts + 1
  | .iface _ d => uptoBulk d + 1
  | .map entries => uptoBulkEntries entries + 1
  | .held _ => 1
def uptoBulkAll {H : Type} : List (DataW H) → Nat
  | [] => 0
  | d :: r => uptoBulk d + uptoBulkAll r
def uptoBulkEntries {H : Type} : List (Lit × DataW H) → Nat
  | [] => 0
  | x :: r => uptoBulkEntry x + uptoBulkEntries r
def uptoBulkEntry {H : Type} : Lit × DataW H → Nat
  | (.string bytes, d) => bytes.length + uptoBulk d + 1
  | (_, d) => uptoBulk d + 1
 end
def uptoSmall : (H : Type) → List (DataW H) → Bool := fun _ ds => decide (uptoBulkAll ds ≤ 1048576)
def OpenSpec.upto (s : _root_.Go.ChangeSpec) : _root_.Go.OpenSpec := { _root_.Go.OpenSpec.ofChange s with cond := some uptoSmall }

/-- 'bilgelaw11.CkptSaves', WHERE WHAT IT READS IS OF BULK AT MOST 1048576: true; the input reads as it did. -/
def ckptSavesUptoRow : OpenClaim := { program := "ytcbblgeleboggaa", sum := "551e156e266301655d2856d99efc2e6755eb14f7568aa274421e07bc020c47fb", func := "bilge/bilgelaw11.CkptSaves", spec := "ckptSaves", inPlace := ["maps.clone"], unfollowed := true, recurses := true, apart := false, narrowed := true }
def CkptSavesUptoSaid : Prop := ckptSavesUptoRow.holds Try.pinned (OpenSpec.upto ckptSavesSpec)

/-- 'bilgelaw11.CkptCrash', WHERE WHAT IT READS IS OF BULK AT MOST 1048576: true; the input reads as it did. -/
def ckptCrashUptoRow : OpenClaim := { program := "ytcbblgeleboggaa", sum := "551e156e266301655d2856d99efc2e6755eb14f7568aa274421e07bc020c47fb", func := "bilge/bilgelaw11.CkptCrash", spec := "ckptCrash", inPlace := ["maps.clone"], unfollowed := true, recurses := true, apart := false, narrowed := true }
def CkptCrashUptoSaid : Prop := ckptCrashUptoRow.holds Try.pinned (OpenSpec.upto ckptCrashSpec)

/-- 'bilgelaw11.CkptOpens', WHERE WHAT IT READS IS OF BULK AT MOST 1048576: true; the input reads as it did. -/
def ckptOpensUptoRow : OpenClaim := { program := "ytcbblgeleboggaa", sum := "551e156e266301655d2856d99efc2e6755eb14f7568aa274421e07bc020c47fb", func := "bilge/bilgelaw11.CkptOpens", spec := "ckptOpens", inPlace := ["maps.clone"], unfollowed := true, recurses := true, apart := false, narrowed := true }
def CkptOpensUptoSaid : Prop := ckptOpensUptoRow.holds Try.pinned (OpenSpec.upto ckptOpensSpec)

/-- 'bilgelaw11.CkptKeeps', WHERE WHAT IT READS IS OF BULK AT MOST 1048576: true; the input reads as it did. -/
def ckptKeepsUptoRow : OpenClaim := { program := "ytcbblgeleboggaa", sum := "551e156e266301655d2856d99efc2e6755eb14f7568aa274421e07bc020c47fb", func := "bilge/bilgelaw11.CkptKeeps", spec := "ckptKeeps", inPlace := ["maps.clone"], unfollowed := true, recurses := true, apart := false, narrowed := true }
def CkptKeepsUptoSaid : Prop := ckptKeepsUptoRow.holds Try.pinned (OpenSpec.upto ckptKeepsSpec)

/-- 'bilgelaw11.CkptChain', WHERE WHAT IT READS IS OF BULK AT MOST 1048576: true; the input reads as it did. -/
def ckptChainUptoRow : OpenClaim := { program := "ytcbblgeleboggaa", sum := "551e156e266301655d2856d99efc2e6755eb14f7568aa274421e07bc020c47fb", func := "bilge/bilgelaw11.CkptChain", spec := "ckptChain", inPlace := ["maps.clone"], unfollowed := true, recurses := true, apart := false, narrowed := true }
def CkptChainUptoSaid : Prop := ckptChainUptoRow.holds Try.pinned (OpenSpec.upto ckptChainSpec)

end Rows
end Go.Proofs.Ytcbblgeleboggaa
