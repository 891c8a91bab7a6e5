/-
  No cell of these rows narrows 'for every input' (looked for: loops, veiled, ifaces, maps, wideKeys, modest, calm, conditions, laid).
  DERIVED. THE GIVEN ROWS OF THIS SEAT. 16 by the template 'for every input the law returns true; each argument reads behind the call as it read before'; 0 by the template 'total and deterministic' (their statements: YtampkolkbjmmkaaTotals.lean).
  GIVEN WITH THE SEED: the statements are not yours to turn. If you find one false, say at which input.
  Laid BY PROGRAM, IN A SANDBOX (cutbox-rows.mjs): the forced cells as the released guide's own fill.sh prints them over the translation ead8c23149ac3aae… (all of the seat's roots in one cut). By AI agents, Wed Nov 11 2026. No macro, syntax, notation, axiom, sorry.
-/
import Derived.Test.YtampkolkbjmmkaaChecked
import GoSem.Claim
import GoSem.ClaimJoined
import GoSem.ClaimMapViews
import Derived.JoinedTies
import Derived.KernelRfl
namespace Go.Proofs.Ytampkolkbjmmkaa
/- THE CELL 'sum', in the pinned program and in every row, IS THE sha256 OF THE DUMP (.gsa) THAT YtampkolkbjmmkaaProg.lean LOADS. Nothing in Lean hashes anything: it is a label: what it is worth is what the hold of that sum in a sandbox is worth. -/
noncomputable def Try.pinned : Pinned := { name := "ytampkolkbjmmkaa", sum := "ead8c23149ac3aaea88803a0976b2bf444405bb1c7867140c5686fae27ce68f2", checked := Try.checked }
namespace Rows
def none {H : Type} : Left H := { results := [], args := [] }

/-- 'bilgelaw22.SweepDead': WHATEVER THE INPUT: true; the input reads as it did. -/
def sweepDeadSpec : ChangeSpec := { name := "sweepDead", fn := fun _ => fun
  | [d1, d2, d3] => { results := [.lit (.bool true)], args := [d1, d2, d3] }
  | _ => none }
def sweepDeadRow : OpenClaim := { program := "ytampkolkbjmmkaa", sum := "ead8c23149ac3aaea88803a0976b2bf444405bb1c7867140c5686fae27ce68f2", func := "bilge/bilgelaw22.SweepDead", spec := "sweepDead", unfollowed := true, recurses := true, plainKeys := false, apart := false }
def SweepDeadSaid : Prop := sweepDeadRow.holds Try.pinned (OpenSpec.ofChange sweepDeadSpec)

/-- ITS FALSE NEIGHBOUR: 'it returns false'. Refute it at one input. -/
def sweepDeadWrong : ChangeSpec := { name := "sweepDead", fn := fun _ => fun
  | [d1, d2, d3] => { results := [.lit (.bool false)], args := [d1, d2, d3] }
  | _ => none }
def SweepDeadWrongFalsely : Prop := sweepDeadRow.holds Try.pinned (OpenSpec.ofChange sweepDeadWrong)

/-- 'bilgelaw22.SweepParts': WHATEVER THE INPUT: true; the input reads as it did. -/
def sweepPartsSpec : ChangeSpec := { name := "sweepParts", fn := fun _ => fun
  | [d1, d2] => { results := [.lit (.bool true)], args := [d1, d2] }
  | _ => none }
def sweepPartsRow : OpenClaim := { program := "ytampkolkbjmmkaa", sum := "ead8c23149ac3aaea88803a0976b2bf444405bb1c7867140c5686fae27ce68f2", func := "bilge/bilgelaw22.SweepParts", spec := "sweepParts", unfollowed := true, recurses := true, plainKeys := false, apart := false }
def SweepPartsSaid : Prop := sweepPartsRow.holds Try.pinned (OpenSpec.ofChange sweepPartsSpec)

/-- ITS FALSE NEIGHBOUR: 'it returns false'. Refute it at one input. -/
def sweepPartsWrong : ChangeSpec := { name := "sweepParts", fn := fun _ => fun
  | [d1, d2] => { results := [.lit (.bool false)], args := [d1, d2] }
  | _ => none }
def SweepPartsWrongFalsely : Prop := sweepPartsRow.holds Try.pinned (OpenSpec.ofChange sweepPartsWrong)

/-- 'bilgelaw22.SweepExtra': WHATEVER THE INPUT: true; the input reads as it did. -/
def sweepExtraSpec : ChangeSpec := { name := "sweepExtra", fn := fun _ => fun
  | [d1, d2, d3] => { results := [.lit (.bool true)], args := [d1, d2, d3] }
  | _ => none }
def sweepExtraRow : OpenClaim := { program := "ytampkolkbjmmkaa", sum := "ead8c23149ac3aaea88803a0976b2bf444405bb1c7867140c5686fae27ce68f2", func := "bilge/bilgelaw22.SweepExtra", spec := "sweepExtra", unfollowed := true, recurses := true, plainKeys := false, apart := false }
def SweepExtraSaid : Prop := sweepExtraRow.holds Try.pinned (OpenSpec.ofChange sweepExtraSpec)

/-- ITS FALSE NEIGHBOUR: 'it returns false'. Refute it at one input. -/
def sweepExtraWrong : ChangeSpec := { name := "sweepExtra", fn := fun _ => fun
  | [d1, d2, d3] => { results := [.lit (.bool false)], args := [d1, d2, d3] }
  | _ => none }
def SweepExtraWrongFalsely : Prop := sweepExtraRow.holds Try.pinned (OpenSpec.ofChange sweepExtraWrong)

/-- 'bilgelaw22.SweepCollects': WHATEVER THE INPUT: true; the input reads as it did. -/
def sweepCollectsSpec : ChangeSpec := { name := "sweepCollects", fn := fun _ => fun
  | [d1, d2, d3, d4] => { results := [.lit (.bool true)], args := [d1, d2, d3, d4] }
  | _ => none }
def sweepCollectsRow : OpenClaim := { program := "ytampkolkbjmmkaa", sum := "ead8c23149ac3aaea88803a0976b2bf444405bb1c7867140c5686fae27ce68f2", func := "bilge/bilgelaw22.SweepCollects", spec := "sweepCollects", unfollowed := true, recurses := true, plainKeys := false, apart := false }
def SweepCollectsSaid : Prop := sweepCollectsRow.holds Try.pinned (OpenSpec.ofChange sweepCollectsSpec)

/-- ITS FALSE NEIGHBOUR: 'it returns false'. Refute it at one input. -/
def sweepCollectsWrong : ChangeSpec := { name := "sweepCollects", fn := fun _ => fun
  | [d1, d2, d3, d4] => { results := [.lit (.bool false)], args := [d1, d2, d3, d4] }
  | _ => none }
def SweepCollectsWrongFalsely : Prop := sweepCollectsRow.holds Try.pinned (OpenSpec.ofChange sweepCollectsWrong)

/-- 'bilgelaw22.SweepLeast': WHATEVER THE INPUT: true; the input reads as it did. -/
def sweepLeastSpec : ChangeSpec := { name := "sweepLeast", fn := fun _ => fun
  | [d1, d2, d3] => { results := [.lit (.bool true)], args := [d1, d2, d3] }
  | _ => none }
def sweepLeastRow : OpenClaim := { program := "ytampkolkbjmmkaa", sum := "ead8c23149ac3aaea88803a0976b2bf444405bb1c7867140c5686fae27ce68f2", func := "bilge/bilgelaw22.SweepLeast", spec := "sweepLeast", unfollowed := true, recurses := true, plainKeys := false, apart := false }
def SweepLeastSaid : Prop := sweepLeastRow.holds Try.pinned (OpenSpec.ofChange sweepLeastSpec)

/-- ITS FALSE NEIGHBOUR: 'it returns false'. Refute it at one input. -/
def sweepLeastWrong : ChangeSpec := { name := "sweepLeast", fn := fun _ => fun
  | [d1, d2, d3] => { results := [.lit (.bool false)], args := [d1, d2, d3] }
  | _ => none }
def SweepLeastWrongFalsely : Prop := sweepLeastRow.holds Try.pinned (OpenSpec.ofChange sweepLeastWrong)

/-- 'bilgelaw22.SweepOldest': WHATEVER THE INPUT: true; the input reads as it did. -/
def sweepOldestSpec : ChangeSpec := { name := "sweepOldest", fn := fun _ => fun
  | [d1, d2, d3] => { results := [.lit (.bool true)], args := [d1, d2, d3] }
  | _ => none }
def sweepOldestRow : OpenClaim := { program := "ytampkolkbjmmkaa", sum := "ead8c23149ac3aaea88803a0976b2bf444405bb1c7867140c5686fae27ce68f2", func := "bilge/bilgelaw22.SweepOldest", spec := "sweepOldest", unfollowed := true, recurses := true, plainKeys := false, apart := false }
def SweepOldestSaid : Prop := sweepOldestRow.holds Try.pinned (OpenSpec.ofChange sweepOldestSpec)

/-- ITS FALSE NEIGHBOUR: 'it returns false'. Refute it at one input. -/
def sweepOldestWrong : ChangeSpec := { name := "sweepOldest", fn := fun _ => fun
  | [d1, d2, d3] => { results := [.lit (.bool false)], args := [d1, d2, d3] }
  | _ => none }
def SweepOldestWrongFalsely : Prop := sweepOldestRow.holds Try.pinned (OpenSpec.ofChange sweepOldestWrong)

/-- 'bilgelaw22.SweepFails': WHATEVER THE INPUT: true; the input reads as it did. -/
def sweepFailsSpec : ChangeSpec := { name := "sweepFails", fn := fun _ => fun
  | [d1, d2, d3] => { results := [.lit (.bool true)], args := [d1, d2, d3] }
  | _ => none }
def sweepFailsRow : OpenClaim := { program := "ytampkolkbjmmkaa", sum := "ead8c23149ac3aaea88803a0976b2bf444405bb1c7867140c5686fae27ce68f2", func := "bilge/bilgelaw22.SweepFails", spec := "sweepFails", unfollowed := true, recurses := true, plainKeys := false, apart := false }
def SweepFailsSaid : Prop := sweepFailsRow.holds Try.pinned (OpenSpec.ofChange sweepFailsSpec)

/-- ITS FALSE NEIGHBOUR: 'it returns false'. Refute it at one input. -/
def sweepFailsWrong : ChangeSpec := { name := "sweepFails", fn := fun _ => fun
  | [d1, d2, d3] => { results := [.lit (.bool false)], args := [d1, d2, d3] }
  | _ => none }
def SweepFailsWrongFalsely : Prop := sweepFailsRow.holds Try.pinned (OpenSpec.ofChange sweepFailsWrong)

/-- 'bilgelaw22.SweepKeeps': WHATEVER THE INPUT: true; the input reads as it did. -/
def sweepKeepsSpec : ChangeSpec := { name := "sweepKeeps", fn := fun _ => fun
  | [d1, d2, d3, d4] => { results := [.lit (.bool true)], args := [d1, d2, d3, d4] }
  | _ => none }
def sweepKeepsRow : OpenClaim := { program := "ytampkolkbjmmkaa", sum := "ead8c23149ac3aaea88803a0976b2bf444405bb1c7867140c5686fae27ce68f2", func := "bilge/bilgelaw22.SweepKeeps", spec := "sweepKeeps", unfollowed := true, recurses := true, plainKeys := false, apart := false }
def SweepKeepsSaid : Prop := sweepKeepsRow.holds Try.pinned (OpenSpec.ofChange sweepKeepsSpec)

/-- ITS FALSE NEIGHBOUR: 'it returns false'. Refute it at one input. -/
def sweepKeepsWrong : ChangeSpec := { name := "sweepKeeps", fn := fun _ => fun
  | [d1, d2, d3, d4] => { results := [.lit (.bool false)], args := [d1, d2, d3, d4] }
  | _ => none }
def SweepKeepsWrongFalsely : Prop := sweepKeepsRow.holds Try.pinned (OpenSpec.ofChange sweepKeepsWrong)

/-- 'bilgelaw16.WorldModel': WHATEVER THE INPUT: true; the input reads as it did. -/
def worldModelSpec : ChangeSpec := { name := "worldModel", fn := fun _ => fun
  | [d1, d2] => { results := [.lit (.bool true)], args := [d1, d2] }
  | _ => none }
def worldModelRow : OpenClaim := { program := "ytampkolkbjmmkaa", sum := "ead8c23149ac3aaea88803a0976b2bf444405bb1c7867140c5686fae27ce68f2", func := "bilge/bilgelaw16.WorldModel", spec := "worldModel", inPlace := ["internal/bytealg.abigen_runtime_cmpstring", "slices.overlaps[bilge/api.Container]", "slices.overlaps[bilge/api.Image]"], unfollowed := true, recurses := true, plainKeys := false, apart := false }
def WorldModelSaid : Prop := worldModelRow.holds Try.pinned (OpenSpec.ofChange worldModelSpec)

/-- ITS FALSE NEIGHBOUR: 'it returns false'. Refute it at one input. -/
def worldModelWrong : ChangeSpec := { name := "worldModel", fn := fun _ => fun
  | [d1, d2] => { results := [.lit (.bool false)], args := [d1, d2] }
  | _ => none }
def WorldModelWrongFalsely : Prop := worldModelRow.holds Try.pinned (OpenSpec.ofChange worldModelWrong)

/-- 'bilgelaw16.WorldOrder': WHATEVER THE INPUT: true; the input reads as it did. -/
def worldOrderSpec : ChangeSpec := { name := "worldOrder", fn := fun _ => fun
  | [d1, d2, d3] => { results := [.lit (.bool true)], args := [d1, d2, d3] }
  | _ => none }
def worldOrderRow : OpenClaim := { program := "ytampkolkbjmmkaa", sum := "ead8c23149ac3aaea88803a0976b2bf444405bb1c7867140c5686fae27ce68f2", func := "bilge/bilgelaw16.WorldOrder", spec := "worldOrder", inPlace := ["internal/bytealg.abigen_runtime_cmpstring", "slices.overlaps[bilge/api.Container]", "slices.overlaps[bilge/api.Image]"], unfollowed := true, recurses := true, plainKeys := false, apart := false }
def WorldOrderSaid : Prop := worldOrderRow.holds Try.pinned (OpenSpec.ofChange worldOrderSpec)

/-- ITS FALSE NEIGHBOUR: 'it returns false'. Refute it at one input. -/
def worldOrderWrong : ChangeSpec := { name := "worldOrder", fn := fun _ => fun
  | [d1, d2, d3] => { results := [.lit (.bool false)], args := [d1, d2, d3] }
  | _ => none }
def WorldOrderWrongFalsely : Prop := worldOrderRow.holds Try.pinned (OpenSpec.ofChange worldOrderWrong)

/-- 'bilgelaw16.WorldApart': WHATEVER THE INPUT: true; the input reads as it did. -/
def worldApartSpec : ChangeSpec := { name := "worldApart", fn := fun _ => fun
  | [d1, d2, d3, d4] => { results := [.lit (.bool true)], args := [d1, d2, d3, d4] }
  | _ => none }
def worldApartRow : OpenClaim := { program := "ytampkolkbjmmkaa", sum := "ead8c23149ac3aaea88803a0976b2bf444405bb1c7867140c5686fae27ce68f2", func := "bilge/bilgelaw16.WorldApart", spec := "worldApart", inPlace := ["internal/bytealg.abigen_runtime_cmpstring", "slices.overlaps[bilge/api.Container]", "slices.overlaps[bilge/api.Image]"], unfollowed := true, recurses := true, plainKeys := false, apart := false }
def WorldApartSaid : Prop := worldApartRow.holds Try.pinned (OpenSpec.ofChange worldApartSpec)

/-- ITS FALSE NEIGHBOUR: 'it returns false'. Refute it at one input. -/
def worldApartWrong : ChangeSpec := { name := "worldApart", fn := fun _ => fun
  | [d1, d2, d3, d4] => { results := [.lit (.bool false)], args := [d1, d2, d3, d4] }
  | _ => none }
def WorldApartWrongFalsely : Prop := worldApartRow.holds Try.pinned (OpenSpec.ofChange worldApartWrong)

/-- 'bilgelaw16.WorldBreaks': WHATEVER THE INPUT: true; the input reads as it did. -/
def worldBreaksSpec : ChangeSpec := { name := "worldBreaks", fn := fun _ => fun
  | [d1, d2] => { results := [.lit (.bool true)], args := [d1, d2] }
  | _ => none }
def worldBreaksRow : OpenClaim := { program := "ytampkolkbjmmkaa", sum := "ead8c23149ac3aaea88803a0976b2bf444405bb1c7867140c5686fae27ce68f2", func := "bilge/bilgelaw16.WorldBreaks", spec := "worldBreaks", inPlace := ["internal/bytealg.abigen_runtime_cmpstring", "slices.overlaps[bilge/api.Container]", "slices.overlaps[bilge/api.Image]"], unfollowed := true, recurses := true, plainKeys := false, apart := false }
def WorldBreaksSaid : Prop := worldBreaksRow.holds Try.pinned (OpenSpec.ofChange worldBreaksSpec)

/-- ITS FALSE NEIGHBOUR: 'it returns false'. Refute it at one input. -/
def worldBreaksWrong : ChangeSpec := { name := "worldBreaks", fn := fun _ => fun
  | [d1, d2] => { results := [.lit (.bool false)], args := [d1, d2] }
  | _ => none }
def WorldBreaksWrongFalsely : Prop := worldBreaksRow.holds Try.pinned (OpenSpec.ofChange worldBreaksWrong)

/-- 'bilgelaw16.WorldLife': WHATEVER THE INPUT: true; the input reads as it did. -/
def worldLifeSpec : ChangeSpec := { name := "worldLife", fn := fun _ => fun
  | [d1, d2, d3, d4] => { results := [.lit (.bool true)], args := [d1, d2, d3, d4] }
  | _ => none }
def worldLifeRow : OpenClaim := { program := "ytampkolkbjmmkaa", sum := "ead8c23149ac3aaea88803a0976b2bf444405bb1c7867140c5686fae27ce68f2", func := "bilge/bilgelaw16.WorldLife", spec := "worldLife", inPlace := ["internal/bytealg.abigen_runtime_cmpstring", "slices.overlaps[bilge/api.Container]", "slices.overlaps[bilge/api.Image]"], unfollowed := true, recurses := true, plainKeys := false, apart := false }
def WorldLifeSaid : Prop := worldLifeRow.holds Try.pinned (OpenSpec.ofChange worldLifeSpec)

/-- ITS FALSE NEIGHBOUR: 'it returns false'. Refute it at one input. -/
def worldLifeWrong : ChangeSpec := { name := "worldLife", fn := fun _ => fun
  | [d1, d2, d3, d4] => { results := [.lit (.bool false)], args := [d1, d2, d3, d4] }
  | _ => none }
def WorldLifeWrongFalsely : Prop := worldLifeRow.holds Try.pinned (OpenSpec.ofChange worldLifeWrong)

/-- 'bilgelaw16.WorldImages': WHATEVER THE INPUT: true; the input reads as it did. -/
def worldImagesSpec : ChangeSpec := { name := "worldImages", fn := fun _ => fun
  | [d1, d2, d3] => { results := [.lit (.bool true)], args := [d1, d2, d3] }
  | _ => none }
def worldImagesRow : OpenClaim := { program := "ytampkolkbjmmkaa", sum := "ead8c23149ac3aaea88803a0976b2bf444405bb1c7867140c5686fae27ce68f2", func := "bilge/bilgelaw16.WorldImages", spec := "worldImages", inPlace := ["internal/bytealg.abigen_runtime_cmpstring", "slices.overlaps[bilge/api.Container]", "slices.overlaps[bilge/api.Image]"], unfollowed := true, recurses := true, plainKeys := false, apart := false }
def WorldImagesSaid : Prop := worldImagesRow.holds Try.pinned (OpenSpec.ofChange worldImagesSpec)

/-- ITS FALSE NEIGHBOUR: 'it returns false'. Refute it at one input. -/
def worldImagesWrong : ChangeSpec := { name := "worldImages", fn := fun _ => fun
  | [d1, d2, d3] => { results := [.lit (.bool false)], args := [d1, d2, d3] }
  | _ => none }
def WorldImagesWrongFalsely : Prop := worldImagesRow.holds Try.pinned (OpenSpec.ofChange worldImagesWrong)

/-- 'bilgelaw16.WorldFull': WHATEVER THE INPUT: true; the input reads as it did. -/
def worldFullSpec : ChangeSpec := { name := "worldFull", fn := fun _ => fun
  | [d1, d2] => { results := [.lit (.bool true)], args := [d1, d2] }
  | _ => none }
def worldFullRow : OpenClaim := { program := "ytampkolkbjmmkaa", sum := "ead8c23149ac3aaea88803a0976b2bf444405bb1c7867140c5686fae27ce68f2", func := "bilge/bilgelaw16.WorldFull", spec := "worldFull", inPlace := ["internal/bytealg.abigen_runtime_cmpstring", "slices.overlaps[bilge/api.Container]", "slices.overlaps[bilge/api.Image]"], unfollowed := true, recurses := true, plainKeys := false, apart := false }
def WorldFullSaid : Prop := worldFullRow.holds Try.pinned (OpenSpec.ofChange worldFullSpec)

/-- ITS FALSE NEIGHBOUR: 'it returns false'. Refute it at one input. -/
def worldFullWrong : ChangeSpec := { name := "worldFull", fn := fun _ => fun
  | [d1, d2] => { results := [.lit (.bool false)], args := [d1, d2] }
  | _ => none }
def WorldFullWrongFalsely : Prop := worldFullRow.holds Try.pinned (OpenSpec.ofChange worldFullWrong)

/-- 'bilgelaw16.WorldKeeps': WHATEVER THE INPUT: true; the input reads as it did. -/
def worldKeepsSpec : ChangeSpec := { name := "worldKeeps", fn := fun _ => fun
  | [d] => { results := [.lit (.bool true)], args := [d] }
  | _ => none }
def worldKeepsRow : OpenClaim := { program := "ytampkolkbjmmkaa", sum := "ead8c23149ac3aaea88803a0976b2bf444405bb1c7867140c5686fae27ce68f2", func := "bilge/bilgelaw16.WorldKeeps", spec := "worldKeeps", inPlace := ["internal/bytealg.abigen_runtime_cmpstring", "slices.overlaps[bilge/api.Container]", "slices.overlaps[bilge/api.Image]"], unfollowed := true, recurses := true, plainKeys := false, apart := false }
def WorldKeepsSaid : Prop := worldKeepsRow.holds Try.pinned (OpenSpec.ofChange worldKeepsSpec)

/-- ITS FALSE NEIGHBOUR: 'it returns false'. Refute it at one input. -/
def worldKeepsWrong : ChangeSpec := { name := "worldKeeps", fn := fun _ => fun
  | [d] => { results := [.lit (.bool false)], args := [d] }
  | _ => none }
def WorldKeepsWrongFalsely : Prop := worldKeepsRow.holds Try.pinned (OpenSpec.ofChange worldKeepsWrong)

/- THE SECOND FORM. 'bulk': how many values and letters a reading holds, each counted each time it is reached (what is shared counts as often as it is met; a slice's spare places count too). A statement '..UptoSaid' is the law's where the arguments, and the package variables that the reading takes, are together of bulk at most 1048576: NARROWER than '..Said'. Prove '..Said' where nothing that the law and all that it calls make is longer than what came in: it says more and counts as full. Else prove '..UptoSaid'. A law counts once. -/
mutual
def uptoBulk {H : Type} : DataW H → Nat
  | .lit (.string bytes) => bytes.length + 1
  | .lit _ => 1
  | .nil => 1
  | .ptr d => uptoBulk d + 1
  | .slice elems spare => uptoBulkAll elems + uptoBulkAll spare + 1
  | .agg parts => uptoBulkAll parts + 1
  | .iface _ d => uptoBulk d + 1
  | .map entries => uptoBulkEntries entries + 1
  | .held _ => 1
def uptoBulkAll {H : Type} : List (DataW H) → Nat
  | [] => 0
  | d :: r => uptoBulk d + uptoBulkAll r
def uptoBulkEntries {H : Type} : List (Lit × DataW H) → Nat
  | [] => 0
  | x :: r => uptoBulkEntry x + uptoBulkEntries r
def uptoBulkEntry {H : Type} : Lit × DataW H → Nat
  | (.string bytes, d) => bytes.length + uptoBulk d + 1
  | (_, d) => uptoBulk d + 1
 end
def uptoSmall : (H : Type) → List (DataW H) → Bool := fun _ ds => decide (uptoBulkAll ds ≤ 1048576)
def OpenSpec.upto (s : _root_.Go.ChangeSpec) : _root_.Go.OpenSpec := { _root_.Go.OpenSpec.ofChange s with cond := some uptoSmall }

/-- 'bilgelaw22.SweepDead', WHERE WHAT IT READS IS OF BULK AT MOST 1048576: true; the input reads as it did. -/
def sweepDeadUptoRow : OpenClaim := { program := "ytampkolkbjmmkaa", sum := "ead8c23149ac3aaea88803a0976b2bf444405bb1c7867140c5686fae27ce68f2", func := "bilge/bilgelaw22.SweepDead", spec := "sweepDead", unfollowed := true, recurses := true, plainKeys := false, apart := false, narrowed := true }
def SweepDeadUptoSaid : Prop := sweepDeadUptoRow.holds Try.pinned (OpenSpec.upto sweepDeadSpec)

/-- 'bilgelaw22.SweepParts', WHERE WHAT IT READS IS OF BULK AT MOST 1048576: true; the input reads as it did. -/
def sweepPartsUptoRow : OpenClaim := { program := "ytampkolkbjmmkaa", sum := "ead8c23149ac3aaea88803a0976b2bf444405bb1c7867140c5686fae27ce68f2", func := "bilge/bilgelaw22.SweepParts", spec := "sweepParts", unfollowed := true, recurses := true, plainKeys := false, apart := false, narrowed := true }
def SweepPartsUptoSaid : Prop := sweepPartsUptoRow.holds Try.pinned (OpenSpec.upto sweepPartsSpec)

/-- 'bilgelaw22.SweepExtra', WHERE WHAT IT READS IS OF BULK AT MOST 1048576: true; the input reads as it did. -/
def sweepExtraUptoRow : OpenClaim := { program := "ytampkolkbjmmkaa", sum := "ead8c23149ac3aaea88803a0976b2bf444405bb1c7867140c5686fae27ce68f2", func := "bilge/bilgelaw22.SweepExtra", spec := "sweepExtra", unfollowed := true, recurses := true, plainKeys := false, apart := false, narrowed := true }
def SweepExtraUptoSaid : Prop := sweepExtraUptoRow.holds Try.pinned (OpenSpec.upto sweepExtraSpec)

/-- 'bilgelaw22.SweepCollects', WHERE WHAT IT READS IS OF BULK AT MOST 1048576: true; the input reads as it did. -/
def sweepCollectsUptoRow : OpenClaim := { program := "ytampkolkbjmmkaa", sum := "ead8c23149ac3aaea88803a0976b2bf444405bb1c7867140c5686fae27ce68f2", func := "bilge/bilgelaw22.SweepCollects", spec := "sweepCollects", unfollowed := true, recurses := true, plainKeys := false, apart := false, narrowed := true }
def SweepCollectsUptoSaid : Prop := sweepCollectsUptoRow.holds Try.pinned (OpenSpec.upto sweepCollectsSpec)

/-- 'bilgelaw22.SweepLeast', WHERE WHAT IT READS IS OF BULK AT MOST 1048576: true; the input reads as it did. -/
def sweepLeastUptoRow : OpenClaim := { program := "ytampkolkbjmmkaa", sum := "ead8c23149ac3aaea88803a0976b2bf444405bb1c7867140c5686fae27ce68f2", func := "bilge/bilgelaw22.SweepLeast", spec := "sweepLeast", unfollowed := true, recurses := true, plainKeys := false, apart := false, narrowed := true }
def SweepLeastUptoSaid : Prop := sweepLeastUptoRow.holds Try.pinned (OpenSpec.upto sweepLeastSpec)

/-- 'bilgelaw22.SweepOldest', WHERE WHAT IT READS IS OF BULK AT MOST 1048576: true; the input reads as it did. -/
def sweepOldestUptoRow : OpenClaim := { program := "ytampkolkbjmmkaa", sum := "ead8c23149ac3aaea88803a0976b2bf444405bb1c7867140c5686fae27ce68f2", func := "bilge/bilgelaw22.SweepOldest", spec := "sweepOldest", unfollowed := true, recurses := true, plainKeys := false, apart := false, narrowed := true }
def SweepOldestUptoSaid : Prop := sweepOldestUptoRow.holds Try.pinned (OpenSpec.upto sweepOldestSpec)

/-- 'bilgelaw22.SweepFails', WHERE WHAT IT READS IS OF BULK AT MOST 1048576: true; the input reads as it did. -/
def sweepFailsUptoRow : OpenClaim := { program := "ytampkolkbjmmkaa", sum := "ead8c23149ac3aaea88803a0976b2bf444405bb1c7867140c5686fae27ce68f2", func := "bilge/bilgelaw22.SweepFails", spec := "sweepFails", unfollowed := true, recurses := true, plainKeys := false, apart := false, narrowed := true }
def SweepFailsUptoSaid : Prop := sweepFailsUptoRow.holds Try.pinned (OpenSpec.upto sweepFailsSpec)

/-- 'bilgelaw22.SweepKeeps', WHERE WHAT IT READS IS OF BULK AT MOST 1048576: true; the input reads as it did. -/
def sweepKeepsUptoRow : OpenClaim := { program := "ytampkolkbjmmkaa", sum := "ead8c23149ac3aaea88803a0976b2bf444405bb1c7867140c5686fae27ce68f2", func := "bilge/bilgelaw22.SweepKeeps", spec := "sweepKeeps", unfollowed := true, recurses := true, plainKeys := false, apart := false, narrowed := true }
def SweepKeepsUptoSaid : Prop := sweepKeepsUptoRow.holds Try.pinned (OpenSpec.upto sweepKeepsSpec)

/-- 'bilgelaw16.WorldModel', WHERE WHAT IT READS IS OF BULK AT MOST 1048576: true; the input reads as it did. -/
def worldModelUptoRow : OpenClaim := { program := "ytampkolkbjmmkaa", sum := "ead8c23149ac3aaea88803a0976b2bf444405bb1c7867140c5686fae27ce68f2", func := "bilge/bilgelaw16.WorldModel", spec := "worldModel", inPlace := ["internal/bytealg.abigen_runtime_cmpstring", "slices.overlaps[bilge/api.Container]", "slices.overlaps[bilge/api.Image]"], unfollowed := true, recurses := true, plainKeys := false, apart := false, narrowed := true }
def WorldModelUptoSaid : Prop := worldModelUptoRow.holds Try.pinned (OpenSpec.upto worldModelSpec)

/-- 'bilgelaw16.WorldOrder', WHERE WHAT IT READS IS OF BULK AT MOST 1048576: true; the input reads as it did. -/
def worldOrderUptoRow : OpenClaim := { program := "ytampkolkbjmmkaa", sum := "ead8c23149ac3aaea88803a0976b2bf444405bb1c7867140c5686fae27ce68f2", func := "bilge/bilgelaw16.WorldOrder", spec := "worldOrder", inPlace := ["internal/bytealg.abigen_runtime_cmpstring", "slices.overlaps[bilge/api.Container]", "slices.overlaps[bilge/api.Image]"], unfollowed := true, recurses := true, plainKeys := false, apart := false, narrowed := true }
def WorldOrderUptoSaid : Prop := worldOrderUptoRow.holds Try.pinned (OpenSpec.upto worldOrderSpec)

/-- 'bilgelaw16.WorldApart', WHERE WHAT IT READS IS OF BULK AT MOST 1048576: true; the input reads as it did. -/
def worldApartUptoRow : OpenClaim := { program := "ytampkolkbjmmkaa", sum := "ead8c23149ac3aaea88803a0976b2bf444405bb1c7867140c5686fae27ce68f2", func := "bilge/bilgelaw16.WorldApart", spec := "worldApart", inPlace := ["internal/bytealg.abigen_runtime_cmpstring", "slices.overlaps[bilge/api.Container]", "slices.overlaps[bilge/api.Image]"], unfollowed := true, recurses := true, plainKeys := false, apart := false, narrowed := true }
def WorldApartUptoSaid : Prop := worldApartUptoRow.holds Try.pinned (OpenSpec.upto worldApartSpec)

/-- 'bilgelaw16.WorldBreaks', WHERE WHAT IT READS IS OF BULK AT MOST 1048576: true; the input reads as it did. -/
def worldBreaksUptoRow : OpenClaim := { program := "ytampkolkbjmmkaa", sum := "ead8c23149ac3aaea88803a0976b2bf444405bb1c7867140c5686fae27ce68f2", func := "bilge/bilgelaw16.WorldBreaks", spec := "worldBreaks", inPlace := ["internal/bytealg.abigen_runtime_cmpstring", "slices.overlaps[bilge/api.Container]", "slices.overlaps[bilge/api.Image]"], unfollowed := true, recurses := true, plainKeys := false, apart := false, narrowed := true }
def WorldBreaksUptoSaid : Prop := worldBreaksUptoRow.holds Try.pinned (OpenSpec.upto worldBreaksSpec)

/-- 'bilgelaw16.WorldLife', WHERE WHAT IT READS IS OF BULK AT MOST 1048576: true; the input reads as it did. -/
def worldLifeUptoRow : OpenClaim := { program := "ytampkolkbjmmkaa", sum := "ead8c23149ac3aaea88803a0976b2bf444405bb1c7867140c5686fae27ce68f2", func := "bilge/bilgelaw16.WorldLife", spec := "worldLife", inPlace := ["internal/bytealg.abigen_runtime_cmpstring", "slices.overlaps[bilge/api.Container]", "slices.overlaps[bilge/api.Image]"], unfollowed := true, recurses := true, plainKeys := false, apart := false, narrowed := true }
def WorldLifeUptoSaid : Prop := worldLifeUptoRow.holds Try.pinned (OpenSpec.upto worldLifeSpec)

/-- 'bilgelaw16.WorldImages', WHERE WHAT IT READS IS OF BULK AT MOST 1048576: true; the input reads as it did. -/
def worldImagesUptoRow : OpenClaim := { program := "ytampkolkbjmmkaa", sum := "ead8c23149ac3aaea88803a0976b2bf444405bb1c7867140c5686fae27ce68f2", func := "bilge/bilgelaw16.WorldImages", spec := "worldImages", inPlace := ["internal/bytealg.abigen_runtime_cmpstring", "slices.overlaps[bilge/api.Container]", "slices.overlaps[bilge/api.Image]"], unfollowed := true, recurses := true, plainKeys := false, apart := false, narrowed := true }
def WorldImagesUptoSaid : Prop := worldImagesUptoRow.holds Try.pinned (OpenSpec.upto worldImagesSpec)

/-- 'bilgelaw16.WorldFull', WHERE WHAT IT READS IS OF BULK AT MOST 1048576: true; the input reads as it did. -/
def worldFullUptoRow : OpenClaim := { program := "ytampkolkbjmmkaa", sum := "ead8c23149ac3aaea88803a0976b2bf444405bb1c7867140c5686fae27ce68f2", func := "bilge/bilgelaw16.WorldFull", spec := "worldFull", inPlace := ["internal/bytealg.abigen_runtime_cmpstring", "slices.overlaps[bilge/api.Container]", "slices.overlaps[bilge/api.Image]"], unfollowed := true, recurses := true, plainKeys := false, apart := false, narrowed := true }
def WorldFullUptoSaid : Prop := worldFullUptoRow.holds Try.pinned (OpenSpec.upto worldFullSpec)

/-- 'bilgelaw16.WorldKeeps', WHERE WHAT IT READS IS OF BULK AT MOST 1048576: true; the input reads as it did. -/
def worldKeepsUptoRow : OpenClaim := { program := "ytampkolkbjmmkaa", sum := "ead8c23149ac3aaea88803a0976b2bf444405bb1c7867140c5686fae27ce68f2", func := "bilge/bilgelaw16.WorldKeeps", spec := "worldKeeps", inPlace := ["internal/bytealg.abigen_runtime_cmpstring", "slices.overlaps[bilge/api.Container]", "slices.overlaps[bilge/api.Image]"], unfollowed := true, recurses := true, plainKeys := false, apart := false, narrowed := true }
def WorldKeepsUptoSaid : Prop := worldKeepsUptoRow.holds Try.pinned (OpenSpec.upto worldKeepsSpec)

end Rows
end Go.Proofs.Ytampkolkbjmmkaa
