/-
  No cell of these rows narrows 'for every input' (looked for: loops, veiled, ifaces, maps, wideKeys, modest, calm, conditions, laid).
  DERIVED. THE GIVEN ROWS OF THIS SEAT. 10 by the template 'for every input the law returns true; each argument reads behind the call as it read before'; 0 by the template 'total and deterministic' (their statements: YtbghhbpacijmmaaGreatTotals.lean).
  GIVEN WITH THE SEED: the statements are not yours to turn. If you find one false, say at which input.
  Laid BY PROGRAM, IN A SANDBOX (cutbox-rows.mjs): the forced cells as the released guide's own fill.sh prints them over the translation b705f5ebae90d3ed… (all of the seat's roots in one cut). By AI agents, Wed Nov 11 2026. No macro, syntax, notation, axiom, sorry.
-/
import Derived.Test.YtbghhbpacijmmaaGreatChecked
import GoSem.Claim
import GoSem.ClaimJoined
import GoSem.ClaimMapViews
import Derived.JoinedTies
import Derived.KernelRfl
namespace Go.Proofs.YtbghhbpacijmmaaGreat
/- THE CELL 'sum', in the pinned program and in every row, IS THE sha256 OF THE DUMP (.gsa) THAT YtbghhbpacijmmaaGreatProg.lean LOADS. Nothing in Lean hashes anything: it is a label: what it is worth is what the hold of that sum in a sandbox is worth. -/
noncomputable def Tryz.pinned : Pinned := { name := "ytbghhbpacijmmaagreat", sum := "b705f5ebae90d3eda8e13379b8fda4c4011b3ea998c0168d1593cc86bbea354f", checked := Tryz.checked }
namespace Rows
def none {H : Type} : Left H := { results := [], args := [] }

/-- 'furrowlaw.Layouts': WHATEVER THE INPUT: true; the input reads as it did. -/
def layoutsSpec : ChangeSpec := { name := "layouts", fn := fun _ => fun
  | [d] => { results := [.lit (.bool true)], args := [d] }
  | _ => none }
def layoutsRow : OpenClaim := { program := "ytbghhbpacijmmaagreat", sum := "b705f5ebae90d3eda8e13379b8fda4c4011b3ea998c0168d1593cc86bbea354f", func := "furrow/furrowlaw.Layouts", spec := "layouts", unfollowed := true, recurses := true, plainKeys := false, apart := false }
def LayoutsSaid : Prop := layoutsRow.holds Tryz.pinned (OpenSpec.ofChange layoutsSpec)

/-- ITS FALSE NEIGHBOUR: 'it returns false'. Refute it at one input. -/
def layoutsWrong : ChangeSpec := { name := "layouts", fn := fun _ => fun
  | [d] => { results := [.lit (.bool false)], args := [d] }
  | _ => none }
def LayoutsWrongFalsely : Prop := layoutsRow.holds Tryz.pinned (OpenSpec.ofChange layoutsWrong)

/-- 'furrowlaw.Cellular': WHATEVER THE INPUT: true; the input reads as it did. -/
def cellularSpec : ChangeSpec := { name := "cellular", fn := fun _ => fun
  | [d] => { results := [.lit (.bool true)], args := [d] }
  | _ => none }
def cellularRow : OpenClaim := { program := "ytbghhbpacijmmaagreat", sum := "b705f5ebae90d3eda8e13379b8fda4c4011b3ea998c0168d1593cc86bbea354f", func := "furrow/furrowlaw.Cellular", spec := "cellular", unfollowed := true, recurses := true, plainKeys := false, apart := false }
def CellularSaid : Prop := cellularRow.holds Tryz.pinned (OpenSpec.ofChange cellularSpec)

/-- ITS FALSE NEIGHBOUR: 'it returns false'. Refute it at one input. -/
def cellularWrong : ChangeSpec := { name := "cellular", fn := fun _ => fun
  | [d] => { results := [.lit (.bool false)], args := [d] }
  | _ => none }
def CellularWrongFalsely : Prop := cellularRow.holds Tryz.pinned (OpenSpec.ofChange cellularWrong)

/-- 'furrowlaw.Voting': WHATEVER THE INPUT: true; the input reads as it did. -/
def votingSpec : ChangeSpec := { name := "voting", fn := fun _ => fun
  | [d] => { results := [.lit (.bool true)], args := [d] }
  | _ => none }
def votingRow : OpenClaim := { program := "ytbghhbpacijmmaagreat", sum := "b705f5ebae90d3eda8e13379b8fda4c4011b3ea998c0168d1593cc86bbea354f", func := "furrow/furrowlaw.Voting", spec := "voting", unfollowed := true, recurses := true, plainKeys := false, apart := false }
def VotingSaid : Prop := votingRow.holds Tryz.pinned (OpenSpec.ofChange votingSpec)

/-- ITS FALSE NEIGHBOUR: 'it returns false'. Refute it at one input. -/
def votingWrong : ChangeSpec := { name := "voting", fn := fun _ => fun
  | [d] => { results := [.lit (.bool false)], args := [d] }
  | _ => none }
def VotingWrongFalsely : Prop := votingRow.holds Tryz.pinned (OpenSpec.ofChange votingWrong)

/-- 'furrowlaw.All': WHATEVER THE INPUT: true; the input reads as it did. -/
def allSpec : ChangeSpec := { name := "all", fn := fun _ => fun
  | [d] => { results := [.lit (.bool true)], args := [d] }
  | _ => none }
def allRow : OpenClaim := { program := "ytbghhbpacijmmaagreat", sum := "b705f5ebae90d3eda8e13379b8fda4c4011b3ea998c0168d1593cc86bbea354f", func := "furrow/furrowlaw.All", spec := "all", unfollowed := true, recurses := true, plainKeys := false, apart := false }
def AllSaid : Prop := allRow.holds Tryz.pinned (OpenSpec.ofChange allSpec)

/-- ITS FALSE NEIGHBOUR: 'it returns false'. Refute it at one input. -/
def allWrong : ChangeSpec := { name := "all", fn := fun _ => fun
  | [d] => { results := [.lit (.bool false)], args := [d] }
  | _ => none }
def AllWrongFalsely : Prop := allRow.holds Tryz.pinned (OpenSpec.ofChange allWrong)

/-- 'furrowkeep.Doors': WHATEVER THE INPUT: true; the input reads as it did. -/
def doorsSpec : ChangeSpec := { name := "doors", fn := fun _ => fun
  | [d1, d2, d3, d4, d5, d6, d7] => { results := [.lit (.bool true)], args := [d1, d2, d3, d4, d5, d6, d7] }
  | _ => none }
def doorsRow : OpenClaim := { program := "ytbghhbpacijmmaagreat", sum := "b705f5ebae90d3eda8e13379b8fda4c4011b3ea998c0168d1593cc86bbea354f", func := "furrow/furrowkeep.Doors", spec := "doors", unfollowed := true, recurses := true, plainKeys := false, apart := false }
def DoorsSaid : Prop := doorsRow.holds Tryz.pinned (OpenSpec.ofChange doorsSpec)

/-- ITS FALSE NEIGHBOUR: 'it returns false'. Refute it at one input. -/
def doorsWrong : ChangeSpec := { name := "doors", fn := fun _ => fun
  | [d1, d2, d3, d4, d5, d6, d7] => { results := [.lit (.bool false)], args := [d1, d2, d3, d4, d5, d6, d7] }
  | _ => none }
def DoorsWrongFalsely : Prop := doorsRow.holds Tryz.pinned (OpenSpec.ofChange doorsWrong)

/-- 'furrowkeep.Solo': WHATEVER THE INPUT: true; the input reads as it did. -/
def soloSpec : ChangeSpec := { name := "solo", fn := fun _ => fun
  | [d1, d2, d3, d4, d5] => { results := [.lit (.bool true)], args := [d1, d2, d3, d4, d5] }
  | _ => none }
def soloRow : OpenClaim := { program := "ytbghhbpacijmmaagreat", sum := "b705f5ebae90d3eda8e13379b8fda4c4011b3ea998c0168d1593cc86bbea354f", func := "furrow/furrowkeep.Solo", spec := "solo", inPlace := ["maps.clone", "internal/bytealg.Compare"], unfollowed := true, recurses := true, plainKeys := false, apart := false }
def SoloSaid : Prop := soloRow.holds Tryz.pinned (OpenSpec.ofChange soloSpec)

/-- ITS FALSE NEIGHBOUR: 'it returns false'. Refute it at one input. -/
def soloWrong : ChangeSpec := { name := "solo", fn := fun _ => fun
  | [d1, d2, d3, d4, d5] => { results := [.lit (.bool false)], args := [d1, d2, d3, d4, d5] }
  | _ => none }
def SoloWrongFalsely : Prop := soloRow.holds Tryz.pinned (OpenSpec.ofChange soloWrong)

/-- 'furrowkeep.Linear': WHATEVER THE INPUT: true; the input reads as it did. -/
def linearSpec : ChangeSpec := { name := "linear", fn := fun _ => fun
  | [d1, d2, d3, d4, d5] => { results := [.lit (.bool true)], args := [d1, d2, d3, d4, d5] }
  | _ => none }
def linearRow : OpenClaim := { program := "ytbghhbpacijmmaagreat", sum := "b705f5ebae90d3eda8e13379b8fda4c4011b3ea998c0168d1593cc86bbea354f", func := "furrow/furrowkeep.Linear", spec := "linear", inPlace := ["maps.clone", "internal/bytealg.Compare"], unfollowed := true, recurses := true, plainKeys := false, apart := false }
def LinearSaid : Prop := linearRow.holds Tryz.pinned (OpenSpec.ofChange linearSpec)

/-- ITS FALSE NEIGHBOUR: 'it returns false'. Refute it at one input. -/
def linearWrong : ChangeSpec := { name := "linear", fn := fun _ => fun
  | [d1, d2, d3, d4, d5] => { results := [.lit (.bool false)], args := [d1, d2, d3, d4, d5] }
  | _ => none }
def LinearWrongFalsely : Prop := linearRow.holds Tryz.pinned (OpenSpec.ofChange linearWrong)

/-- 'furrowkeep.Live': WHATEVER THE INPUT: true; the input reads as it did. -/
def liveSpec : ChangeSpec := { name := "live", fn := fun _ => fun
  | [d1, d2, d3, d4, d5] => { results := [.lit (.bool true)], args := [d1, d2, d3, d4, d5] }
  | _ => none }
def liveRow : OpenClaim := { program := "ytbghhbpacijmmaagreat", sum := "b705f5ebae90d3eda8e13379b8fda4c4011b3ea998c0168d1593cc86bbea354f", func := "furrow/furrowkeep.Live", spec := "live", inPlace := ["maps.clone", "internal/bytealg.Compare"], unfollowed := true, recurses := true, plainKeys := false, apart := false }
def LiveSaid : Prop := liveRow.holds Tryz.pinned (OpenSpec.ofChange liveSpec)

/-- ITS FALSE NEIGHBOUR: 'it returns false'. Refute it at one input. -/
def liveWrong : ChangeSpec := { name := "live", fn := fun _ => fun
  | [d1, d2, d3, d4, d5] => { results := [.lit (.bool false)], args := [d1, d2, d3, d4, d5] }
  | _ => none }
def LiveWrongFalsely : Prop := liveRow.holds Tryz.pinned (OpenSpec.ofChange liveWrong)

/-- 'furrowkeep.Changed': WHATEVER THE INPUT: true; the input reads as it did. -/
def changedSpec : ChangeSpec := { name := "changed", fn := fun _ => fun
  | [d1, d2, d3, d4, d5, d6] => { results := [.lit (.bool true)], args := [d1, d2, d3, d4, d5, d6] }
  | _ => none }
def changedRow : OpenClaim := { program := "ytbghhbpacijmmaagreat", sum := "b705f5ebae90d3eda8e13379b8fda4c4011b3ea998c0168d1593cc86bbea354f", func := "furrow/furrowkeep.Changed", spec := "changed", inPlace := ["maps.clone", "internal/bytealg.Compare"], unfollowed := true, recurses := true, plainKeys := false, apart := false }
def ChangedSaid : Prop := changedRow.holds Tryz.pinned (OpenSpec.ofChange changedSpec)

/-- ITS FALSE NEIGHBOUR: 'it returns false'. Refute it at one input. -/
def changedWrong : ChangeSpec := { name := "changed", fn := fun _ => fun
  | [d1, d2, d3, d4, d5, d6] => { results := [.lit (.bool false)], args := [d1, d2, d3, d4, d5, d6] }
  | _ => none }
def ChangedWrongFalsely : Prop := changedRow.holds Tryz.pinned (OpenSpec.ofChange changedWrong)

/-- 'furrowkeep.Parted': WHATEVER THE INPUT: true; the input reads as it did. -/
def partedSpec : ChangeSpec := { name := "parted", fn := fun _ => fun
  | [d1, d2, d3, d4, d5, d6] => { results := [.lit (.bool true)], args := [d1, d2, d3, d4, d5, d6] }
  | _ => none }
def partedRow : OpenClaim := { program := "ytbghhbpacijmmaagreat", sum := "b705f5ebae90d3eda8e13379b8fda4c4011b3ea998c0168d1593cc86bbea354f", func := "furrow/furrowkeep.Parted", spec := "parted", inPlace := ["maps.clone", "internal/bytealg.Compare"], unfollowed := true, recurses := true, plainKeys := false, apart := false }
def PartedSaid : Prop := partedRow.holds Tryz.pinned (OpenSpec.ofChange partedSpec)

/-- ITS FALSE NEIGHBOUR: 'it returns false'. Refute it at one input. -/
def partedWrong : ChangeSpec := { name := "parted", fn := fun _ => fun
  | [d1, d2, d3, d4, d5, d6] => { results := [.lit (.bool false)], args := [d1, d2, d3, d4, d5, d6] }
  | _ => none }
def PartedWrongFalsely : Prop := partedRow.holds Tryz.pinned (OpenSpec.ofChange partedWrong)

/- THE SECOND FORM. 'bulk': how many values and letters a reading holds, each counted each time it is reached (what is shared counts as often as it is met; a slice's spare places count too). A statement '..UptoSaid' is the law's where the arguments, and the package variables that the reading takes, are together of bulk at most 1048576: NARROWER than '..Said'. Prove '..Said' where nothing that the law and all that it calls make is longer than what came in: it says more and counts as full. Else prove '..UptoSaid'. A law counts once. -/
mutual
def uptoBulk {H : Type} : DataW H → Nat
  | .lit (.string bytes) => bytes.length + 1
  | .lit _ => 1
  | .nil => 1
  | .ptr d => uptoBulk d + 1
  | .slice elems spare => uptoBulkAll elems + uptoBulkAll spare + 1
  | .agg parts => uptoBulkAll parts + 1
  | .iface _ d => uptoBulk d + 1
  | .map entries => uptoBulkEntries entries + 1
  | .held _ => 1
def uptoBulkAll {H : Type} : List (DataW H) → Nat
  | [] => 0
  | d :: r => uptoBulk d + uptoBulkAll r
def uptoBulkEntries {H : Type} : List (Lit × DataW H) → Nat
  | [] => 0
  | x :: r => uptoBulkEntry x + uptoBulkEntries r
def uptoBulkEntry {H : Type} : Lit × DataW H → Nat
  | (.string bytes, d) => bytes.length + uptoBulk d + 1
  | (_, d) => uptoBulk d + 1
 end
def uptoSmall : (H : Type) → List (DataW H) → Bool := fun _ ds => decide (uptoBulkAll ds ≤ 1048576)
def OpenSpec.upto (s : _root_.Go.ChangeSpec) : _root_.Go.OpenSpec := { _root_.Go.OpenSpec.ofChange s with cond := some uptoSmall }

/-- 'furrowlaw.Layouts', WHERE WHAT IT READS IS OF BULK AT MOST 1048576: true; the input reads as it did. -/
def layoutsUptoRow : OpenClaim := { program := "ytbghhbpacijmmaagreat", sum := "b705f5ebae90d3eda8e13379b8fda4c4011b3ea998c0168d1593cc86bbea354f", func := "furrow/furrowlaw.Layouts", spec := "layouts", unfollowed := true, recurses := true, plainKeys := false, apart := false, narrowed := true }
def LayoutsUptoSaid : Prop := layoutsUptoRow.holds Tryz.pinned (OpenSpec.upto layoutsSpec)

/-- 'furrowlaw.Cellular', WHERE WHAT IT READS IS OF BULK AT MOST 1048576: true; the input reads as it did. -/
def cellularUptoRow : OpenClaim := { program := "ytbghhbpacijmmaagreat", sum := "b705f5ebae90d3eda8e13379b8fda4c4011b3ea998c0168d1593cc86bbea354f", func := "furrow/furrowlaw.Cellular", spec := "cellular", unfollowed := true, recurses := true, plainKeys := false, apart := false, narrowed := true }
def CellularUptoSaid : Prop := cellularUptoRow.holds Tryz.pinned (OpenSpec.upto cellularSpec)

/-- 'furrowlaw.Voting', WHERE WHAT IT READS IS OF BULK AT MOST 1048576: true; the input reads as it did. -/
def votingUptoRow : OpenClaim := { program := "ytbghhbpacijmmaagreat", sum := "b705f5ebae90d3eda8e13379b8fda4c4011b3ea998c0168d1593cc86bbea354f", func := "furrow/furrowlaw.Voting", spec := "voting", unfollowed := true, recurses := true, plainKeys := false, apart := false, narrowed := true }
def VotingUptoSaid : Prop := votingUptoRow.holds Tryz.pinned (OpenSpec.upto votingSpec)

/-- 'furrowlaw.All', WHERE WHAT IT READS IS OF BULK AT MOST 1048576: true; the input reads as it did. -/
def allUptoRow : OpenClaim := { program := "ytbghhbpacijmmaagreat", sum := "b705f5ebae90d3eda8e13379b8fda4c4011b3ea998c0168d1593cc86bbea354f", func := "furrow/furrowlaw.All", spec := "all", unfollowed := true, recurses := true, plainKeys := false, apart := false, narrowed := true }
def AllUptoSaid : Prop := allUptoRow.holds Tryz.pinned (OpenSpec.upto allSpec)

/-- 'furrowkeep.Doors', WHERE WHAT IT READS IS OF BULK AT MOST 1048576: true; the input reads as it did. -/
def doorsUptoRow : OpenClaim := { program := "ytbghhbpacijmmaagreat", sum := "b705f5ebae90d3eda8e13379b8fda4c4011b3ea998c0168d1593cc86bbea354f", func := "furrow/furrowkeep.Doors", spec := "doors", unfollowed := true, recurses := true, plainKeys := false, apart := false, narrowed := true }
def DoorsUptoSaid : Prop := doorsUptoRow.holds Tryz.pinned (OpenSpec.upto doorsSpec)

/-- 'furrowkeep.Solo', WHERE WHAT IT READS IS OF BULK AT MOST 1048576: true; the input reads as it did. -/
def soloUptoRow : OpenClaim := { program := "ytbghhbpacijmmaagreat", sum := "b705f5ebae90d3eda8e13379b8fda4c4011b3ea998c0168d1593cc86bbea354f", func := "furrow/furrowkeep.Solo", spec := "solo", inPlace := ["maps.clone", "internal/bytealg.Compare"], unfollowed := true, recurses := true, plainKeys := false, apart := false, narrowed := true }
def SoloUptoSaid : Prop := soloUptoRow.holds Tryz.pinned (OpenSpec.upto soloSpec)

/-- 'furrowkeep.Linear', WHERE WHAT IT READS IS OF BULK AT MOST 1048576: true; the input reads as it did. -/
def linearUptoRow : OpenClaim := { program := "ytbghhbpacijmmaagreat", sum := "b705f5ebae90d3eda8e13379b8fda4c4011b3ea998c0168d1593cc86bbea354f", func := "furrow/furrowkeep.Linear", spec := "linear", inPlace := ["maps.clone", "internal/bytealg.Compare"], unfollowed := true, recurses := true, plainKeys := false, apart := false, narrowed := true }
def LinearUptoSaid : Prop := linearUptoRow.holds Tryz.pinned (OpenSpec.upto linearSpec)

/-- 'furrowkeep.Live', WHERE WHAT IT READS IS OF BULK AT MOST 1048576: true; the input reads as it did. -/
def liveUptoRow : OpenClaim := { program := "ytbghhbpacijmmaagreat", sum := "b705f5ebae90d3eda8e13379b8fda4c4011b3ea998c0168d1593cc86bbea354f", func := "furrow/furrowkeep.Live", spec := "live", inPlace := ["maps.clone", "internal/bytealg.Compare"], unfollowed := true, recurses := true, plainKeys := false, apart := false, narrowed := true }
def LiveUptoSaid : Prop := liveUptoRow.holds Tryz.pinned (OpenSpec.upto liveSpec)

/-- 'furrowkeep.Changed', WHERE WHAT IT READS IS OF BULK AT MOST 1048576: true; the input reads as it did. -/
def changedUptoRow : OpenClaim := { program := "ytbghhbpacijmmaagreat", sum := "b705f5ebae90d3eda8e13379b8fda4c4011b3ea998c0168d1593cc86bbea354f", func := "furrow/furrowkeep.Changed", spec := "changed", inPlace := ["maps.clone", "internal/bytealg.Compare"], unfollowed := true, recurses := true, plainKeys := false, apart := false, narrowed := true }
def ChangedUptoSaid : Prop := changedUptoRow.holds Tryz.pinned (OpenSpec.upto changedSpec)

/-- 'furrowkeep.Parted', WHERE WHAT IT READS IS OF BULK AT MOST 1048576: true; the input reads as it did. -/
def partedUptoRow : OpenClaim := { program := "ytbghhbpacijmmaagreat", sum := "b705f5ebae90d3eda8e13379b8fda4c4011b3ea998c0168d1593cc86bbea354f", func := "furrow/furrowkeep.Parted", spec := "parted", inPlace := ["maps.clone", "internal/bytealg.Compare"], unfollowed := true, recurses := true, plainKeys := false, apart := false, narrowed := true }
def PartedUptoSaid : Prop := partedUptoRow.holds Tryz.pinned (OpenSpec.upto partedSpec)

end Rows
end Go.Proofs.YtbghhbpacijmmaaGreat
