/-
  No cell of these rows narrows 'for every input' (looked for: loops, veiled, ifaces, maps, wideKeys, modest, calm, conditions, laid).
  DERIVED. THE GIVEN ROWS OF THIS SEAT. 4 by the template 'for every input the law returns true; each argument reads behind the call as it read before'; 0 by the template 'total and deterministic' (their statements: YtkgjpfamjedncaaGreatTotals.lean).
  GIVEN WITH THE SEED: the statements are not yours to turn. If you find one false, say at which input.
  Laid BY PROGRAM, IN A SANDBOX (cutbox-rows.mjs): the forced cells as the released guide's own fill.sh prints them over the translation 1f6ba23dbd262efd… (all of the seat's roots in one cut). By AI agents, Wed Nov 11 2026. No macro, syntax, notation, axiom, sorry.
-/
import Derived.Test.YtkgjpfamjedncaaGreatChecked
import GoSem.Claim
import GoSem.ClaimJoined
import GoSem.ClaimMapViews
import Derived.JoinedTies
import Derived.KernelRfl
namespace Go.Proofs.YtkgjpfamjedncaaGreat
/- THE CELL 'sum', in the pinned program and in every row, IS THE sha256 OF THE DUMP (.gsa) THAT YtkgjpfamjedncaaGreatProg.lean LOADS. Nothing in Lean hashes anything: it is a label: what it is worth is what the hold of that sum in a sandbox is worth. -/
noncomputable def Tryz.pinned : Pinned := { name := "ytkgjpfamjedncaagreat", sum := "1f6ba23dbd262efd2775992f34d72804c858e571f06970d68a07ca2da94af49c", checked := Tryz.checked }
namespace Rows
def none {H : Type} : Left H := { results := [], args := [] }

/-- 'furrowlaw.Layouts': WHATEVER THE INPUT: true; the input reads as it did. -/
def layoutsSpec : ChangeSpec := { name := "layouts", fn := fun _ => fun
  | [d] => { results := [.lit (.bool true)], args := [d] }
  | _ => none }
def layoutsRow : OpenClaim := { program := "ytkgjpfamjedncaagreat", sum := "1f6ba23dbd262efd2775992f34d72804c858e571f06970d68a07ca2da94af49c", func := "furrow/furrowlaw.Layouts", spec := "layouts", unfollowed := true, recurses := true, apart := false }
def LayoutsSaid : Prop := layoutsRow.holds Tryz.pinned (OpenSpec.ofChange layoutsSpec)

/-- ITS FALSE NEIGHBOUR: 'it returns false'. Refute it at one input. -/
def layoutsWrong : ChangeSpec := { name := "layouts", fn := fun _ => fun
  | [d] => { results := [.lit (.bool false)], args := [d] }
  | _ => none }
def LayoutsWrongFalsely : Prop := layoutsRow.holds Tryz.pinned (OpenSpec.ofChange layoutsWrong)

/-- 'furrowlaw.Cellular': WHATEVER THE INPUT: true; the input reads as it did. -/
def cellularSpec : ChangeSpec := { name := "cellular", fn := fun _ => fun
  | [d] => { results := [.lit (.bool true)], args := [d] }
  | _ => none }
def cellularRow : OpenClaim := { program := "ytkgjpfamjedncaagreat", sum := "1f6ba23dbd262efd2775992f34d72804c858e571f06970d68a07ca2da94af49c", func := "furrow/furrowlaw.Cellular", spec := "cellular", unfollowed := true, recurses := true, apart := false }
def CellularSaid : Prop := cellularRow.holds Tryz.pinned (OpenSpec.ofChange cellularSpec)

/-- ITS FALSE NEIGHBOUR: 'it returns false'. Refute it at one input. -/
def cellularWrong : ChangeSpec := { name := "cellular", fn := fun _ => fun
  | [d] => { results := [.lit (.bool false)], args := [d] }
  | _ => none }
def CellularWrongFalsely : Prop := cellularRow.holds Tryz.pinned (OpenSpec.ofChange cellularWrong)

/-- 'furrowlaw.Voting': WHATEVER THE INPUT: true; the input reads as it did. -/
def votingSpec : ChangeSpec := { name := "voting", fn := fun _ => fun
  | [d] => { results := [.lit (.bool true)], args := [d] }
  | _ => none }
def votingRow : OpenClaim := { program := "ytkgjpfamjedncaagreat", sum := "1f6ba23dbd262efd2775992f34d72804c858e571f06970d68a07ca2da94af49c", func := "furrow/furrowlaw.Voting", spec := "voting", unfollowed := true, recurses := true, apart := false }
def VotingSaid : Prop := votingRow.holds Tryz.pinned (OpenSpec.ofChange votingSpec)

/-- ITS FALSE NEIGHBOUR: 'it returns false'. Refute it at one input. -/
def votingWrong : ChangeSpec := { name := "voting", fn := fun _ => fun
  | [d] => { results := [.lit (.bool false)], args := [d] }
  | _ => none }
def VotingWrongFalsely : Prop := votingRow.holds Tryz.pinned (OpenSpec.ofChange votingWrong)

/-- 'furrowlaw.All': WHATEVER THE INPUT: true; the input reads as it did. -/
def allSpec : ChangeSpec := { name := "all", fn := fun _ => fun
  | [d] => { results := [.lit (.bool true)], args := [d] }
  | _ => none }
def allRow : OpenClaim := { program := "ytkgjpfamjedncaagreat", sum := "1f6ba23dbd262efd2775992f34d72804c858e571f06970d68a07ca2da94af49c", func := "furrow/furrowlaw.All", spec := "all", unfollowed := true, recurses := true, apart := false }
def AllSaid : Prop := allRow.holds Tryz.pinned (OpenSpec.ofChange allSpec)

/-- ITS FALSE NEIGHBOUR: 'it returns false'. Refute it at one input. -/
def allWrong : ChangeSpec := { name := "all", fn := fun _ => fun
  | [d] => { results := [.lit (.bool false)], args := [d] }
  | _ => none }
def AllWrongFalsely : Prop := allRow.holds Tryz.pinned (OpenSpec.ofChange allWrong)

/- THE SECOND FORM. 'bulk': how many values and letters a reading holds, each counted each time it is reached (what is shared counts as often as it is met; a slice's spare places count too). A statement '..UptoSaid' is the law's where the arguments, and the package variables that the reading takes, are together of bulk at most 1048576: NARROWER than '..Said'. Prove '..Said' where nothing that the law and all that it calls make is longer than what came in: it says more and counts as full. Else prove '..UptoSaid'. A law counts once. -/
mutual
def uptoBulk {H : Type} : DataW H → Nat
  | .lit (.string bytes) => bytes.length + 1
  | .lit _ => 1
  | .nil => 1
  | .ptr d => uptoBulk d + 1
  | .slice elems spare => uptoBulkAll elems + uptoBulkAll spare + 1
  | .agg parts => uptoBulkAll parts + 1
  | .iface _ d => uptoBulk d + 1
  | .map entries => uptoBulkEntries entries + 1
  | .held _ => 1
def uptoBulkAll {H : Type} : List (DataW H) → Nat
  | [] => 0
  | d :: r => uptoBulk d + uptoBulkAll r
def uptoBulkEntries {H : Type} : List (Lit × DataW H) → Nat
  | [] => 0
  | x :: r => uptoBulkEntry x + uptoBulkEntries r
def uptoBulkEntry {H : Type} : Lit × DataW H → Nat
  | (.string bytes, d) => bytes.length + uptoBulk d + 1
  | (_, d) => uptoBulk d + 1
 end
def uptoSmall : (H : Type) → List (DataW H) → Bool := fun _ ds => decide (uptoBulkAll ds ≤ 1048576)
def OpenSpec.upto (s : _root_.Go.ChangeSpec) : _root_.Go.OpenSpec := { _root_.Go.OpenSpec.ofChange s with cond := some uptoSmall }

/-- 'furrowlaw.Layouts', WHERE WHAT IT READS IS OF BULK AT MOST 1048576: true; the input reads as it did. -/
def layoutsUptoRow : OpenClaim := { program := "ytkgjpfamjedncaagreat", sum := "1f6ba23dbd262efd2775992f34d72804c858e571f06970d68a07ca2da94af49c", func := "furrow/furrowlaw.Layouts", spec := "layouts", unfollowed := true, recurses := true, apart := false, narrowed := true }
def LayoutsUptoSaid : Prop := layoutsUptoRow.holds Tryz.pinned (OpenSpec.upto layoutsSpec)

/-- 'furrowlaw.Cellular', WHERE WHAT IT READS IS OF BULK AT MOST 1048576: true; the input reads as it did. -/
def cellularUptoRow : OpenClaim := { program := "ytkgjpfamjedncaagreat", sum := "1f6ba23dbd262efd2775992f34d72804c858e571f06970d68a07ca2da94af49c", func := "furrow/furrowlaw.Cellular", spec := "cellular", unfollowed := true, recurses := true, apart := false, narrowed := true }
def CellularUptoSaid : Prop := cellularUptoRow.holds Tryz.pinned (OpenSpec.upto cellularSpec)

/-- 'furrowlaw.Voting', WHERE WHAT IT READS IS OF BULK AT MOST 1048576: true; the input reads as it did. -/
def votingUptoRow : OpenClaim := { program := "ytkgjpfamjedncaagreat", sum := "1f6ba23dbd262efd2775992f34d72804c858e571f06970d68a07ca2da94af49c", func := "furrow/furrowlaw.Voting", spec := "voting", unfollowed := true, recurses := true, apart := false, narrowed := true }
def VotingUptoSaid : Prop := votingUptoRow.holds Tryz.pinned (OpenSpec.upto votingSpec)

/-- 'furrowlaw.All', WHERE WHAT IT READS IS OF BULK AT MOST 1048576: true; the input reads as it did. -/
def allUptoRow : OpenClaim := { program := "ytkgjpfamjedncaagreat", sum := "1f6ba23dbd262efd2775992f34d72804c858e571f06970d68a07ca2da94af49c", func := "furrow/furrowlaw.All", spec := "all", unfollowed := true, recurses := true, apart := false, narrowed := true }
def AllUptoSaid : Prop := allUptoRow.holds Tryz.pinned (OpenSpec.upto allSpec)

end Rows
end Go.Proofs.YtkgjpfamjedncaaGreat
