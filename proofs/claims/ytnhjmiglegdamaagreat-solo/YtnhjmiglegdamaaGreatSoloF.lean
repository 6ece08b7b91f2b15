-- Closed facts of the row of Solo.
import Derived.Test.YtnhjmiglegdamaaGreatRows
import Derived.OpenShut
import Derived.ProofKit
namespace Go.Proofs.YtnhjmiglegdamaaGreat
open Go.ChangeShapes Go.WideShapes Go.ChangeAt Go.RowKit Go.WideElems
set_option maxRecDepth 100000 in
theorem jf_inPlace : (Rows.soloRow.inPlace == Tryz.prog.inPlace 8) = true := by kernel_rfl
set_option maxRecDepth 100000 in
theorem jf_unfollowed : (Rows.soloRow.unfollowed == Tryz.prog.unfollowed 8) = true := by kernel_rfl
set_option maxRecDepth 100000 in
theorem jf_recurses : (Rows.soloRow.recurses == Tryz.prog.recurses 8) = true := by kernel_rfl
set_option maxRecDepth 100000 in
theorem jf_varsNamed : (Rows.soloRow.named == Tryz.prog.varsNamed 8) = true := by kernel_rfl
set_option maxRecDepth 100000 in
theorem jf_all : joinedFacts Tryz.prog 8 Tryz.f8 Rows.soloSpec Rows.soloRow = true := by
  unfold joinedFacts
  rw [jf_inPlace, jf_unfollowed, jf_recurses, jf_varsNamed]
  kernel_rfl
end Go.Proofs.YtnhjmiglegdamaaGreat
