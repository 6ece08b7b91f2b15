import Derived.Test.YtbghhbpacijmmaaGreatRows
import Derived.OpenShut
import Derived.ProofKit
import Derived.Test.YtbghhbpacijmmaaGreatL01
open Go.Proofs.Tryz
namespace Go.Proofs.YtbghhbpacijmmaaGreat
set_option maxRecDepth 99999
set_option maxHeartbeats 0
set_option linter.defProp false
set_option linter.unusedVariables false
open Go.ChangeShapes Go.WideShapes Go.ChangeAt Go.RowKit Go.WideElems
theorem GZ:(Rows.changedRow.inPlace==prog.inPlace 11)=true:=by kernel_rfl
theorem A8:(Rows.changedRow.unfollowed==prog.unfollowed 11)=true:=by kernel_rfl
theorem E6:(Rows.changedRow.recurses==prog.recurses 11)=true:=by kernel_rfl
theorem DT:(Rows.changedRow.named==prog.varsNamed 11)=true:=by kernel_rfl
theorem VD:joinedFacts prog 11 Tryz.f11 Rows.changedSpec Rows.changedRow=true:=by
 unfold joinedFacts
 rw[GZ,A8,E6,DT]
 kernel_rfl
end Go.Proofs.YtbghhbpacijmmaaGreat
