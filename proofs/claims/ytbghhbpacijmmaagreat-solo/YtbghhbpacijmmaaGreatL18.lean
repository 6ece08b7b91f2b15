import Derived.OpenShut
import Derived.ProofKit
import Derived.Test.YtbghhbpacijmmaaGreatL01
open Go.Proofs.Tryz
namespace Go.Proofs.YtbghhbpacijmmaaGreat
set_option maxRecDepth 99999
set_option maxHeartbeats 0
set_option linter.defProp false
open Go.ChangeShapes Go.WideShapes Go.ChangeAt Go.RowKit Go.WideElems
theorem Gd:(Rows.soloRow.inPlace==prog.inPlace 8)=true:=by kernel_rfl
theorem zP:(Rows.soloRow.unfollowed==prog.unfollowed 8)=true:=by kernel_rfl
theorem DU:(Rows.soloRow.recurses==prog.recurses 8)=true:=by kernel_rfl
theorem BZ:(Rows.soloRow.named==prog.varsNamed 8)=true:=by kernel_rfl
theorem Tf:joinedFacts prog 8 Tryz.f8 Rows.soloSpec Rows.soloRow=true:=by
 unfold joinedFacts
 rw[Gd,zP,DU,BZ]
 kernel_rfl
end Go.Proofs.YtbghhbpacijmmaaGreat
