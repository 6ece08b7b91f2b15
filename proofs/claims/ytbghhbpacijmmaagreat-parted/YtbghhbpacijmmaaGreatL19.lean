import Derived.OpenShut
import Derived.ProofKit
import Derived.Test.YtbghhbpacijmmaaGreatL01
open Go.Proofs.Tryz
namespace Go.Proofs.YtbghhbpacijmmaaGreat
set_option maxRecDepth 99999
set_option maxHeartbeats 0
set_option linter.defProp false
open Go.ChangeShapes Go.WideShapes Go.ChangeAt Go.RowKit Go.WideElems
def I0:(Rows.partedRow.inPlace==prog.inPlace 12)=true:=iu
def B7:(Rows.partedRow.unfollowed==prog.unfollowed 12)=true:=iu
def Fw:(Rows.partedRow.recurses==prog.recurses 12)=true:=iu
def D4:(Rows.partedRow.named==prog.varsNamed 12)=true:=iu
def V0:joinedFacts prog 12 Tryz.f12 Rows.partedSpec Rows.partedRow=true:=by
 unfold joinedFacts;rw[I0,B7,Fw,D4]
 kernel_rfl
end Go.Proofs.YtbghhbpacijmmaaGreat
