import Derived.Test.YtbghhbpacijmmaaGreatL18
open Go.Proofs.Tryz
namespace Go.Proofs.YtbghhbpacijmmaaGreat
set_option maxRecDepth 99999
set_option maxHeartbeats 0
set_option linter.defProp false
set_option linter.unusedVariables false
abbrev Evw(c v s k:Nat):Prop:=(Wd.start c 2 v s).evN (2*c) k=true
theorem EvwT {p:Prop} (h:p:=by as_aux_lemma=>decide+kernel):p:=h
end Go.Proofs.YtbghhbpacijmmaaGreat
