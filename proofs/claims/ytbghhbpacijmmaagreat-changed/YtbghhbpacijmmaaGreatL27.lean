import Derived.Test.YtbghhbpacijmmaaGreatL21
import Derived.Test.YtbghhbpacijmmaaGreatL22
import Derived.Test.YtbghhbpacijmmaaGreatL23
import Derived.Test.YtbghhbpacijmmaaGreatL24
import Derived.Test.YtbghhbpacijmmaaGreatL25
import Derived.Test.YtbghhbpacijmmaaGreatL26
open Go.Proofs.Tryz
namespace Go.Proofs.YtbghhbpacijmmaaGreat
set_option maxRecDepth 99999
set_option maxHeartbeats 0
set_option linter.defProp false
set_option linter.unusedVariables false
theorem ev_all (S:Cf) (hm:S.m=2) (hv:S.v=1∨S.v=3∨S.v=5) (hc:S.ce≤5) (k:Nat) (hk:k<S.n*S.ce):(Wd.start S.n S.m S.v S.ce).evN (2*S.n) k=true:=by
 obtain⟨h1,_,_,h4⟩:=S.A
 obtain⟨n,m,v,ce,ok⟩:=S
 simp only at hm hv hc hk h1 h4⊢
 subst hm
 have h5:n=1∨n=2∨n=3:=by omega
 have h6:ce=1∨ce=2∨ce=3∨ce=4∨ce=5:=by omega
 rcases h5 with rfl|rfl|rfl<;>rcases hv with rfl|rfl|rfl<;>rcases h6 with rfl|rfl|rfl|rfl|rfl
 ·exact ev111 k hk
 ·exact ev112 k hk
 ·exact ev113 k hk
 ·exact ev114 k hk
 ·exact ev115 k hk
 ·exact ev131 k hk
 ·exact ev132 k hk
 ·exact ev133 k hk
 ·exact ev134 k hk
 ·exact ev135 k hk
 ·exact ev151 k hk
 ·exact ev152 k hk
 ·exact ev153 k hk
 ·exact ev154 k hk
 ·exact ev155 k hk
 ·exact ev211 k hk
 ·exact ev212 k hk
 ·exact ev213 k hk
 ·exact ev214 k hk
 ·exact ev215 k hk
 ·exact ev231 k hk
 ·exact ev232 k hk
 ·exact ev233 k hk
 ·exact ev234 k hk
 ·exact ev235 k hk
 ·exact ev251 k hk
 ·exact ev252 k hk
 ·exact ev253 k hk
 ·exact ev254 k hk
 ·exact ev255 k hk
 ·exact ev311 k hk
 ·exact ev312 k hk
 ·exact ev313 k hk
 ·exact ev314 k hk
 ·exact ev315 k hk
 ·exact ev331 k hk
 ·exact ev332 k hk
 ·exact ev333 k hk
 ·exact ev334 k hk
 ·exact ev335 k hk
 ·exact ev351 k hk
 ·exact ev352 k hk
 ·exact ev353 k hk
 ·exact ev354 k hk
 ·exact ev355 k hk
end Go.Proofs.YtbghhbpacijmmaaGreat
