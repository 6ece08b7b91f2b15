import Derived.Test.YtbghhbpacijmmaaGreatL20
open Go.Proofs.Tryz
namespace Go.Proofs.YtbghhbpacijmmaaGreat
set_option maxRecDepth 99999
set_option maxHeartbeats 0
set_option linter.defProp false
set_option linter.unusedVariables false
theorem ev351:∀k,k<3→Evw 3 5 1 k
 |0,_|1,_|2,_=>EvwT
 |k+3,h=>absurd h (by omega)
theorem ev352:∀k,k<6→Evw 3 5 2 k
 |0,_|1,_|2,_|3,_|4,_|5,_=>EvwT
 |k+6,h=>absurd h (by omega)
theorem ev353:∀k,k<9→Evw 3 5 3 k
 |0,_|1,_|2,_|3,_|4,_|5,_|6,_|7,_|8,_=>EvwT
 |k+9,h=>absurd h (by omega)
theorem ev354:∀k,k<12→Evw 3 5 4 k
 |0,_|1,_|2,_|3,_|4,_|5,_|6,_|7,_|8,_|9,_|10,_|11,_=>EvwT
 |k+12,h=>absurd h (by omega)
end Go.Proofs.YtbghhbpacijmmaaGreat
