import Derived.Test.YtbghhbpacijmmaaGreatL20
open Go.Proofs.Tryz
namespace Go.Proofs.YtbghhbpacijmmaaGreat
set_option maxRecDepth 99999
set_option maxHeartbeats 0
set_option linter.defProp false
set_option linter.unusedVariables false
theorem ev231:∀k,k<2→Evw 2 3 1 k
 |0,_|1,_=>EvwT
 |k+2,h=>absurd h (by omega)
theorem ev232:∀k,k<4→Evw 2 3 2 k
 |0,_|1,_|2,_|3,_=>EvwT
 |k+4,h=>absurd h (by omega)
theorem ev233:∀k,k<6→Evw 2 3 3 k
 |0,_|1,_|2,_|3,_|4,_|5,_=>EvwT
 |k+6,h=>absurd h (by omega)
theorem ev234:∀k,k<8→Evw 2 3 4 k
 |0,_|1,_|2,_|3,_|4,_|5,_|6,_|7,_=>EvwT
 |k+8,h=>absurd h (by omega)
theorem ev235:∀k,k<10→Evw 2 3 5 k
 |0,_|1,_|2,_|3,_|4,_|5,_|6,_|7,_|8,_|9,_=>EvwT
 |k+10,h=>absurd h (by omega)
theorem ev251:∀k,k<2→Evw 2 5 1 k
 |0,_|1,_=>EvwT
 |k+2,h=>absurd h (by omega)
theorem ev252:∀k,k<4→Evw 2 5 2 k
 |0,_|1,_|2,_|3,_=>EvwT
 |k+4,h=>absurd h (by omega)
theorem ev253:∀k,k<6→Evw 2 5 3 k
 |0,_|1,_|2,_|3,_|4,_|5,_=>EvwT
 |k+6,h=>absurd h (by omega)
theorem ev254:∀k,k<8→Evw 2 5 4 k
 |0,_|1,_|2,_|3,_|4,_|5,_|6,_|7,_=>EvwT
 |k+8,h=>absurd h (by omega)
theorem ev255:∀k,k<10→Evw 2 5 5 k
 |0,_|1,_|2,_|3,_|4,_|5,_|6,_|7,_|8,_|9,_=>EvwT
 |k+10,h=>absurd h (by omega)
end Go.Proofs.YtbghhbpacijmmaaGreat
