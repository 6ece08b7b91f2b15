import Derived.Test.YtbghhbpacijmmaaGreatL20
open Go.Proofs.Tryz
namespace Go.Proofs.YtbghhbpacijmmaaGreat
set_option maxRecDepth 99999
set_option maxHeartbeats 0
set_option linter.defProp false
set_option linter.unusedVariables false
theorem ev111:∀k,k<1→Evw 1 1 1 k
 |0,_=>EvwT
 |k+1,h=>absurd h (by omega)
theorem ev112:∀k,k<2→Evw 1 1 2 k
 |0,_|1,_=>EvwT
 |k+2,h=>absurd h (by omega)
theorem ev113:∀k,k<3→Evw 1 1 3 k
 |0,_|1,_|2,_=>EvwT
 |k+3,h=>absurd h (by omega)
theorem ev114:∀k,k<4→Evw 1 1 4 k
 |0,_|1,_|2,_|3,_=>EvwT
 |k+4,h=>absurd h (by omega)
theorem ev115:∀k,k<5→Evw 1 1 5 k
 |0,_|1,_|2,_|3,_|4,_=>EvwT
 |k+5,h=>absurd h (by omega)
theorem ev131:∀k,k<1→Evw 1 3 1 k
 |0,_=>EvwT
 |k+1,h=>absurd h (by omega)
theorem ev132:∀k,k<2→Evw 1 3 2 k
 |0,_|1,_=>EvwT
 |k+2,h=>absurd h (by omega)
theorem ev133:∀k,k<3→Evw 1 3 3 k
 |0,_|1,_|2,_=>EvwT
 |k+3,h=>absurd h (by omega)
theorem ev134:∀k,k<4→Evw 1 3 4 k
 |0,_|1,_|2,_|3,_=>EvwT
 |k+4,h=>absurd h (by omega)
theorem ev135:∀k,k<5→Evw 1 3 5 k
 |0,_|1,_|2,_|3,_|4,_=>EvwT
 |k+5,h=>absurd h (by omega)
theorem ev151:∀k,k<1→Evw 1 5 1 k
 |0,_=>EvwT
 |k+1,h=>absurd h (by omega)
theorem ev152:∀k,k<2→Evw 1 5 2 k
 |0,_|1,_=>EvwT
 |k+2,h=>absurd h (by omega)
theorem ev153:∀k,k<3→Evw 1 5 3 k
 |0,_|1,_|2,_=>EvwT
 |k+3,h=>absurd h (by omega)
theorem ev154:∀k,k<4→Evw 1 5 4 k
 |0,_|1,_|2,_|3,_=>EvwT
 |k+4,h=>absurd h (by omega)
theorem ev155:∀k,k<5→Evw 1 5 5 k
 |0,_|1,_|2,_|3,_|4,_=>EvwT
 |k+5,h=>absurd h (by omega)
theorem ev211:∀k,k<2→Evw 2 1 1 k
 |0,_|1,_=>EvwT
 |k+2,h=>absurd h (by omega)
theorem ev212:∀k,k<4→Evw 2 1 2 k
 |0,_|1,_|2,_|3,_=>EvwT
 |k+4,h=>absurd h (by omega)
theorem ev213:∀k,k<6→Evw 2 1 3 k
 |0,_|1,_|2,_|3,_|4,_|5,_=>EvwT
 |k+6,h=>absurd h (by omega)
theorem ev214:∀k,k<8→Evw 2 1 4 k
 |0,_|1,_|2,_|3,_|4,_|5,_|6,_|7,_=>EvwT
 |k+8,h=>absurd h (by omega)
theorem ev215:∀k,k<10→Evw 2 1 5 k
 |0,_|1,_|2,_|3,_|4,_|5,_|6,_|7,_|8,_|9,_=>EvwT
 |k+10,h=>absurd h (by omega)
end Go.Proofs.YtbghhbpacijmmaaGreat
