/-
  For every six numbers the call of Changed returns true: a unit that is gone for good is left out, what was in the log ahead of that is read still, the last unit of a chain is not left out, and so it is when all nodes that are left are opened anew; the numbers read behind the call as they read before.
  Conditions: none.
-/
import Derived.Test.YtbghhbpacijmmaaGreatRows
import Derived.OpenShut
import Derived.ProofKit
import Derived.Test.YtbghhbpacijmmaaGreatL19
import Derived.Test.YtbghhbpacijmmaaGreatL27
import Derived.Test.YtbghhbpacijmmaaGreatL28
open Go.Proofs.Tryz
namespace Go.Proofs.YtbghhbpacijmmaaGreat
set_option maxRecDepth 99999
set_option maxHeartbeats 0
set_option linter.defProp false
set_option linter.unusedVariables false
open Go.ChangeShapes Go.WideShapes Go.ChangeAt Go.RowKit Go.WideElems
theorem il.ie:ownKnob prog.godebug=none:=by kernel_rfl
theorem changed_contract (H:Type) (enc:TypeId×Value→H) (W:World) (base:Nat) (args:Array Value) (ds gs:List (DataW H)) (before:List MemPlace)
 (hval:∀(j:Nat) t v,Tryz.f11.params[j]?=some t→args[j]?=some v→Value.okWide prog W .any base t v)
 (hW:DataW.Whole enc prog Tryz.f11.params.toList Rows.changedSpec.vars false W args.toList ds gs before):
 Calls prog 11 args W fun e W'=>∃v,e=gX v∧Rows.changedSpec.post enc prog Tryz.f11 false true false false W args v W':=by
 have hW':=hW
 obtain⟨p,q,hA0,hV,rfl,hfz,hnd⟩:=hW
 have hA:DataW.TrodAll enc prog W 0 (fun _=>true) true Tryz.f11.params.toList args.toList ds p:=hA0
 rw[Tryz.params11] at hA hval
 obtain⟨v0,vs0,d0,ds0,p0,q0,hargs,rfl,rfl,h0,r0⟩:=trodAll_cons hA
 obtain⟨v1,vs1,d1,ds1,p1,q1,rfl,rfl,rfl,h1,r1⟩:=trodAll_cons r0
 obtain⟨v2,vs2,d2,ds2,p2,q2,rfl,rfl,rfl,h2,r2⟩:=trodAll_cons r1
 obtain⟨v3,vs3,d3,ds3,p3,q3,rfl,rfl,rfl,h3,r3⟩:=trodAll_cons r2
 obtain⟨v4,vs4,d4,ds4,p4,q4,rfl,rfl,rfl,h4,r4⟩:=trodAll_cons r3
 obtain⟨v5,vs5,d5,ds5,p5,q5,rfl,rfl,rfl,h5,r5⟩:=trodAll_cons r4
 obtain⟨rfl,rfl,rfl⟩:=trodAll_nil r5
 obtain rfl:args=#[v0,v1,v2,v3,v4,v5]:=Array.toList_inj.1 hargs
 obtain⟨rfl,rfl⟩:=trodVars_none hV
 obtain⟨a0,rfl,rfl,rfl,w0⟩:=open_int underlying3 (hval 0 3 _ rfl rfl) h0
 obtain⟨a1,rfl,rfl,rfl,w1⟩:=open_int underlying3 (hval 1 3 _ rfl rfl) h1
 obtain⟨a2,rfl,rfl,rfl,w2⟩:=open_int underlying3 (hval 2 3 _ rfl rfl) h2
 obtain⟨a3,rfl,rfl,rfl,w3⟩:=open_int underlying3 (hval 3 3 _ rfl rfl) h3
 obtain⟨a4,rfl,rfl,rfl,w4⟩:=open_int underlying3 (hval 4 3 _ rfl rfl) h4
 obtain⟨a5,rfl,rfl,rfl,w5⟩:=open_int underlying3 (hval 5 3 _ rfl rfl) h5
 clear hA0
 refine(changed_of ev_all a0 a1 a2 a3 a4 a5 W (bounds_i64 w0) (bounds_i64 w1) (bounds_i64 w2) (bounds_i64 w3) (bounds_i64 w4) (bounds_i64 w5)).L fun e W' ⟨he,hbl⟩=> ?_
 subst he
 have hbelow:Below W.heap.size W W':=hbl
 refine⟨_,rfl,_,_,_,[],[]++([]++([]++([]++([]++([]++[]))))),[],hW', ?_, ?_, ?_,hbelow.frame _,fun h=>by cases h⟩
 ·exact trodAll_cons_mk (shut_bool underlying4 _) trodAll_mk0
 ·exact trodAll_cons_mk (shut_int underlying3 w0) (trodAll_cons_mk (shut_int underlying3 w1) (trodAll_cons_mk (shut_int underlying3 w2) (trodAll_cons_mk (shut_int underlying3 w3) (trodAll_cons_mk (shut_int underlying3 w4) (trodAll_cons_mk (shut_int underlying3 w5) trodAll_mk0)))))
 ·rfl
theorem changed_lifted (os:Os) (started:os.Started) (H:Type) (enc:TypeId×Value→H):
 ReturnsInHanded {} Tryz.checked os 11 .any (Rows.changedSpec.pre6 enc prog Tryz.f11 Rows.changedRow.domain false) (Rows.changedSpec.post enc prog Tryz.f11 false true false false):=by
 refine returnsInHanded_of_change (C:=Tryz.checked) il.ie started (by kernel_rfl) func11
  (ChangeSpec.witness6 (enc:=enc) (C:=Tryz.checked) false ⟨#[],#[.int .i64 0,.int .i64 0,.int .i64 0,.int .i64 0,.int .i64 0,.int .i64 0],[]⟩ 8 (by kernel_rfl) (by kernel_rfl) (by kernel_rfl) (by kernel_rfl)) ?_
 intro W base args ds gs before hval hW _ _
 exact changed_contract H enc W base args ds gs before hval hW
theorem changed_holds:Rows.ChangedSaid:=
 OpenClaim.holds_of_wide 11 Tryz.f11 rfl rfl rfl rfl rfl rfl rfl ⟨rfl,rfl,rfl,rfl,rfl⟩ rfl rfl rfl rfl rfl (by kernel_rfl) func11 VD
  (of_decide_eq_true (by kernel_rfl)) (by unfold Func.isWrapper;first|(rw[if_pos (by decide+kernel)];kernel_rfl)|(rw[if_neg (by decide+kernel)];exact⟨rfl,rfl⟩))
  (fun os started H enc _=>changed_lifted os started H enc)
#print axioms changed_holds
end Go.Proofs.YtbghhbpacijmmaaGreat
