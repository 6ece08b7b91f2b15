/-
  For every input the call of Solo returns true, and the four numbers and the deeds that were handed in read behind the call as they read before: a client that is alone, whose calls are made one behind the other, gets of each append, read, fill and trim the result that one log gives; an append behind all addresses is told that the log is full; and all calls together can be those of one log.
  Conditions: none besides those that the given statement has.
-/
import Derived.Test.YtbghhbpacijmmaaGreatL17
import Derived.Test.YtbghhbpacijmmaaGreatL18
open Go.Proofs.Tryz
namespace Go.Proofs.YtbghhbpacijmmaaGreat
set_option maxRecDepth 99999
set_option maxHeartbeats 0
set_option linter.defProp false
open Go.ChangeShapes Go.WideShapes Go.ChangeAt Go.RowKit Go.WideElems Go.Deep
theorem Tryz.gZ:ownKnob prog.godebug=none:=by kernel_rfl
theorem Tryz.laidOut:laidOutB prog=true:=by kernel_rfl
theorem Tryz.Rg:prog.cellsOf 3=1:=by kernel_rfl
theorem Tryz.C8:prog.cellsOf 56=5:=by kernel_rfl
section
variable{H:Type}{enc:TypeId×Value->H}{w:World}
theorem Py {a:Addr} {v:Value} (h:w.cell? (a.add 0)=some v):∃b o,a=⟨b,o,none⟩:=by
 obtain⟨b,o,sp⟩:=a
 cases sp with
 |none=>exact⟨b,o,rfl⟩
 |some s=>
  unfold World.cell? Addr.add at h
  simp at h
  split at h<;>simp_all
theorem P9 {cs:List Value} {a:Nat} {v:Value} (h:(cs.drop a).take 1=[v]):cs[a]?=some v:=by
 have h1:((cs.drop a).take 1)[0]?=some v:=by rw[h];rfl
 rw[List.getElem?_take] at h1
 split at h1
 ·rw[List.getElem?_drop] at h1;exact h1
 ·simp at h1
theorem Ff {fuel:Nat} {cs:List Value} {a:Nat} {x:DataW H×List MemPlace} (h:DataW.trod enc prog w 0 (fun _=>true) true fuel 3 ((cs.drop a).take (prog.cellsOf 3))=some x):∃n,cs[a]?=some (.int .i64 n)∧-9223372036854775808≤n∧n≤9223372036854775807:=by
 obtain⟨n,e,_,hw⟩:=DataW.trod_int underlying3 h
 rw[Tryz.Rg] at e
 exact⟨n,P9 e,bounds_i64 hw⟩
theorem Ji {fuel:Nat} {cs:List Value} {x:DataW H×List MemPlace} (h:DataW.trod enc prog w 0 (fun _=>true) true fuel 56 cs=some x):
 cs.length=5∧∃a b:Int,(cs[0]?=some (.int .i64 a)∧cs[2]?=some (.int .i64 b))∧(-9223372036854775808≤a∧a≤9223372036854775807)∧(-9223372036854775808≤b∧b≤9223372036854775807):=by
 obtain⟨xs,n,rfl,rfl,hlen,hxl,hf⟩:=DataW.trod_struct underlying56 h
 rw[Tryz.C8] at hlen
 have hxl3:xs.length=5:=hxl
 have g0:DataW.trod enc prog w 0 (fun _=>true) true n 3 ((cs.drop 0).take (prog.cellsOf 3))=xs[0]?:=hf 0 _ rfl
 have g2:DataW.trod enc prog w 0 (fun _=>true) true n 3 ((cs.drop 2).take (prog.cellsOf 3))=xs[2]?:=hf 2 _ rfl
 rw[List.getElem?_eq_getElem (by omega)] at g0 g2
 obtain⟨a,k0,b0⟩:=Ff g0
 obtain⟨b,k2,b2⟩:=Ff g2
 exact⟨hlen,a,b,⟨k0,k2⟩,b0,b2⟩
theorem Ic {fuel:Nat} {v:Value} {x:DataW H×List MemPlace} (h:DataW.trod enc prog w 0 (fun _=>true) true fuel 49 [v]=some x):
 ∃a m c,v=dk a m c∧Dd w a m:=by
 rcases open_slice underlying49 h with⟨hcs,rfl⟩|⟨a,len,cap,m,n,D,Pl,hcs,_,hl,_,hm,rfl,hx⟩
 ·simp at hcs
  subst hcs
  exact⟨_,_,_,rfl,0,0,fun h=>by omega,fun j h=>by omega⟩
 ·simp at hcs
  subst hcs
  simp at hm
  subst hm
  rw[Tryz.C8] at hx
  by_cases h0:len=0
  ·subst h0
   exact⟨_,_,_,rfl,0,0,fun h=>by omega,fun j h=>by omega⟩
  ·have ha:∃b o,a=⟨b,o,none⟩:=by
    obtain⟨cs',h1,_⟩:=hx 0 (by omega)
    obtain⟨_,h2,h3⟩:=World.cells?_some h1
    have h4:=h3 0 (by omega)
    rw[List.getElem?_eq_getElem (by omega),Nat.zero_mul] at h4
    have e:(a.add 0).add 0=a.add 0:=by unfold Addr.add;split<;>simp_all
    rw[e] at h4
    exact Py h4
   obtain⟨b,o,rfl⟩:=ha
   have hbw:b<w.heap.size:=by
    obtain⟨cs',h1,_⟩:=hx 0 (by omega)
    have:=World.cells?_block h1 (by omega)
    rw[Nat.zero_mul,mU] at this
    exact this
   refine⟨_,_,_,rfl,b,o,fun _=>⟨rfl,hbw⟩,fun j hj=> ?_⟩
   obtain⟨cs',h1,h2⟩:=hx j (by omega)
   obtain⟨_,h3,h5⟩:=World.cells?_some h1
   obtain⟨_,x,z,⟨k0,k2⟩,b0,b2⟩:=Ji h2
   have e0:=(h5 0 (by omega)).H k0
   have e2:=(h5 2 (by omega)).H k2
   rw[mU,mU] at e0 e2
   exact⟨x,z,e0,e2,b0,b2⟩
end
theorem zX (H:Type) (enc:TypeId×Value→H) (W:World) (base:Nat) (args:Array Value) (ds gs:List (DataW H)) (before:List MemPlace)
 (hval:∀(j:Nat) t v,Tryz.f8.params[j]?=some t→args[j]?=some v→Value.okWide prog W .any base t v)
 (hW:DataW.Whole enc prog Tryz.f8.params.toList Rows.soloSpec.vars false W args.toList ds gs before):
 Calls prog 8 args W fun e W'=>∃v,e=gG v∧Rows.soloSpec.post enc prog Tryz.f8 false true false false W args v W':=by
 have hW':=hW
 obtain⟨p,q,hA0,hV,rfl,hfz,hnd⟩:=hW
 have hA:DataW.TrodAll enc prog W 0 (fun _=>true) true Tryz.f8.params.toList args.toList ds p:=hA0
 rw[Tryz.params8] at hA hval
 obtain⟨v0,vs0,d0,ds0,p0,q0,hargs,rfl,rfl,h0,r0⟩:=trodAll_cons hA
 obtain⟨v1,vs1,d1,ds1,p1,q1,rfl,rfl,rfl,h1,r1⟩:=trodAll_cons r0
 obtain⟨v2,vs2,d2,ds2,p2,q2,rfl,rfl,rfl,h2,r2⟩:=trodAll_cons r1
 obtain⟨v3,vs3,d3,ds3,p3,q3,rfl,rfl,rfl,h3,r3⟩:=trodAll_cons r2
 obtain⟨v4,vs4,d4,ds4,p4,q4,rfl,rfl,rfl,h4,r4⟩:=trodAll_cons r3
 obtain⟨rfl,rfl,rfl⟩:=trodAll_nil r4
 obtain rfl:args=#[v0,v1,v2,v3,v4]:=Array.toList_inj.1 hargs
 obtain⟨rfl,rfl⟩:=trodVars_none hV
 obtain⟨a0,rfl,rfl,rfl,w0⟩:=open_int underlying3 (hval 0 3 _ rfl rfl) h0
 obtain⟨a1,rfl,rfl,rfl,w1⟩:=open_int underlying3 (hval 1 3 _ rfl rfl) h1
 obtain⟨a2,rfl,rfl,rfl,w2⟩:=open_int underlying3 (hval 2 3 _ rfl rfl) h2
 obtain⟨a3,rfl,rfl,rfl,w3⟩:=open_int underlying3 (hval 3 3 _ rfl rfl) h3
 have h4k:=h4
 obtain⟨s0,len,cap,rfl⟩:=okWide_slice underlying49 (hval 4 49 _ rfl rfl)
 obtain⟨fuel,hf⟩:=h4
 clear hA0
 obtain⟨a,m,cc,e,ht⟩:=Ic (x:=(d4,p4)) hf
 injection e with e1 e2 e3
 subst e1 e2 e3
 refine(MC a0 a1 a2 a3 _ _ _ W (bounds_i64 w0) (bounds_i64 w1) (bounds_i64 w2) (bounds_i64 w3) ht).L fun e W' ⟨he,hbl⟩=> ?_
 subst he
 have hbelow:Below W.heap.size W W':=hbl
 have hlt4:∀x∈p4,x.block<W.heap.size:=fun x hx=>hW'.lt x (by simp[hx])
 have k4:=Below.trod Tryz.laidOut (by kernel_rfl) (of_decide_eq_true (by kernel_rfl)) h4k hbelow hlt4
 refine⟨_,rfl,_,_,_,[],[]++([]++([]++([]++(p4++[])))),[],hW', ?_, ?_, ?_,hbelow.frame _,fun h=>by cases h⟩
 ·exact trodAll_cons_mk (shut_bool underlying4 _) trodAll_mk0
 ·exact trodAll_cons_mk (shut_int underlying3 w0) (trodAll_cons_mk (shut_int underlying3 w1) (trodAll_cons_mk (shut_int underlying3 w2) (trodAll_cons_mk (shut_int underlying3 w3) (trodAll_cons_mk k4 trodAll_mk0))))
 ·rfl
theorem DT (os:Os) (started:os.Started) (H:Type) (enc:TypeId×Value→H):
 ReturnsInHanded {} Tryz.checked os 8 .any (Rows.soloSpec.pre6 enc prog Tryz.f8 Rows.soloRow.domain false) (Rows.soloSpec.post enc prog Tryz.f8 false true false false):=by
 refine returnsInHanded_of_change (C:=Tryz.checked) Tryz.gZ started (by kernel_rfl) func8
  (ChangeSpec.witness6 (enc:=enc) (C:=Tryz.checked) false ⟨#[],#[.int .i64 0,.int .i64 0,.int .i64 0,.int .i64 0,dk none 0 0],[]⟩ 8 (by kernel_rfl) (by kernel_rfl) (by kernel_rfl) (by kernel_rfl)) ?_
 intro W base args ds gs before hval hW _ _
 exact zX H enc W base args ds gs before hval hW
theorem solo_holds:Rows.SoloSaid:=
 OpenClaim.holds_of_wide 8 Tryz.f8 rfl rfl rfl rfl rfl rfl rfl ⟨rfl,rfl,rfl,rfl,rfl⟩ rfl rfl rfl rfl rfl (by kernel_rfl) func8 Tf
  (of_decide_eq_true (by kernel_rfl)) (by unfold Func.isWrapper;first|(rw[if_pos (by decide+kernel)];kernel_rfl)|(rw[if_neg (by decide+kernel)];exact⟨rfl,rfl⟩))
  (fun os started H enc _=>DT os started H enc)
#print axioms solo_holds
end Go.Proofs.YtbghhbpacijmmaaGreat
