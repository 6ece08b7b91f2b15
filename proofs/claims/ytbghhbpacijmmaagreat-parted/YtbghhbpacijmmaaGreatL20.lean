/-
  For every five numbers and every list of truth values the call of Parted returns true: of two clients that leave out each another one of a chain's two units, whatever voters each can reach, one comes through and the other is refused; what all calls tell can be told of one log; when all can talk with all, all calls end; and the numbers and the list read behind the call as they read before.
  Conditions: none.
-/
import Derived.Test.YtbghhbpacijmmaaGreatL18
import Derived.Test.YtbghhbpacijmmaaGreatL19
open Go.Proofs.Tryz
namespace Go.Proofs.YtbghhbpacijmmaaGreat
set_option maxRecDepth 99999
set_option maxHeartbeats 0
set_option linter.defProp false
open Go.ChangeShapes Go.WideShapes Go.ChangeAt Go.RowKit Go.WideElems Go.Deep
variable {v:Value}
def Tryz.ij:ownKnob prog.godebug=none:=iu
def Tryz.laidOut:laidOutB prog=true:=iu
def Tryz.S7:prog.cellsOf 4=1:=iu
section
variable{H:Type}{enc:TypeId×Value->H}{w:World}
theorem Ue{a:Addr}(h:w.cell? (a.add 0)=some v):∃b o,a=(U b o):=by
 obtain⟨b,o,j⟩:=a
 cases j with
 |none=>exact⟨b,o,rfl⟩
 |some s=>unfold World.cell? Addr.add at h;simp at h;split at h<;>simp_all
theorem FQ{b o:Nat}:∀n:Nat,(∀i,i<n->∃x,w.cell? (U b (o+i))=some (.bool x))->∃y:List Bool,y.length=n/\∀j,(h:j<y.length)->w.cell? (U b (o+j))=some (.bool y[j])
 |0,_=>⟨[],rfl,λj h=>mR h⟩
 |n+1,h=>by
  obtain⟨y,e,k⟩:=FQ n λi M=>h i C;obtain⟨x,F⟩:=h n C;refine⟨y++[x],mZ e,λj L=>?_⟩;rw[aO,dD]at L;by_cases A:j<y.length
  .rw[dI A];exact k j A
  have:j=n:=C;subst this;rw[List.getElem_append_right C];simp[F,e]
def JN{F:Nat}{x:DataW H×List MemPlace}(h:DataW.trod enc prog w 0 (λ_=>true) true F 76 [v]=some x):∃a c,∃P:List Bool,v=gK a P.length c/\Sl w v (P.map Value.bool):=by
 obtain⟨A,rfl⟩|⟨a,len,cap,m,n,D,Pl,A,_,hl,_,V,rfl,Q⟩:=open_slice underlying76 h
 .simp at A;subst A;exact⟨_,_,[],rfl,.inl ⟨_,_,rfl,rfl⟩⟩
 simp at A;subst A;simp at V;subst V;rw[Tryz.S7]at Q;by_cases h0:len=0
 .subst h0;exact⟨_,_,[],rfl,.inl ⟨_,_,rfl,rfl⟩⟩
 have ha:∃b o,a=(U b o):=by
  obtain⟨L,M,_⟩:=Q 0 C;obtain⟨_,W,Y⟩:=World.cells?_some M;have S:=Y 0 C;rw[ah C,Nat.zero_mul]at S;have e:(a.add 0).add 0=a.add 0:=by unfold Addr.add;split<;>simp_all
  rw[e]at S;exact Ue S
 obtain⟨b,o,rfl⟩:=ha;have T:b<w.heap.size:=by obtain⟨L,M,_⟩:=Q 0 C;have:=World.cells?_block M C;rwa[Nat.zero_mul,nW]at this
 obtain⟨P,e,k⟩:=FQ (w:=w) (b:=b) (o:=o) len λi hi=>by obtain⟨L,M,W⟩:=Q i C;obtain⟨_,Y,h5⟩:=World.cells?_some M;obtain⟨y,e,_⟩:=DataW.trod_bool underlying4 W;subst e;have Z:=h5 0 C;rw[nW,nW]at Z;exact⟨y,je Z⟩
 subst e;exact⟨_,_,P,rfl,.inr ⟨b,o,_,by rw[ay],T,λj hj=>by
  rw[ay]at hj
  rw[k j hj,dC]⟩⟩
end
def zh(H:Type)(enc:TypeId×Value->H)(W:World)(base:Nat)(A:Array Value)(ds gs:List (DataW H))(M:List MemPlace)(y:∀(j:Nat) t v,Tryz.f12.params[j]?=some t->A[j]?=some v->Value.okWide prog W .any base t v)(hW:DataW.Whole enc prog Tryz.f12.params.toList Rows.partedSpec.vars false W A.toList ds gs M):iU 12 A W λe W'=>∃v,e=gU v/\Rows.partedSpec.post enc prog Tryz.f12 false true false false W A v W':=by
 have Q:=hW;obtain⟨p,q,S,hV,rfl,a6,a7⟩:=hW;have hA:DataW.TrodAll enc prog W 0 (λ_=>true) true Tryz.f12.params.toList A.toList ds p:=S;rw[Tryz.params12]at hA y;obtain⟨v0,a8,d0,a9,p0,q0,P,rfl,rfl,h0,r0⟩:=trodAll_cons hA;obtain⟨v1,aa,d1,ab,p1,q1,rfl,rfl,rfl,h1,r1⟩:=trodAll_cons r0;obtain⟨v2,ac,d2,ad,p2,q2,rfl,rfl,rfl,h2,r2⟩:=trodAll_cons r1;obtain⟨v3,ag,d3,ai,p3,q3,rfl,rfl,rfl,h3,r3⟩:=trodAll_cons r2;obtain⟨v4,ak,d4,al,p4,q4,rfl,rfl,rfl,h4,r4⟩:=trodAll_cons r3;obtain⟨v5,am,d5,an,V,q5,rfl,rfl,rfl,h5,r5⟩:=trodAll_cons r4;obtain⟨rfl,rfl,rfl⟩:=trodAll_nil r5;obtain rfl:A=#[v0,v1,v2,v3,v4,v5]:=Array.toList_inj.1 P;obtain⟨rfl,rfl⟩:=trodVars_none hV;obtain⟨a0,rfl,rfl,rfl,w0⟩:=open_int underlying3 (y 0 3 _ rfl rfl) h0;obtain⟨a1,rfl,rfl,rfl,w1⟩:=open_int underlying3 (y 1 3 _ rfl rfl) h1;obtain⟨a2,rfl,rfl,rfl,w2⟩:=open_int underlying3 (y 2 3 _ rfl rfl) h2;obtain⟨a3,rfl,rfl,rfl,w3⟩:=open_int underlying3 (y 3 3 _ rfl rfl) h3;obtain⟨a4,rfl,rfl,rfl,w4⟩:=open_int underlying3 (y 4 3 _ rfl rfl) h4;have Y:=h5;obtain⟨s0,len,cap,rfl⟩:=okWide_slice underlying76 (y 5 76 _ rfl rfl);obtain⟨a5,hf⟩:=h5;clear S;obtain⟨a,cc,bs,e,hs⟩:=JN (x:=(d5,V)) hf;injection e with e1 e2 e3
 subst e1 e2 e3;refine(Mn a0 a1 a2 a3 a4 _ _ bs W (bounds_i64 w0) (bounds_i64 w1) (bounds_i64 w2) (bounds_i64 w3) (bounds_i64 w4) hs).L λe W'⟨he,Z⟩=>?_;subst he;have F:Below W.heap.size W W':=Z;have T:∀x∈V,x.block<W.heap.size:=λx hx=>Q.lt x (mZ hx);have k5:=Below.trod Tryz.laidOut iu (of_decide_eq_true iu) Y F T;refine⟨_,rfl,_,_,_,[],[]++([]++([]++([]++([]++(V++[]))))),[],Q,?_,?_,?_,F.frame _,λh=>by cases h⟩
 .exact trodAll_cons_mk (shut_bool underlying4 _) trodAll_mk0
 .exact trodAll_cons_mk (shut_int underlying3 w0) (trodAll_cons_mk (shut_int underlying3 w1) (trodAll_cons_mk (shut_int underlying3 w2) (trodAll_cons_mk (shut_int underlying3 w3) (trodAll_cons_mk (shut_int underlying3 w4) (trodAll_cons_mk k5 trodAll_mk0)))))
 rfl
def Bz(F:Os)(h:F.Started)(H:Type)(enc:TypeId×Value->H):ReturnsInHanded {} Tryz.checked F 12 .any (Rows.partedSpec.pre6 enc prog Tryz.f12 Rows.partedRow.domain false) (Rows.partedSpec.post enc prog Tryz.f12 false true false false):=by
 refine returnsInHanded_of_change (C:=Tryz.checked) Tryz.ij h iu func12
  (ChangeSpec.witness6 (enc:=enc) (C:=Tryz.checked) false ⟨#[],#[I 0,I 0,I 0,I 0,I 0,OO],[]⟩ 8 iu iu iu iu) ?_
 intro W base y ds L j A M _ _;exact zh H enc W base y ds L j A M
theorem parted_holds:Rows.PartedSaid:=
 OpenClaim.holds_of_wide 12 Tryz.f12 rfl rfl rfl rfl rfl rfl rfl ⟨rfl,rfl,rfl,rfl,rfl⟩ rfl rfl rfl rfl rfl iu func12 V0
  (of_decide_eq_true iu) (by unfold Func.isWrapper;first|(rw[aE (by decide+kernel)];kernel_rfl)|(rw[az (by decide+kernel)];exact⟨rfl,rfl⟩))
  (λj h H enc _=>Bz j h H enc)
#print axioms parted_holds
end Go.Proofs.YtbghhbpacijmmaaGreat
