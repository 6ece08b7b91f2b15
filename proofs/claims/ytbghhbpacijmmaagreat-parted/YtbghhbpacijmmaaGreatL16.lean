import Derived.Test.YtbghhbpacijmmaaGreatL14
import Derived.Test.YtbghhbpacijmmaaGreatL15
open Go.Proofs.Tryz
namespace Go.Proofs.YtbghhbpacijmmaaGreat
set_option maxRecDepth 99999
set_option maxHeartbeats 0
set_option linter.defProp false
variable {i k j n:Nat} {W W':Wd} {Y X X0 Z:Cx} {A:Ac} {S:Cf} {ls dn:List Le} {c:jn} {Q:Nat->Prop} {l:Le} {v us:List Int} {r r0:Rq} {b lt nr u:Int} {B:An} {f:Nat->Vo} {p:Prop} {s:VS}
structure U2(X0:Cx)(j:Nat)(p:Prop)(Y:Cx):Prop where
 s:(Y.n=X0.n/\Y.vo=X0.vo)/\Y.id=X0.id
 e:Y.b=0/\Y.lay=X0.lay
 bg:Y.mv.D=X0.mv.D
 sq:(Y.mv.a.A=X0.mv.a.A/\Y.mv.a.nodes=X0.mv.a.nodes)/\Y.mv.a.mi=false
 pr:Y.c.A=X0.c.A/\Y.c.nodes=X0.c.nodes
 sa:∃g:Nat->An,Y.mv.a.D=(List.range j).map λ(u:Nat)=>((u:Int),g u)
 vn:Y.mv.A.nodes=Y.kE
 vt:(Y.mv.A.A.kd=7/\Y.mv.A.mi=false/\(p->Y.jN=none))\/(Y.mv.A.A.kd=5/\Y.mv.A.mi=true/\Y.mv.A.D=[]/\Y.mv.A.A.pl=Y.mv.M/\j7 Y.mv.D<Y.mv.M/\Y.mv.M%100=Y.id-1000)
def td(h:Y.vo=X.vo):Y.kE=X.kE:=by unfold Cx.kE;rw[h]
theorem U2.ms(h:U2 X0 j p Y)(k:Ms Y Z):U2 X0 j False Z:=by refine⟨⟨⟨k.s.1.1.H h.s.1.1,k.s.2.1.H h.s.1.2⟩,k.s.2.2.H h.s.2⟩,⟨k.e.1.H h.e.1,k.e.2.H h.e.2⟩,by rw[k.mv];exact h.bg,by rw[k.mv];exact h.sq,⟨k.pr.1.1.H h.pr.1,k.pr.1.2.H h.pr.2⟩,by rw[k.mv];exact h.sa,by rw[k.mv,h.vn,td k.s.2.1],?_⟩;rw[k.mv,k.s.2.2];obtain⟨y,F,_⟩|v:=h.vt;all_goals grind
def Oe(gN:1000<=X.id/\X.id<=1099)(p:Int):p<X.jv p/\X.jv p%100=X.id-1000:=by unfold Cx.jv;omega
theorem U2.seal(F:Gd ls Y)(h:U2 X0 j p Y)(hj:(j:Int)∈X0.mv.a.nodes)(hp:X0.c.nodes≠[]->X0.c.A.nr<X0.mv.a.A.nr)(T:1<=X0.vo)(hB:B.wh=1):U2 X0 (j+1) True (Y.jJ j X0.mv.a.A.nr B):=by
 obtain⟨g,H⟩:=h.sa;have gN:1000<=Y.id/\Y.id<=1099:=by obtain⟨b,n,m,v,hX,_⟩:=F.x;exact hX.id
 have a0:Y.c.M X0.mv.a.A.nr (j:Int)=false:=by
  cases e:Y.c.M X0.mv.a.A.nr (j:Int)with
  |false=>rfl
  |true=>obtain⟨e1,e2,_⟩:=Qn.jL.1 e;rw[h.pr.1]at e1;rw[h.pr.2]at e2;have:=hp (bM e2);omega
 have aa:Y.mv.a.M X0.mv.a.A.nr (j:Int)=true:=by refine Qn.jL.2 ⟨by rw[h.sq.1.1],by rw[h.sq.1.2];exact hj,λz hz=>?_⟩;rw[H]at hz;obtain⟨u,hu,rfl⟩:=aD.1 hz;have:=di.1 hu;show(u:Int)≠j;omega
 have ai:Y.mv.A.nodes≠[]:=by rw[h.vn,td h.s.1.2];exact mI T
 unfold Cx.jJ;rw[a0,az bz,aE aa,az (qH hB)];obtain⟨Z,y⟩:=gG ({Y with mv:={Y.mv with a:=Y.mv.a.add (j:Int) B}}:Cx);rw[y];have ak:mB Z:=by rw[<-y];exact⟨F.p.n,F.p.m,F.p.e,F.p.t,F.p.l0,F.p.l1,F.p.c,F.p.pr,F.p.sl,F.p.mv,F.p.sn,F.p.a,F.p.va,F.p.bg,F.p.k6⟩
 have ab:∃g:Nat->An,Z.mv.a.D=(List.range (j+1)).map λ(u:Nat)=>((u:Int),g u):=by
  refine⟨λu=>if u=j then B else g u,?_⟩;rw[<-y];show Y.mv.a.D++[((j:Int),B)]=_;rw[H,dp,aZ];congr 1
  .refine bf λu hu=>?_;have:=di.1 hu;show((u:Int),g u)=((u:Int),if u=j then B else g u);rw[az C]
  simp
 have base:∀V:Cx,V.n=Y.n->V.vo=Y.vo->V.id=Y.id->V.b=Y.b->V.lay=Y.lay->V.mv.D=Y.mv.D->V.mv.a=Z.mv.a->V.c=Y.c->V.mv.A.nodes=V.kE->((V.mv.A.A.kd=7/\V.mv.A.mi=false/\(True->V.jN=none))\/(V.mv.A.A.kd=5/\V.mv.A.mi=true/\V.mv.A.D=[]/\V.mv.A.A.pl=V.mv.M/\j7 V.mv.D<V.mv.M/\V.mv.M%100=V.id-1000))->U2 X0 (j+1) True V:=λV a1 a2 a3 a4 a5 a6 a7 a8 a9 ac=>⟨⟨⟨a1.H h.s.1.1,a2.H h.s.1.2⟩,a3.H h.s.2⟩,⟨a4.H h.e.1,a5.H h.e.2⟩,a6.H h.bg,by rw[a7,<-y];exact h.sq,by rw[a8];exact h.pr,jf a7 ab,a9,ac⟩
 unfold Cx.ld;obtain⟨L,v2,v3⟩|⟨L,v2,v3,v4,v5,v6⟩:=h.vt
 .have ad:Z.mv.A.A.kd=7:=by rw[<-y];exact L
  rw[aE ad];unfold Cx.jS
  cases M:Z.jN with
  |none=>dsimp only;rw[<-y]at M|-;exact base _ rfl rfl rfl rfl rfl rfl (by rw[<-y]) rfl h.vn (.inl ⟨L,v2,λ_=>M⟩)
  |some v=>dsimp only;have hb:=Oe (X:=Z) (j9 y gN) (j7 Z.mv.D);refine base _ (by rw[<-y];rfl) (by rw[<-y];rfl) (by rw[<-y];rfl) (by rw[<-y];rfl) (by rw[<-y];rfl) (by rw[<-y];rfl) rfl (by rw[<-y];rfl) rfl (.inr ⟨rfl,rfl,rfl,rfl,hb.1,hb.2⟩)
 have P:Z.mv.A.A.kd=5:=by rw[<-y];exact L
 rw[az (qH P),aE P];have ag:Z.jB=Z:=by unfold Cx.jB;dsimp only;rw[aE];have:Z.mv.A.D=[]:=j9 y v3;rw[this];show 0<Z.mf;unfold Cx.mf;omega
 rw[ag];rw[<-y];exact base _ rfl rfl rfl rfl rfl rfl (by rw[<-y]) rfl h.vn (.inr ⟨L,v2,v3,v4,v5,v6⟩)
structure XH(X:Cx):Prop where
 e:X.b=0
 k:X.mv.A.A.kd=5
 n:X.mv.A.nodes=X.kE
 d:X.mv.A.mi=true
 a:X.mv.A.D=[]
 pl:X.mv.A.A.pl=X.mv.M
 sa:∀nr fr,X.mv.a.M nr fr=false
 su:∀j:Nat,j<X.n*2->(j:Int)∈X.jh
 b:j7 X.mv.D<X.mv.M/\X.mv.M%100=X.id-1000
def C9(n:Nat)(j:Nat)(h:j<n*2):(j:Int)∈kB (iR n 2):=by refine fq.2 ⟨_,aD.2 ⟨j/2,di.2 C,rfl⟩,aD.2 ⟨j%2,di.2 C,?_⟩⟩;omega
def IM(n:Nat)(u:Int)(h:u∈kB (iR n 2)):∃j:Nat,u=j/\j<n*2:=by obtain⟨ch,y,F⟩:=fq.1 h;obtain⟨k,H,rfl⟩:=aD.1 y;obtain⟨i,L,rfl⟩:=aD.1 F;have:=di.1 H;have:=di.1 L;exact⟨_,rfl,C⟩
theorem Yi(T:Wk W)(hu:Up W)(hp:rD W)(hm:W.iP=[])(hA:W.ac[i]?=some A)(h:Zh A.X)(a9:∀c∈A.X.a,c.q.nodes≠[]->c.q.A.nr≠A.X.mv.a.A.nr):XH (A.X.jE.D (W.D W.N (ja i)))/\(A.X.jE.D (W.D W.N (ja i))).mv.D=A.X.mv.D:=by
 have hi:=(aj.1 hA).1;have y:=hp.c i A hA;have hX:=(T.ac i A hA).x;have ag:A.X.vo=W.v:=hX.d.2.1;have V:A.X.n=W.n:=hX.d.1.1;have L:W.m=2:=by have:A.X.m=W.m:=hX.d.1.2;rw[<-this];exact y.m.1
 have a1:=y.l0 h.e;have g0:=xE T hu hp hA;rw[pj T hu hm hi,qN];have a2:((List.range W.v).flatMap λk=>W.lets (W.n*W.m+k) i)=[]:=by rw[List.flatMap_eq_nil_iff];intro k hk;exact BD T hm hA (di.1 hk) h.d
 rw[a2];show XH (A.X.jE.D ((List.range (W.n*W.m)).flatMap λj=>W.lets j i))/\(A.X.jE.D ((List.range (W.n*W.m)).flatMap λj=>W.lets j i)).mv.D=_;generalize aa:W.D W.N (ja i)=ls at g0;have F:=rM (λj=>W.lets j i) (λj Y=>Gd ls Y/\U2 A.X.jE j (0<j) Y) (W.n*W.m) (X:=A.X.jE) ⟨g0,⟨⟨⟨rfl,rfl⟩,rfl⟩,⟨h.e,rfl⟩,rfl,⟨⟨rfl,rfl⟩,rfl⟩,⟨rfl,rfl⟩,⟨λ_=>⟨0,0,0,no⟩,h.sa⟩,h.n,.inl ⟨h.k,rfl,λe=>absurd e C⟩⟩⟩ λj hj Y hY=>by
  have a3:(j:Int)∈A.X.mv.a.nodes:=by rw[h.sn,a1];exact C9 _ _ (by rw[V,<-L];exact hj)
  obtain⟨l1,B,hl,hB,ab⟩:=NO T hp hm hA hj h.sd a3 h.sa h.sr a9 h.sp;have a4:∀l∈W.lets j i,l∈ls:=λl M=>by rw[<-aa];exact Ee hu hm hi (by rw[T.pl];omega) M
  rw[hl,qN];obtain⟨g1,m1⟩:=zS (X:=Y) l1 hY.1 (Ms.refl Y) (by rw[hY.2.vn,td hY.2.s.1.2];exact mI y.m.2) λl M=>by
   obtain⟨nr,cQ,hk,a0⟩:=ab l M;refine⟨a4 l (by rw[hl];exact dG _ M),nr,cQ,hk,?_⟩
   cases e:Y.mv.a.M nr l.fr with
   |false=>rfl
   |true=>have:=(Qn.jL.1 e).1;rw[hY.2.sq.1.1]at this;exact absurd this.symm a0
  have g2:=g1.recv (l:=⟨j,ja i,.rep A.X.mv.a.A.nr B⟩) (a4 _ (om hl));have P:=(hY.2.ms m1).seal g1 a3 h.sp y.m.2 hB;refine⟨g2,?_⟩;exact⟨P.s,P.e,P.bg,P.sq,P.pr,P.sa,P.vn,by
   obtain⟨a,b,c⟩|a:=P.vt
   .exact .inl ⟨a,b,λ_=>c trivial⟩
   .exact .inr a⟩
 generalize A.X.jE.D ((List.range (W.n*W.m)).flatMap λj=>W.lets j i)=Z at F;obtain⟨hg,H⟩:=F;have ac:Z.n=W.n:=H.s.1.1.H V;obtain⟨g,a5⟩:=H.sa;have a6:∀j:Nat,j<Z.n*2->(j:Int)∈Z.jh:=λj hj=>by unfold Cx.jh;rw[a5,br];exact aD.2 ⟨j,di.2 (by rw[L,<-ac];exact hj),rfl⟩
 have a0:Z.mv.A.nodes≠[]:=by rw[H.vn,td H.s.1.2];exact mI y.m.2
 obtain⟨_,_,ad⟩|⟨v1,v2,v3,v4,v5,v6⟩:=H.vt
 .exfalso;have a7:0<W.n*W.m:=by rw[L];have:=T.n1;omega
  exact C0 hg.p H.e.1 (hg.p.mv a0).2.2.2.1 a6 (ad a7)
 refine⟨⟨H.e.1,v1,H.vn,v2,v3,v4,λnr fr=>?_,a6,v5,v6⟩,H.bg⟩
 cases e:Z.mv.a.M nr fr with
 |false=>rfl
 |true=>obtain⟨_,e2,e3⟩:=Qn.jL.1 e;rw[H.sq.1.2]at e2;have a8:fr∈A.X.mv.a.nodes:=e2;rw[h.sn,a1]at a8;obtain⟨j,rfl,hj⟩:=IM _ _ a8;exact absurd rfl (e3 ((j:Int),g j) (by rw[a5];exact aD.2 ⟨j,di.2 (by rw[L,<-V];exact hj),rfl⟩))
theorem UA(n:Nat)(h:∀j:Nat,j<n*2->(j:Int)∈us):oJ (lY (iR n 2) u) us=true:=by
 unfold oJ lY;rw[List.all_map,List.all_eq_true];intro ch y;obtain⟨k,F,rfl⟩:=aD.1 y;have F:=di.1 F;rw[Function.comp,cK];by_cases H:((k*2+0:Nat):Int)=u
 .refine⟨_,aU.2 ⟨aD.2 ⟨1,bz,rfl⟩,?_⟩,by simpa using h (k*2+1) C⟩
  grind
 refine⟨_,aU.2 ⟨aD.2 ⟨0,bz,rfl⟩,?_⟩,by simpa using h (k*2+0) C⟩
 grind
def WQ(y:1<=n/\n<=3)(h:VV n v):1<=v.length/\v.length<=255:=by have:n=1\/n=2\/n=3:=C;obtain e|e:=h<;>rw[e]<;>obtain e|e|e:=this<;>rw[e]<;>decide
theorem Sk(y:1<=X.n/\X.n<=3)(F:X.lay=iR X.n 2)(h:∀j:Nat,j<X.n*2->(j:Int)∈X.jh)(H:VV X.n v):X.sG v=true:=by
 obtain⟨u,L,rfl⟩:∃u,(u=0\/u=1)/\v=kB (lY (iR X.n 2) u):=by obtain e|e:=H;all_goals grind
 unfold Cx.sG;rw[F,(ye X.n y u L).1];exact UA X.n h
structure P3(r0:Rq)(f:Nat->Vo)(b:Int)(k:Nat)(Y:Cx):Prop where
 e:Y.b=0
 su:∀j:Nat,j<Y.n*2->(j:Int)∈Y.jh
 sa:∀nr fr,Y.mv.a.M nr fr=false
 vn:Y.mv.A.nodes=Y.kE
 bb:Y.mv.M=b
 vt:(Y.mv.A.A=r0/\Y.mv.A.mi=false/\(Y.mv.A.D=(List.range k).map λ(q:Nat)=>(100+(q:Int),f q))/\(kQ Y.mv.A.D).length<Y.mf/\r0.nr<=Y.gJ)\/(Y.mv.A.A.kd=6/\Y.mv.A.mi=true/\Y.mv.A.D=[]/\Y.mv.A.A.pl=b/\VV Y.n Y.mv.value/\r0.nr<Y.mv.A.A.nr)
theorem P3.step(hg:Gd ls Y)(h:P3 r0 f b k Y)(h5:r0.kd=5)(hk:k<Y.vo)(jt:lt<=1)(hv:0<(f k).ba->VV Y.n (f k).val):P3 r0 f b (k+1) (Y.kK (100+k) r0.nr lt (f k))/\(Y.kK (100+k) r0.nr lt (f k)).vo=Y.vo:=by
 have a3:Y.mv.A.nodes≠[]:=by rw[h.vn];exact mI hg.p.m.2
 obtain⟨m1,m2,m3,m4,m5⟩:=hg.p.mv a3;obtain⟨v1,v2,v3,v4,v5⟩|⟨v1,v2,v3,v4,v5,v6⟩:=h.vt
 .have a5:=AN (f:=f) (Z5 Rq.nr v1) h.vn v3 hk;obtain⟨⟨b1,_⟩,b3⟩:=hg.p.gR hg.t0 (λ_=>m4) jt;unfold Cx.kK;rw[aE a5];have hq:(Y.gR lt).mv=Y.mv/\(Y.gR lt).n=Y.n/\(Y.gR lt).vo=Y.vo/\(Y.gR lt).b=Y.b/\(Y.gR lt).lay=Y.lay/\(Y.gR lt).gJ=Y.gJ:=by obtain e|e:=b3 a3<;>rw[e]<;>exact⟨rfl,rfl,rfl,rfl,rfl,rfl⟩
  generalize Y.gR lt=Z at b1 hq;obtain⟨T,q3,q4,q5,q6,q7⟩:=hq;dsimp only;rw[aE (jf T a5)];have a6:Z.mv.A.A.kd=5:=by rw[T,v1];exact h5
  have a7:∀z∈Z.mv.A.D++[(100+(k:Int),f k)],0<z.2.ba->VV Z.n z.2.val:=λz hz=>by
   obtain hz|hz:=aT.1 hz
   .exact b1.va z hz
   rw[cw.1 hz,q3];exact hv
  rw[az (show¬(Z.mv.A.A.kd=7/\Z.mv.D≠[]) by rw[a6];omega),az (show¬(Z.mv.A.add (100+(k:Int)) (f k)).A.kd=7 by show¬Z.mv.A.A.kd=7;omega),aE (show(Z.mv.A.add (100+(k:Int)) (f k)).A.kd=5 from a6)];obtain⟨V,F⟩:=gG ({Z with mv:={Z.mv with A:=Z.mv.A.add (100+(k:Int)) (f k),D:=Z.mv.D}}:Cx);rw[F];have y:mB V:=by rw[<-F];exact⟨b1.n,b1.m,b1.e,b1.t,b1.l0,b1.l1,b1.c,b1.pr,b1.sl,b1.mv,b1.sn,b1.a,a7,b1.bg,b1.k6⟩
  have M:V.b=0:=by rw[<-F];exact q5.H h.e
  have al:V.n=Y.n:=j9 F q3;have H:V.vo=Y.vo:=j9 F q4;have am:V.mf=Y.mf:=by unfold Cx.mf;rw[H]
  have a8:V.mv.A.A=r0:=by rw[<-F];show Z.mv.A.A=r0;rw[T];exact v1
  have a9:V.mv.A.nodes=V.kE:=by rw[td H,<-F];show Z.mv.A.nodes=_;rw[T];exact h.vn
  have aa:V.mv.A.mi=false:=by rw[<-F];show Z.mv.A.mi=false;rw[T];exact v2
  have ab:V.mv.A.D=(List.range (k+1)).map λ(q:Nat)=>(100+(q:Int),f q):=by rw[<-F];show Z.mv.A.D++_=_;rw[T,v3,vP]
  have a0:V.mv.a=Y.mv.a:=by rw[<-F];show Z.mv.a=_;rw[T]
  have a4:V.mv.M=b:=by rw[<-F];show Z.mv.M=b;rw[T];exact h.bb
  have a1:V.gJ=Y.gJ:=j9 F q7;have ac:V.mv.A.nodes≠[]:=by rw[<-F];show Z.mv.A.nodes≠[];rw[T];exact a3
  have L:∀j:Nat,j<V.n*2->(j:Int)∈V.jh:=by
   have:V.jh=Y.jh:=by unfold Cx.jh;rw[a0]
   rw[this,al];exact h.su
  have a2:∀nr fr,V.mv.a.M nr fr=false:=by rw[a0];exact h.sa
  obtain⟨n1,n2,n3,n4,n5⟩:=y.mv ac;clear F a7 b1 b3;have ad:=y.l0 M;have ag:V.lG (kQ V.mv.A.D)=kQ V.mv.A.D:=by
   unfold Cx.lG;rw[eD];intro z hz;by_cases e0:0<z.2.ba
   .rw[Sk y.n ad L (y.va z (aU.1 hz).1 e0)];simp
   simp[e0]
  have ai:vw (jC (kQ V.mv.A.D)).1 (kQ V.mv.A.D)=kQ V.mv.A.D:=by unfold vw;rw[eD];intro z hz;simpa using A7 _ z hz
  unfold Cx.jB;dsimp only;rw[ag,ai];by_cases P:(kQ V.mv.A.D).length<V.mf
  .rw[aE P];exact⟨⟨M,L,a2,a9,a4,.inl ⟨a8,aa,ab,P,jf a1 v5⟩⟩,H⟩
  rw[az P];have ak:VV V.n (if(jC (kQ V.mv.A.D)).1=0 then V.jN.getD []else(jC (kQ V.mv.A.D)).2):=by
   split
   .cases hp:V.jN with
    |none=>exact absurd hp (C0 y M n4 L)
    |some v=>exact yH y M n4 hp
   rename_i h0;have hb:=Es (kQ V.mv.A.D) (0,[]);have ap:0<=(jC (kQ V.mv.A.D)).1:=hb;exact ti (λz hz=>y.va z (aU.1 hz).1) C
  exact⟨⟨M,L,a2,rfl,a4,.inr ⟨rfl,rfl,rfl,a4,ak,by show r0.nr<V.gJ+1;rw[a1];omega⟩⟩,H⟩
 have an:¬Y.mv.A.M r0.nr (100+(k:Int))=true:=λe=>by have:=(Qn.jL.1 e).1;omega
 unfold Cx.kK;rw[az an];exact⟨⟨h.e,h.su,h.sa,h.vn,h.bb,.inr ⟨v1,v2,v3,v4,v5,v6⟩⟩,rfl⟩
structure Zt(b:Int)(X:Cx):Prop where
 e:X.b=0
 k:X.mv.A.A.kd=6
 n:X.mv.A.nodes=X.kE
 d:X.mv.A.mi=true
 a:X.mv.A.D=[]
 pl:X.mv.A.A.pl=b
 v:VV X.n X.mv.value
 sa:∀nr fr,X.mv.a.M nr fr=false
def E4(H:Wk W)(L:W.iP=[])(M:W.ac[i]?=some A)(T:A.X.mv.A.mi=true)(V:A.X.mv.A.nodes=A.X.kE)(ha:A.X.mv.A.D=[]):∃f:Nat->Vo,∀k,k<W.v->∃P s' lt,W.pl[W.n*W.m+k]?=some P/\W.M (W.n*W.m+k) i P.part=.voter s'/\f k=(nL s' A.X.mv.A.A).1/\W.lets (W.n*W.m+k) i=[⟨100+k,ja i,.vot A.X.mv.A.A.nr lt (f k)⟩]:=by
 have:∀k,∃x:Vo,k<W.v->∃P s' lt,W.pl[W.n*W.m+k]?=some P/\W.M (W.n*W.m+k) i P.part=.voter s'/\x=(nL s' A.X.mv.A.A).1/\W.lets (W.n*W.m+k) i=[⟨100+k,ja i,.vot A.X.mv.A.A.nr lt x⟩]:=λk=>by
  by_cases y:k<W.v
  .obtain⟨P,s,s',hP,a0,F,hl⟩:=AJ H L M y T V ha;simp_all
  exact⟨⟨0,0,0,[]⟩,λh=>absurd h y⟩
 exact⟨λk=>(this k).choose,λk y=>(this k).choose_spec y⟩
def VF(M:Wk W)(hu:Up W)(hp:rD W)(hm:W.iP=[])(hA:W.ac[i]?=some A)(y:XH A.X)(a5:A.X.mv.A.A.nr<=A.X.gJ):Zt A.X.mv.M (A.X.jE.D (W.D W.N (ja i)))\/((A.X.jE.D (W.D W.N (ja i))).mv.A.mi=false/\¬∀k,k<W.v->∀P s',W.pl[W.n*W.m+k]?=some P->W.M (W.n*W.m+k) i P.part=.voter s'->(nL s' A.X.mv.A.A).1.wh=1):=by
 have hi:=(aj.1 hA).1;have a6:=hp.c i A hA;have hX:=(M.ac i A hA).x;have a7:A.X.vo=W.v:=hX.d.2.1;have hv:A.X.mv.A.nodes≠[]:=by rw[y.n];exact mI a6.m.2
 obtain⟨g0,h⟩:=Bn M hu hp hm hA hv y.sa;rw[pj M hu hm hi,qN];rw[pj M hu hm hi]at g0;generalize a8:((List.range (W.n*W.m)).flatMap λj=>W.lets j i)++((List.range W.v).flatMap λk=>W.lets (W.n*W.m+k) i)=ls at g0;generalize A.X.jE.D ((List.range (W.n*W.m)).flatMap λj=>W.lets j i)=T at g0 h;have a0:T.vo=W.v:=h.s.2.1.H a7;obtain⟨f,hf⟩:=E4 M hm hA y.d y.n y.a;have F:Gd ls (T.D ((List.range W.v).flatMap λk=>W.lets (W.n*W.m+k) i))/\P3 A.X.mv.A.A f A.X.mv.M W.v (T.D ((List.range W.v).flatMap λk=>W.lets (W.n*W.m+k) i))/\(T.D ((List.range W.v).flatMap λk=>W.lets (W.n*W.m+k) i)).vo=W.v:=by
  refine rM (λk=>W.lets (W.n*W.m+k) i) (λk Y=>Gd ls Y/\P3 A.X.mv.A.A f A.X.mv.M k Y/\Y.vo=W.v) W.v ⟨g0,⟨h.e.1.H y.e,?_,by rw[h.mv];exact y.sa,?_,by rw[h.mv];rfl,.inl ⟨by rw[h.mv];rfl,by rw[h.mv];rfl,by rw[h.mv];exact y.a,?_,bt a5 h.pr.2⟩⟩,a0⟩ λk hk Y V=>?_
  .have e1:T.jh=A.X.jh:=by unfold Cx.jh;rw[h.mv];rfl
   rw[e1,h.s.1.1];exact y.su
  .rw[h.mv,td h.s.2.1];exact y.n
  .rw[h.mv];show(kQ A.X.mv.A.D).length<_;rw[y.a];show 0<_;unfold Cx.mf;omega
  obtain⟨P,s',lt,L,H,a1,hl⟩:=hf k hk;have a2:(⟨100+k,ja i,.vot A.X.mv.A.A.nr lt (f k)⟩:Le)∈ls:=by rw[<-a8];refine cM _ (eB.2 ⟨k,di.2 hk,?_⟩);rw[hl];exact cw.2 rfl
  rw[hl];have a9:=V.1.recv a2;have a3:=V.1.k _ a2;obtain⟨p1,p2⟩:=V.2.1.step V.1 y.k (jf V.2.2 hk) a3.1 a3.2;exact⟨a9,p1,p2.H V.2.2⟩
 generalize T.D ((List.range W.v).flatMap λk=>W.lets (W.n*W.m+k) i)=Z at F;obtain⟨hg,L,aa⟩:=F;obtain⟨v1,v2,v3,v4,_⟩|⟨v1,v2,v3,v4,v5,v6⟩:=L.vt
 .right;refine⟨v2,λa4=>?_⟩;have hd:kQ Z.mv.A.D=Z.mv.A.D:=by unfold kQ;rw[eD];intro z hz;rw[v3]at hz;obtain⟨q,hq,rfl⟩:=aD.1 hz;have hq:=di.1 hq;obtain⟨P,s',lt,L,H,a1,_⟩:=hf q hq;rw[a1,a4 q hq P s' L H];rfl
  rw[hd,v3]at v4;simp only[ay,List.length_range]at v4;unfold Cx.mf at v4;rw[aa]at v4;have:=M.v1;omega
 exact .inl ⟨L.e,v1,L.vn,v2,v3,v4,v5,L.sa⟩
structure R4(r0:Rq)(f:Nat->Vo)(k:Nat)(Y:Cx):Prop where
 e:Y.b=0
 A:Y.mv.A.A=r0
 vn:Y.mv.A.nodes=Y.kE
 du:Y.mv.A.mi=false
 an:Y.mv.A.D=(List.range k).map λ(q:Nat)=>(100+(q:Int),f q)
 lo:k<Y.mf
 v:VV Y.n Y.mv.value
def R4.step(P:Gd ls Y)(h:R4 r0 f k Y)(h6:r0.kd=6)(hk:k<Y.vo)(jt:lt<=1)(hv:0<(f k).ba->VV Y.n (f k).val)(hf:∀q,q<=k->(f q).wh=1):(Y.kK (100+k) r0.nr lt (f k)).b=1\/(R4 r0 f (k+1) (Y.kK (100+k) r0.nr lt (f k))/\(Y.kK (100+k) r0.nr lt (f k)).vo=Y.vo):=by
 have T:Y.mv.A.nodes≠[]:=by rw[h.vn];exact mI P.p.m.2
 obtain⟨m1,m2,m3,m4,m5⟩:=P.p.mv T;have a0:=AN (f:=f) (Z5 Rq.nr h.A) h.vn h.an hk;obtain⟨⟨b1,_⟩,b3⟩:=P.p.gR P.t0 (λ_=>m4) jt;have a9:=P.A;unfold Cx.kK;rw[aE a0];have hq:(Y.gR lt).mv=Y.mv/\(Y.gR lt).n=Y.n/\(Y.gR lt).vo=Y.vo/\(Y.gR lt).b=Y.b/\(Y.gR lt).a=Y.a:=by obtain e|e:=b3 T<;>rw[e]<;>exact⟨rfl,rfl,rfl,rfl,rfl⟩
 generalize Y.gR lt=Z at b1 hq;obtain⟨M,q3,q4,q5,q6⟩:=hq;dsimp only;rw[aE (jf M a0)];have a1:Z.mv.A.A.kd=6:=by rw[M,h.A];exact h6
 have a2:∀z∈Z.mv.A.D++[(100+(k:Int),f k)],0<z.2.ba->VV Z.n z.2.val:=λz hz=>by
  obtain hz|hz:=aT.1 hz
  .exact b1.va z hz
  rw[cw.1 hz,q3];exact hv
 rw[az (show¬(Z.mv.A.A.kd=7/\Z.mv.D≠[]) by rw[a1];omega),az (show¬(Z.mv.A.add (100+(k:Int)) (f k)).A.kd=7 by show¬Z.mv.A.A.kd=7;omega),az (show¬(Z.mv.A.add (100+(k:Int)) (f k)).A.kd=5 by show¬Z.mv.A.A.kd=5;omega),aE (show(Z.mv.A.add (100+(k:Int)) (f k)).A.kd=6 from a1)];obtain⟨V,y⟩:=gG ({Z with mv:={Z.mv with A:=Z.mv.A.add (100+(k:Int)) (f k),D:=Z.mv.D}}:Cx);rw[y];have aa:mB V:=by rw[<-y];exact⟨b1.n,b1.m,b1.e,b1.t,b1.l0,b1.l1,b1.c,b1.pr,b1.sl,b1.mv,b1.sn,b1.a,a2,b1.bg,b1.k6⟩
 have a3:V.b=0:=by rw[<-y];exact q5.H h.e
 have ab:V.n=Y.n:=j9 y q3;have F:V.vo=Y.vo:=j9 y q4;have ac:V.mf=Y.mf:=by unfold Cx.mf;rw[F]
 have a4:V.mv.A.A=r0:=by rw[<-y];show Z.mv.A.A=r0;rw[M];exact h.A
 have a5:V.mv.A.nodes=V.kE:=by rw[td F,<-y];show Z.mv.A.nodes=_;rw[M];exact h.vn
 have a6:V.mv.A.mi=false:=by rw[<-y];show Z.mv.A.mi=false;rw[M];exact h.du
 have H:V.mv.A.D=(List.range (k+1)).map λ(q:Nat)=>(100+(q:Int),f q):=by rw[<-y];show Z.mv.A.D++_=_;rw[M,h.an,vP]
 have L:VV V.n V.mv.value:=by rw[ab,<-y];show VV Y.n Z.mv.value;rw[M];exact h.v
 have a7:V.mv.b=1:=by rw[<-y];show Z.mv.b=1;rw[M];exact m2
 have a8:V.a.length<=8:=by rw[<-y];show Z.a.length<=8;rw[q6];exact a9
 clear y a2 b1 b3;have hd:kQ V.mv.A.D=V.mv.A.D:=by unfold kQ;rw[eD];intro z hz;rw[H]at hz;obtain⟨q,hq,rfl⟩:=aD.1 hz;have:=di.1 hq;rw[hf q C];rfl
 unfold Cx.kx;rw[hd];by_cases hm:V.mf<=V.mv.A.D.length
 .rw[aE hm];exact .inl (xV aa a8 a3 a7 L)
 rw[az hm];rw[H,ay,List.length_range]at hm;exact .inr ⟨⟨a3,a4,a5,a6,H,C,L⟩,F⟩
def YO(M:Wk W)(hu:Up W)(hp:rD W)(hm:W.iP=[])(V:W.ac[i]?=some A)(y:Zt b A.X)(a0:∀k,k<W.v->∀P s',W.pl[W.n*W.m+k]?=some P->W.M (W.n*W.m+k) i P.part=.voter s'->(nL s' A.X.mv.A.A).1.wh=1):(A.X.jE.D (W.D W.N (ja i))).b=1:=by
 have hi:=(aj.1 V).1;have a5:=hp.c i A V;have hX:=(M.ac i A V).x;have a6:A.X.vo=W.v:=hX.d.2.1;have hv:A.X.mv.A.nodes≠[]:=by rw[y.n];exact mI a5.m.2
 obtain⟨g0,F⟩:=Bn M hu hp hm V hv y.sa;rw[pj M hu hm hi,qN];rw[pj M hu hm hi]at g0;generalize a7:((List.range (W.n*W.m)).flatMap λj=>W.lets j i)++((List.range W.v).flatMap λk=>W.lets (W.n*W.m+k) i)=ls at g0;generalize A.X.jE.D ((List.range (W.n*W.m)).flatMap λj=>W.lets j i)=T at g0 F;have a1:T.vo=W.v:=F.s.2.1.H a6;obtain⟨f,hf⟩:=E4 M hm V y.d y.n y.a;have a8:∀q,q<W.v->(f q).wh=1:=λq hq=>by obtain⟨P,s',lt,hP,L,a2,_⟩:=hf q hq;rw[a2];exact a0 q hq P s' hP L
 have h:Gd ls (T.D ((List.range W.v).flatMap λk=>W.lets (W.n*W.m+k) i))/\((T.D ((List.range W.v).flatMap λk=>W.lets (W.n*W.m+k) i)).b=1\/(R4 A.X.mv.A.A f W.v (T.D ((List.range W.v).flatMap λk=>W.lets (W.n*W.m+k) i))/\(T.D ((List.range W.v).flatMap λk=>W.lets (W.n*W.m+k) i)).vo=W.v)):=by
  refine rM (λk=>W.lets (W.n*W.m+k) i) (λk Y=>Gd ls Y/\(Y.b=1\/(R4 A.X.mv.A.A f k Y/\Y.vo=W.v))) W.v ⟨g0,.inr ⟨⟨F.e.1.H y.e,by rw[F.mv];rfl,by rw[F.mv,td F.s.2.1];exact y.n,by rw[F.mv];rfl,by rw[F.mv];exact y.a,by unfold Cx.mf;omega,by rw[F.mv,F.s.1.1];exact y.v⟩,a1⟩⟩ λk hk Y hY=>?_;obtain⟨P,s',lt,hP,L,a2,hl⟩:=hf k hk;have a3:(⟨100+k,ja i,.vot A.X.mv.A.A.nr lt (f k)⟩:Le)∈ls:=by rw[<-a7];refine cM _ (eB.2 ⟨k,di.2 hk,?_⟩);rw[hl];exact cw.2 rfl
  rw[hl];have a9:=hY.1.recv a3;have a4:=hY.1.k _ a3;refine⟨a9,?_⟩;show(Y.kK (100+(k:Int)) A.X.mv.A.A.nr lt (f k)).b=1\/(R4 A.X.mv.A.A f (k+1) (Y.kK (100+(k:Int)) A.X.mv.A.A.nr lt (f k))/\(Y.kK (100+(k:Int)) A.X.mv.A.A.nr lt (f k)).vo=W.v);obtain e|⟨hV,H⟩:=hY.2
  .left;rw[yc hY.1.p e];exact e
  rcases hV.step hY.1 y.k (jf H hk) a4.1 a4.2 (λq hq=>a8 q C)with e|⟨e1,e2⟩
  .exact .inl e
  exact .inr ⟨e1,e2.H H⟩
 generalize T.D ((List.range W.v).flatMap λk=>W.lets (W.n*W.m+k) i)=Z at h;obtain e|⟨hR,H⟩:=h.2
 .exact e
 exfalso;have:=hR.lo;unfold Cx.mf at this;rw[H]at this;have:=M.v1;omega
def Xu(h:r.kd=7\/r.pl<b)(s:VS)(y:(s.E 1).pr<b):((nL s r).2.E 1).pr<b:=by
 show((pM s.E r.kd r.ep r.pl r.ct.val).2 1).pr<b;unfold pM oh;repeat' split
 all_goals first|exact y|(show r.pl<b)|(dsimp only;split;(·show r.pl<b;obtain h|h:=h<;>omega);(·exact y))
def RU(h:r.kd=7\/r.pl<=b)(s:VS)(y:(s.E 1).pr<=b):((nL s r).2.E 1).pr<=b:=by
 show((pM s.E r.kd r.ep r.pl r.ct.val).2 1).pr<=b;unfold pM oh;repeat' split
 all_goals first|exact y|(show r.pl<=b)|(dsimp only;split;(·show r.pl<=b;obtain h|h:=h<;>omega);(·exact y))
theorem YT(y:r.kd=5)(F:r.ep=1)(H:1<=r.pl)(h:(s.E 1).pr<r.pl):(nL s r).1.wh=1:=by
 show(pM s.E r.kd r.ep r.pl r.ct.val).1.wh=1;unfold pM
 grind
theorem YS(y:r.kd=6)(F:r.ep=1)(H:1<=r.pl)(h:(s.E 1).pr<=r.pl)(L:1<=r.ct.val.length/\r.ct.val.length<=255):(nL s r).1.wh=1:=by
 show(pM s.E r.kd r.ep r.pl r.ct.val).1.wh=1;unfold pM
 grind
theorem Ie{fr:Int}{p:Pk}(h:mB Y)(y:Y.b=1)(F:Wz Y.n p):(Y.recv fr p).b=1:=by
 have L:∀e,e<=1->Y.gR e=Y:=λe M=>by unfold Cx.gR;rw[aE (.inl C)]
 unfold Cx.recv;split
 .rename_i nr A;have P:A.ep<=1:=F;unfold Cx.jJ;split
  .grind
  split
  .rename_i H;have:=(h.mv (h.sn (bM (Qn.jL.1 H).2.1))).1;omega
  split
  .exact y
  split
  .grind
  rw[(Ms.oe _ _ _).e.1];exact y
 .rw[yc h y];exact y
 exact y
theorem CQ:∀(ms:List Le) {Y:Cx},Gd ls Y->Y.b=1->(∀l∈ms,l∈ls)->(Y.D ms).b=1
 |[],_,_,h,_=>h
 |l::ms,_,y,h,F=>CQ ms (y.recv (F l (aN ..))) (Ie y.p h (y.k l (F l (aN ..)))) λx H=>F x (aX _ H)
def uN(y:Wk W)(F:Up W)(H:rD W)(L:W.ac[i]?=some A)(M:A.X.b=1):(A.X.jE.D (W.D W.N (ja i))).b=1:=
 CQ _ (xE y F H L) M λ_ h=>h
def Gt(Q:Nat->Prop)(W:Wd):Prop:=∃i A,Q i/\W.ac[i]?=some A/\A.X.b=1
def T1(Q:Nat->Prop)(W:Wd):Prop:=∀(i:Nat) (A:Ac),W.ac[i]?=some A->(Q i->Vp A.X)/\(¬Q i->A.X.b=1)
def T2(Q:Nat->Prop)(W:Wd):Prop:=∀(i:Nat) (A:Ac),W.ac[i]?=some A->(Q i->Zh A.X/\VP W λz=>z.pr<=j7 A.X.mv.D)/\(¬Q i->A.X.b=1)
def T3(Q:Nat->Prop)(W:Wd):Prop:=∀(i:Nat) (A:Ac),W.ac[i]?=some A->(Q i->XH A.X/\VP W λz=>z.pr<A.X.mv.M)/\(¬Q i->A.X.b=1)
def T4(Q:Nat->Prop)(W:Wd):Prop:=∃i0 A0 b,Q i0/\W.ac[i0]?=some A0/\Zt b A0.X/\1<=b/\(VP W λz=>z.pr<=b)/\∀(i:Nat) (A:Ac),W.ac[i]?=some A->A.X.mv.A.mi=true->A.X.mv.A.nodes≠[]->A.X.mv.A.A.kd=7\/A.X.mv.A.A.pl<=b
structure Rn(S:Cf)(Q:Nat->Prop)(W:Wd):Prop where
 f:Sf S W
 m:W.iP=[]
 l:W.ac.length<=2
 t:Gt Q W\/T1 Q W\/T2 Q W\/T3 Q W\/T4 Q W
theorem uE(h:rD W)(y:W.ac[i]?=some A)(F:A.X.b=1):A.X.mv.A.nodes=[]:=by
 cases e:A.X.mv.A.nodes with
 |nil=>rfl
 |cons x l=>have:=((h.c i A y).mv (by grind)).1;omega
def WU(y:Wk W)(F:Up W)(L:rD W)(h:Gt Q W):Gt Q W.step.step:=by obtain⟨i,A,M,H,P⟩:=h;exact⟨i,_,M,by rw[(KW y F).2.2 i,H];rfl,uN y F L H P⟩
def G4(h:Sf S W)(y:W.ac[i]?=some A):Ke A.X:=by obtain⟨K,F,H,_⟩:=h;exact H.nr i A y
theorem qK(h:Wk W)(y:Up W){B:Ac}(F:W.step.step.ac[i]?=some B):∃A,W.ac[i]?=some A/\B={A with X:=A.X.jE.D (W.D W.N (ja i))}:=by
 rw[(KW h y).2.2 i]at F
 grind
theorem XD(F:Wk W)(H:Up W)(L:rD W)(V:W.iP=[])(hf:Sf S W)(h:T1 Q W):Gt Q W.step.step\/T2 Q W.step.step:=by
 have h7:∀(i:Nat) A,W.ac[i]?=some A->A.X.mv.A.mi=true->A.X.mv.A.nodes≠[]->A.X.mv.A.A.kd=7:=λi A y _ M=>by
  by_cases e:Q i
  .exact((h i A y).1 e).k
  exact absurd (uE L y ((h i A y).2 e)) M
 by_cases hg:Gt Q W.step.step
 .grind
 right;intro i B P;obtain⟨A,y,rfl⟩:=qK F H P;refine⟨λe=>?_,λe=>uN F H L y ((h i A y).2 e)⟩;rcases Yy F H L V h7 y ((h i A y).1 e) (λM=>((G4 hf y).p M).1)with T|T
 .exact absurd ⟨i,_,e,P,T⟩ hg
 omega
def WH(H:Wk W)(L:Up W)(F:rD W)(hm:W.iP=[])(hf:Sf S W)(h:T2 Q W):T3 Q W.step.step:=by
 intro i B hB;obtain⟨A,y,rfl⟩:=qK H L hB;refine⟨λe=>?_,λe=>uN H L F y ((h i A y).2 e)⟩;obtain⟨M,hv⟩:=(h i A y).1 e;have T:A.X.mv.a.nodes≠[]:=by
  rw[M.sn,(F.c i A y).l0 M.e];have:A.X.n=1\/A.X.n=2\/A.X.n=3:=by have:=(F.c i A y).n;omega
  obtain e|e|e:=this<;>rw[e]<;>decide
 obtain⟨w1,w2⟩:=Yi H L F hm y M (((G4 hf y).s T).2);refine⟨w1,?_⟩;have hb:=w1.b.1;rw[w2]at hb;refine Jn H L hm (Q:=λz=>z.pr<(A.X.jE.D (W.D W.N (ja i))).mv.M) (λj P s hP hs=>?_) λk cQ V hd hn=>?_
 .have:=hv j P s hP hs;omega
 exfalso;by_cases e2:Q k
 .have:=((h k cQ V).1 e2).1.d;rw[this]at hd
  cases hd
 exact hn (uE F V ((h k cQ V).2 e2))
def Xc(M:Wk W)(hu:Up W)(hp:rD W)(hm:W.iP=[])(hf:Sf S W)(hl:W.ac.length<=2)(hq:∃i A,Q i/\W.ac[i]?=some A)(h:T3 Q W):T4 Q W.step.step:=by
 obtain⟨L,H,a2,F,T⟩:∃L H,Q L/\W.ac[L]?=some H/\∀(i:Nat) (A:Ac),W.ac[i]?=some A->Q i->i≠L->A.X.mv.M<H.X.mv.M:=by
  obtain⟨i,A,a3,y⟩:=hq;by_cases ho:∃k B,Q k/\W.ac[k]?=some B/\k≠i/\A.X.mv.M<=B.X.mv.M
  .obtain⟨k,B,a4,hB,a5,ag⟩:=ho;refine⟨k,B,a4,hB,λj cQ hC a6 hj=>?_⟩;have l1:=(aj.1 y).1;have l2:=(aj.1 hB).1;have l3:=(aj.1 hC).1;have:j=i:=C;subst this;rw[y]at hC
   cases hC;have b1:=((h j A y).1 a3).1.b.2;have b2:=((h k B hB).1 a4).1.b.2;have i1:A.X.id=ja j:=(M.ac j A y).x.d.2.2.2;have i2:B.X.id=ja k:=(M.ac k B hB).x.d.2.2.2;rw[i1]at b1;rw[i2]at b2;unfold ja at b1 b2;omega
  refine⟨i,A,a3,y,λj cQ hC a6 hj=>?_⟩;refine bk λe=>ho ⟨j,cQ,a6,hC,hj,C⟩
 obtain⟨V,hv⟩:=(h L H F).1 a2;have a0:∀{i:Nat} {A:Ac},W.ac[i]?=some A->XH A.X->A.X.mv.A.nodes≠[]:=fun{i A} y k=>by rw[k.n];exact mI (hp.c i A y).m.2
 have a7:∀{i:Nat} {A:Ac},W.ac[i]?=some A->XH A.X->A.X.mv.A.A.nr<=A.X.gJ:=fun{i A} y k=>((G4 hf y).v (a0 y k)).1;have a1:∀(i:Nat) (A:Ac),W.ac[i]?=some A->i≠L->A.X.mv.A.nodes≠[]->A.X.mv.A.A.kd=7\/A.X.mv.A.A.pl<H.X.mv.M:=λi A y a5 hn=>by
  by_cases e:Q i
  .right;rw[((h i A y).1 e).1.pl];exact T i A y e a5
  exact absurd (uE hp y ((h i A y).2 e)) hn
 have ab:H.X.mv.A.A.ep=1:=((hp.c L H F).mv (a0 F V)).2.2.2.2;have a8:1<=H.X.mv.M:=by have:=V.b.1;have h0:=(tQ H.X.mv.D 0).1;have ai:0<=j7 H.X.mv.D:=h0;omega
 have a9:∀k,k<W.v->∀P s',W.pl[W.n*W.m+k]?=some P->W.M (W.n*W.m+k) L P.part=.voter s'->(nL s' H.X.mv.A.A).1.wh=1:=λk hk P s' hP aa=>by have ac:=Jw M hm (Q:=λz=>z.pr<H.X.mv.M) (k:=k) (i:=L) (P:=P) (λs e=>hv _ P s hP e) λi' A' ak ad _ hn s hs=>Xu (a1 i' A' ad C hn) s hs;exact YT V.k ab (by rw[V.pl];exact a8) (by rw[V.pl];exact ac s' aa)
 have w0:=(VF M hu hp hm F V (a7 F V)).resolve_right λe=>e.2 a9;refine⟨L,_,H.X.mv.M,a2,by rw[(KW M hu).2.2 L,F];rfl,w0,a8,?_,λi B hB hd hn=>?_⟩
 .refine Jn M hu hm (Q:=λz=>z.pr<=H.X.mv.M) (λj P s hP hs=>by have h5:(s.E 1).pr<H.X.mv.M:=hv j P s hP hs;show(s.E 1).pr<=_;omega) λi A y _ hn s hs=>?_;refine RU ?_ s hs;by_cases e:i=L
  .subst e;rw[F]at y
   cases y;exact .inr (by rw[V.pl];exact iG)
  exact(a1 i A y e hn).imp (λx=>x) λx=>fZ x
 obtain⟨A,y,rfl⟩:=qK M hu hB;by_cases e:Q i
 .have k3:=((h i A y).1 e).1;obtain k4|k4:=VF M hu hp hm y k3 (a7 y k3)
  .right;show(A.X.jE.D (W.D W.N (ja i))).mv.A.A.pl<=_;rw[k4.pl];by_cases e0:i=L
   .subst e0;rw[F]at y
    cases y;exact iG
   exact fZ (T i A y e e0)
  have h9:(A.X.jE.D (W.D W.N (ja i))).mv.A.mi=true:=hd;rw[k4.1]at h9
  cases h9
 exfalso;refine hn ?_;have he:=uN M hu hp y ((h i A y).2 e);exact uE (DH M hu hp) hB he
def Wr(T:Wk W)(hu:Up W)(hp:rD W)(hm:W.iP=[])(h:T4 Q W):Gt Q W.step.step:=by
 obtain⟨V,A0,b,a0,F,H,a1,hv,L⟩:=h;have y:=hp.c V A0 F;have a2:A0.X.mv.A.nodes≠[]:=by rw[H.n];exact mI y.m.2
 refine⟨V,_,a0,by rw[(KW T hu).2.2 V,F];rfl,?_⟩;refine YO T hu hp hm F H λk hk P s' hP M=>?_;refine YS H.k (y.mv a2).2.2.2.2 (by rw[H.pl];exact a1) (by rw[H.pl];exact (Jw T hm (Q:=λz=>z.pr<=b) (λs e=>hv _ P s hP e) λi' A' a4 a3 hd hn s hs=>RU (L i' A' a3 hd hn) s hs) s' M) ?_;rw[(y.k6 H.k).2];exact WQ y.n H.v
def FI(l:List jn):((l.map λ(c:jn)=>{c with q:={c.q with mi:=true}}).filter λc=>c.kind==5).map (·.unit)=(l.filter λc=>c.kind==5).map (·.unit):=by rw[dZ,br];rfl
def mB.kG(h:mB X):mB X.kG/\X.kG.b=X.b/\X.kG.gT=X.gT/\(X.b=0->X.gT≠[]->Vp X.kG):=by
 obtain⟨Y,F⟩:=gG ({X with wl:=X.wb,A:=0,mv:=Mv.zero,a:=X.a.map λ(c:jn)=>{c with q:={c.q with mi:=true}}}:Cx);have a0:Y.gT=X.gT:=by rw[<-F];exact FI X.a
 have H:Y.b=X.b:=by rw[<-F]
 have y:mB Y:=by
  refine⟨by rw[<-F];exact h.n,by rw[<-F];exact h.m,by rw[H];exact h.e,by rw[<-F];exact(by decide:(0:Int)<=1),λe=>by rw[<-F];exact h.l0 (H▸e),λe=>by rw[<-F];exact h.l1 (H▸e),λc L=>?_,by rw[<-F];exact h.pr,by rw[<-F];exact(by decide:(0:Int)<=1/\(0:Int)≠4),λe=>absurd (by rw[<-F];rfl) e,λe=>absurd (by rw[<-F];rfl) e,λe e'=>?_,λz hz=>?_,λz hz=>?_,λe=>?_⟩
  .rw[H];rw[<-F]at L;obtain⟨d,M,rfl⟩:=aD.1 (show c∈X.a.map λ(c:jn)=>{c with q:={c.q with mi:=true}}from L);exact⟨(h.c d M).k,(h.c d M).r,(h.c d M).u⟩
  .obtain⟨p1,p2⟩:=h.a (a0▸e) (H▸e');rw[<-F];exact⟨by show X.a.map _=[];rw[p1];rfl,p2⟩
  .rw[<-F]at hz;exact absurd hz (by simp[Mv.zero,Qn.zero])
  .rw[<-F]at hz;exact absurd hz (by simp[Mv.zero])
  rw[<-F]at e;exact absurd (show(0:Int)=6 from e) bT
 have a3:Y.iX.length<Y.a.length->mB Y.jX:=λhw=>by
  have he:Y.b<=1:=by obtain e|e:=y.e<;>rw[e]<;>decide
  refine⟨y.n,y.m,y.e,y.t,y.l0,y.l1,y.c,⟨he,(by decide:(1:Int)≠4)⟩,y.sl,y.mv,y.sn,λe e'=>?_,y.va,y.bg,y.k6⟩;obtain⟨p1,_⟩:=y.a e e';rw[p1]at hw;exact absurd hw bz
 obtain⟨V,hV⟩:=gG ((if Y.iX.length<Y.a.length then Y.jX else Y):Cx);have P:mB V:=by
  rw[<-hV];split
  .rename_i e;exact a3 e
  exact y
 have T:V.gT=X.gT:=by rw[<-hV,<-a0];split<;>rfl
 have a1:V.b=X.b:=by rw[<-hV,<-H];split<;>rfl
 have ht:X.kG=if V.iJ then V.iB else V:=by rw[<-hV,<-F];rfl
 rw[ht];by_cases L:V.iJ=true
 .rw[aE L];have a2:V.gT≠[]:=by unfold Cx.iJ at L;simpa using L
  have he:V.b=0:=by obtain⟨a4,ho⟩:=List.exists_mem_of_ne_nil _ a2;obtain⟨d,M,rfl⟩:=aD.1 ho;obtain⟨M,hk⟩:=aU.1 M;exact((P.c d M).u (je hk)).1
  obtain⟨s1,_,_,s4,s5,s6,s7,s8,s9⟩:=P.iB he a2;exact⟨s1,a1,T,λ_ _=>⟨he,s4,s5,rfl,s8,by rw[s6];rfl,s7⟩⟩
 rw[az L];refine⟨P,a1,T,λ_ hn=>?_⟩;exfalso;apply L;unfold Cx.iJ;rw[T];simpa using hn
theorem mB.jK(h:mB X)(H:X.a.Pairwise λc d=>c.gL<d.gL)(hk:k∈X.iX)(t:Int):mB (X.jK k t)/\Ms X (X.jK k t)/\(X.jK k t).gT=X.gT:=by
 unfold Cx.jK
 cases hf:X.a.find? λc=>c.gL==k with
 |none=>exact⟨h,Ms.refl X,rfl⟩
 |some c=>
  have F:=bu hf;have a1:c.gL=k:=by simpa using cR hf
  have h1:c.kind=1:=by
   obtain⟨d,T,e⟩:=aD.1 hk;obtain⟨T,hw⟩:=aU.1 T;have:d=c:=by
    have hu:∀{l:List jn},l.Pairwise (λc d=>c.gL<d.gL)->∀x∈l,∀y∈l,x.gL=y.gL->x=y:=fun{l}=>by
     induction l with
     |nil=>intro _ x hx;simp at hx
     |cons a l ih=>
      intro hp x hx y hy e;obtain⟨L,V⟩:=cI.1 hp;obtain hx|hx:=bh.1 hx<;>obtain hy|hy:=bh.1 hy
      .rw[hx,hy]
      .have:=L y hy;rw[hx]at e;omega
      .have:=L x hx;rw[hy]at e;omega
      exact ih V x hx y hy e
    exact hu H d T c F (e.H a1.symm)
   subst this;unfold Cx.lD at hw;simp only[bL,ZT]at hw;exact hw.1
  have h5:c.kind≠5:=C;have he:X.b<=1:=by obtain e|e:=h.e<;>rw[e]<;>decide
  dsimp only;split
  .unfold Cx.dO;rw[aE h1];have a2:∀(c':jn) (nodes:List Int) (pl:Int) (M:Ct),c'.gL=c.gL->c'.kind=c.kind->c'.unit=c.unit->mB ((X.put {c with iA:=t}).mK c' nodes 2 pl M)/\Ms X ((X.put {c with iA:=t}).mK c' nodes 2 pl M)/\((X.put {c with iA:=t}).mK c' nodes 2 pl M).gT=X.gT:=λc' nodes pl M e1 P e3=>by have L:=h.put (a:=X.gJ) (c':={c with iA:=t}) H F rfl rfl rfl ⟨(h.c c F).k,(h.c c F).r,(h.c c F).u⟩;have a0:({c with iA:=t}:jn)∈(X.put {c with iA:=t}).a:=vx F rfl;have V:=mB.put (X:=X.put {c with iA:=t}) (a:=X.gJ+1) (c':={c' with q:=Qn.new nodes ⟨2,c'.a,X.gJ+1,X.b,pl,M⟩}) L (EK H _) a0 e1 P e3 ⟨by show c'.kind=1\/_;rw[P];exact .inl h1,⟨(by decide:(2:Int)≠4),he⟩,λe=>absurd (P.symm.H e) h5⟩;refine⟨V,⟨⟨⟨rfl,rfl⟩,rfl,rfl⟩,⟨rfl,rfl⟩,rfl,rfl,⟨rfl,rfl⟩,by show X.gJ<=X.gJ+1;omega⟩,?_⟩;have c1:=nD (X:=X) (c':={c with iA:=t}) H F rfl rfl rfl;have c2:=nD (X:={X.put {c with iA:=t}with gJ:=X.gJ+1}) (c':={c' with q:=Qn.new nodes ⟨2,c'.a,X.gJ+1,X.b,pl,M⟩}) (EK H _) a0 e1 P e3;exact c2.H c1
   exact a2 _ _ _ _ rfl rfl rfl
  refine⟨h.fin F h5 H _ c rfl,⟨⟨⟨rfl,rfl⟩,rfl,rfl⟩,⟨rfl,rfl⟩,rfl,rfl,⟨rfl,rfl⟩,iG⟩,?_⟩;unfold Cx.gT;show((X.a.filter λd=>d.gL !=c.gL).filter λc=>c.kind==5).map (·.unit)=_;congr 1;rw[List.filter_filter];refine dH λd T=>?_;by_cases e:d.kind=5
  .have:d.gL≠c.gL:=λP=>by
    have hu:∀{l:List jn},l.Pairwise (λc d=>c.gL<d.gL)->∀x∈l,∀y∈l,x.gL=y.gL->x=y:=fun{l}=>by
     induction l with
     |nil=>intro _ x hx;simp at hx
     |cons a l ih=>
      intro hp x hx y hy e;obtain⟨L,V⟩:=cI.1 hp;obtain hx|hx:=bh.1 hx<;>obtain hy|hy:=bh.1 hy
      .rw[hx,hy]
      .have:=L y hy;rw[hx]at e;omega
      .have:=L x hx;rw[hy]at e;omega
      exact ih V x hx y hy e
    rw[hu H d T c F P]at e;omega
   simp[this]
  simp[e]
def Vp.ms(h:Vp X)(k:Ms X Y):Vp Y:=⟨k.e.1.H h.e,by rw[k.mv];exact h.k,by rw[k.mv,td k.s.2.1];exact h.n,by rw[k.mv];exact h.d,by rw[k.mv];exact h.a,by rw[k.mv];exact h.s,by rw[k.mv];exact h.b⟩
theorem Rn.KW(y:Wk W)(F:Up W)(H:rD W)(P:∃i A,Q i/\W.ac[i]?=some A)(h:Rn S Q W):Rn S Q W.step.step:=by
 have L:=mN y;have M:=mN L.1;refine⟨(h.f.step y).step L.1,by rw[M.2.1.ms,L.2.1.ms];exact h.m,by rw[M.2.1.ac,L.2.1.ac];exact h.l,?_⟩;obtain t|t|t|t|t:=h.t
 .exact .inl (WU y F H t)
 .obtain k|k:=XD y F H h.m h.f t;all_goals grind
 .exact .inr (.inr (.inr (.inl (WH y F H h.m h.f t))))
 .exact .inr (.inr (.inr (.inr (Xc y F H h.m h.f h.l P t))))
 exact .inl (Wr y F H h.m t)
def wL{α:Type}{q:Qn α}{x:Int}(F:q.mi=true)(h:x∈q.nodes)(y:q.D=[]):q.iH≠[]:=λe=>by unfold Qn.iH at e;have:x∈q.nodes.filter λnd=> !q.T nd:=aU.2 ⟨h,by unfold Qn.T;rw[y];rfl⟩;simp_all
def Rn.ends(M:rD W)(hq:∃i A,Q i/\W.ac[i]?=some A)(h:Rn S Q W)(ho:∀(i:Nat) (A:Ac),W.ac[i]?=some A->A.X.iH=[]):Gt Q W:=by
 obtain⟨i,A,T,y⟩:=hq;have F:=ho i A y;have H:∀X:Cx,1<=X.vo->_∈X.kE:=λX h=>aD.2 ⟨0,di.2 ‹_›,rfl⟩;have L:∀{A:Ac},A.X.iH=[]->A.X.mv.A.iH=[]:=fun{A} e=>by unfold Cx.iH at e;simp_all
 have V:∀{A:Ac},A.X.iH=[]->A.X.mv.a.iH=[]:=fun{A} e=>by unfold Cx.iH at e;simp_all
 obtain t|t|t|t|t:=h.t
 .omega
 .exfalso;have k:=(t i A y).1 T;exact wL k.d (by rw[k.n];exact H _ (M.c i A y).m.2) k.a (L F)
 .exfalso;have k:=((t i A y).1 T).1;refine wL (x:=0) k.sd ?_ k.sa (V F);rw[k.sn,(M.c i A y).l0 k.e];have:=(M.c i A y).n;exact C9 _ 0 C
 .exfalso;have k:=((t i A y).1 T).1;exact wL k.d (by rw[k.n];exact H _ (M.c i A y).m.2) k.a (L F)
 exfalso;obtain⟨i0,A0,b,_,P,k,_⟩:=t;exact wL k.d (by rw[k.n];exact H _ (M.c i0 A0 P).m.2) k.a (L (ho i0 A0 P))
theorem WT(h:X.a.length<=8):X.R<=100:=by
 have y:=VL X;have F:=Km X.a;unfold Cx.R
 grind
def Ak(R:Wd->Prop)(F:∀W,Wk W->Up W->rD W->R W->R W.step.step)(h:∀W,Wk W->Up W->rD W->R W->W.mV=[]->R W.step)(y:Wk W)(H:Up W)(L:rD W)(M:R W):(W.lj 300).2=true/\Wk (W.lj 300).1/\Up (W.lj 300).1/\rD (W.lj 300).1/\R (W.lj 300).1/\oI W (W.lj 300).1/\∀(i:Nat) (A:Ac),(W.lj 300).1.ac[i]?=some A->A.X.iH=[]:=
 CF R F h 101 300 y H L M (λi A P=>.inr (gM (WT (y.ac i A P).x.pl))) bz
theorem Ts(V:Wk W)(hu:Up W)(hp:rD W)(hf:Sf S W)(hm:W.iP=[])(hl:W.ac.length<=2)(hq:∃i A,Q i/\W.ac[i]?=some A)(ht:T1 Q W):Gt Q (W.lj 300).1:=by
 have y:∀W':Wd,W.ac.length=W'.ac.length->∃i A,Q i/\W'.ac[i]?=some A:=λW' e=>by grind
 obtain⟨_,_,_,e4,⟨e5,L⟩,e6,e7⟩:=Ak (λW'=>Rn S Q W'/\W.ac.length=W'.ac.length) (λW' F H M h=>⟨h.1.KW F H M (y W' h.2),by rw[(px _).ac,(px _).ac];exact h.2⟩) (λW' F H M h ho=>by
  have P:=mN F
  refine⟨⟨h.1.f.step F,by rw[P.2.1.ms];exact h.1.m,by rw[P.2.1.ac];exact h.1.l,?_⟩,by rw[P.2.1.ac];exact h.2⟩
  have hg:=h.1.ends M (y W' h.2) λi A T=>by
   have:W'.uk i=[]:=by exact List.flatMap_eq_nil_iff.1 ho i (di.2 ((aj.1 T).1))
   unfold Wd.uk at this
   rw[T]at this
   dsimp only at this
   rw[aE (H.a A (aR T)),List.map_eq_nil_iff]at this
   omega
  obtain⟨i,A,g1,g2,g3⟩:=hg
  left
  exact⟨i,{A with X:=A.X.jE},g1,by rw[(nt F H).2 i,g2];rfl,g3⟩) V hu hp ⟨⟨hf,hm,hl,.inr (.inl ht)⟩,rfl⟩
 exact e5.ends e4 (y _ L) e7
def Q5(L:Wk W)(M:Up W)(P:rD W)(T:W.ac[i]?=some A)(V:A.X.b=1):∃B,(W.lj 300).1.ac[i]?=some B/\B.X.b=1:=by have:=(Ak (λW'=>∃B,W'.ac[i]?=some B/\B.X.b=1) (λW' h y h3⟨B,F,H⟩=>⟨_,by rw[(KW h y).2.2 i,F];rfl,uN h y h3 F H⟩) (λW' h y _⟨B,F,H⟩ _=>⟨{B with X:=B.X.jE},by rw[(nt h y).2 i,F];rfl,H⟩) L M P ⟨A,T,V⟩).2.2.2.2.1;omega
structure Aq(W:Wd)(E:Int)(c:jn):Prop where
 k:c.q.A.kd=2\/c.q.A.kd=3
 e:c.q.A.ep=E
 n:∀u∈c.q.nodes,∃j:Nat,u=j/\j<W.n*W.m/\Lk W.n W.ce ((j/W.m:Nat):Int) c.q.A.pl
 c2:c.q.A.kd=2->tE c.q.A.ct.kd c.q.A.ct.val.length=true/\∃u,c.q.nodes=[u]
theorem AT(hW:Wk W)(hp:rD W)(hf:Sf S W)(P:W.ac[i]?=some A)(T:c∈A.X.a)(y:c.q.nodes≠[]):Aq W A.X.b c:=by
 obtain⟨K,F,V,_⟩:=hf;obtain⟨⟨s1,s2⟩,s3,s4⟩:=V.s;have hX:=(hW.ac i A P).x;have H:=hX.f c T;have hk:=((hp.c i A P).c c T).r.1;have L:=(V.cl i A P).1;have h:=L.f c T trivial;have hE:K.In A.X.b:=L.b.e;have c1:A.X.n=W.n:=hX.d.1.1;have c2:A.X.m=W.m:=hX.d.1.2;have M:∀a:Int,Ok S a->c.q.A.pl=a->(∀u∈c.q.nodes,u∈K.C S A.X.b a)->∀u∈c.q.nodes,∃j:Nat,u=j/\j<W.n*W.m/\Lk W.n W.ce ((j/W.m:Nat):Int) c.q.A.pl:=λa ho a1 a0 u hu=>by
  obtain⟨u0,u1⟩:=H.q.id u hu;rw[c1,c2]at u1;refine⟨u.toNat,C,?_,?_⟩
  .omega
  have h1:=V.k.toKv.T hE (a0 u hu) ho.1 ho.2
  grind
 obtain k|k:=h.qk y
 .have w:=h.q2 y k;obtain⟨u,l1,l2,g1,_,g3,_⟩:=w.kY;refine⟨.inl k,h.ep y,M c.iA w.ok w.pl λx hx=>?_,λ_=>⟨?_,u,g3⟩⟩
  .grind
  rw[w.ct,<-w.co];exact(H.c2 k).1
 have w:=h.q3 y k;refine⟨.inr k,h.ep y,M c.iA (h.oa w.kd) w.pl λx hx=>?_,λe=>absurd (k.symm.H e) bT⟩;rwa[w.nd]at hx
theorem PT{ch E:Int}{s:St}(y:oE W.n W.m W.v W.ce=true)(h:Aq W E c)(L:s.ep<=1/\s.mark<=0)(M:Lk W.n W.ce ch c.q.A.pl):(E=1->(mh W.n W.m W.v W.ce ch s c.q.A).1.wh≠5)/\(c.q.A.kd=2->(mh W.n W.m W.v W.ce ch s c.q.A).1.wh=5\/(mh W.n W.m W.v W.ce ch s c.q.A).1.wh=1\/(mh W.n W.m W.v W.ce ch s c.q.A).1.wh=2):=by
 have P:=zy (mk:=s.mark) (ct:=s.ct) y M L.2;have F:(mw W.n W.m W.v W.ce ch s.mark s.ct c.q.A.pl).1=3\/(mw W.n W.m W.v W.ce ch s.mark s.ct c.q.A.pl).1=2:=by grind
 by_cases H:c.q.A.ep<s.ep
 .unfold mh;refine⟨λe=>by have:=h.e;omega,λk=>.inl ?_⟩;rw[k,az bT,aE rfl];unfold oP;rw[aE H];rfl
 unfold mh;obtain k|k:=h.k
 .rw[k,az bT,aE rfl];unfold oP;rw[az H,az (by rw[(h.c2 k).1];decide)];obtain e|e:=F
  .rw[aE e];exact⟨λ_=>(by decide:(1:Int)≠5),λ_=>.inr (.inl rfl)⟩
  rw[az (qH e)];refine⟨λ_=>?_,λ_=>.inr (.inr e)⟩;show(mw W.n W.m W.v W.ce ch s.mark s.ct c.q.A.pl).1≠5;rw[e];decide
 rw[k,az bT,az bT];unfold qn;rw[az H];refine⟨λ_=>?_,λe=>absurd e bT⟩;show(mw W.n W.m W.v W.ce ch s.mark s.ct c.q.A.pl).1≠5;omega
def Un(c:jn):Prop:=(c.q.A.kd=2->c.q.D=[])/\(c.q.A.kd=3->c.q.D.length<c.q.nodes.length)
def YU(X0:Cx)(dn:List Le)(c:jn):Prop:=c.q.nodes≠[]->Un c/\((c.q.mi=true/\X0.gJ<c.q.A.nr)\/∃c0∈X0.a,c0.q.nodes≠[]/\c.q.A=c0.q.A/\c.q.nodes=c0.q.nodes/\(∀z∈c0.q.D,z∈c.q.D)/\∀l∈dn,∀B,l.pk=.rep c.q.A.nr B->B.wh≠5->∃z∈c.q.D,z.1=l.fr)
structure Ck(X0:Cx)(dn:List Le)(Y:Cx):Prop where
 a:X0.gJ<=Y.gJ
 p:Y.c.A=X0.c.A/\Y.c.nodes=X0.c.nodes
 s:Y.mv.a.nodes≠[]->X0.gJ<Y.mv.a.A.nr\/(X0.mv.a.nodes≠[]/\Y.mv.a.A.nr=X0.mv.a.A.nr)
 c:∀c∈Y.a,YU X0 dn c
def Ck.put(h:Ck X0 dn Y)(F:YU X0 dn c):Ck X0 dn (Y.put c):=⟨h.a,h.p,h.s,λd y=>by
 obtain rfl|⟨y,_⟩:=jV y
 .omega
 .exact h.c d y⟩
def Ck.mK(h:Ck X0 dn Y)(nodes:List Int)(kd pl:Int)(t:Ct):Ck X0 dn (Y.mK c nodes kd pl t):=by have F:=h.a;exact Ck.put ⟨by show X0.gJ<=Y.gJ+1;omega,h.p,h.s,h.c⟩ λy=>⟨⟨λ_=>rfl,λ_=> (cU.2 y)⟩,.inl ⟨rfl,by show X0.gJ<Y.gJ+1;omega⟩⟩
def Ck.fin(h:Ck X0 dn Y)(r:Rz):Ck X0 dn (Y.fin c r):=⟨h.a,h.p,h.s,λd y=>h.c d (aU.1 (show d∈Y.a.filter λd=>d.gL !=c.gL from y)).1⟩
def Ck.kA(h:Ck X0 dn Y):Ck X0 dn (Y.kA c):=by
 unfold Cx.kA Cx.ku Cx.dO;repeat' split
 all_goals first|exact h.fin _|exact h|exact h.mK ..
theorem Ck.yz:∀(l:List jn) {Y:Cx},Ck X0 dn Y->Ck X0 dn (l.foldl Cx.kA Y)
 |[],_,h=>h
 |_::l,_,h=>Ck.yz l h.kA
def Ck.kE(h:Ck X0 dn Y)(kd pl:Int)(val:List Int):Ck X0 dn (Y.kh kd pl val):=⟨by have:=h.a;show X0.gJ<=Y.gJ+1;omega,h.p,h.s,h.c⟩
def Ck.iB(h:Ck X0 dn Y):Ck X0 dn Y.iB:=by refine Ck.kE ?_ _ _ _;exact⟨h.a,h.p,λe=>absurd rfl e,h.c⟩
def Ck.gR(h:Ck X0 dn Y)(e:Int):Ck X0 dn (Y.gR e):=by
 unfold Cx.gR;repeat' split
 .omega
 .exact Ck.iB ⟨h.a,h.p,h.s,h.c⟩
 exact⟨h.a,h.p,h.s,h.c⟩
def Ck.jS(h:Ck X0 dn Y):Ck X0 dn Y.jS:=by
 unfold Cx.jS;split
 .omega
 refine Ck.kE ?_ _ _ _;exact⟨h.a,h.p,h.s,h.c⟩
def Ck.jM(h:Ck X0 dn Y):Ck X0 dn Y.jM:=by
 have:=h.a;unfold Cx.jM;split
 .exact⟨h.a,h.p,h.s,h.c⟩
 refine Ck.jS ?_;split
 .exact⟨h.a,h.p,h.s,h.c⟩
 exact⟨by show X0.gJ<=Y.gJ+1;omega,h.p,λ_=>.inl (by show X0.gJ<Y.gJ+1;omega),h.c⟩
def Ck.kX(h:Ck X0 dn Y)(v:List Int):Ck X0 dn (Y.kX v):=by
 unfold Cx.kX;split
 .exact⟨h.a,h.p,λe=>absurd rfl e,h.c⟩
 dsimp only;rename_i l _;have:=Ck.yz Y.a (Y:={Y with b:=Y.mv.b,lay:=l,mv:=Mv.zero,wb:=false,wl:=false}) ⟨h.a,h.p,λe=>absurd rfl e,h.c⟩;split
 .exact this.iB
 omega
def Ck.jB(h:Ck X0 dn Y):Ck X0 dn Y.jB:=by
 unfold Cx.jB;dsimp only;split
 .omega
 refine Ck.kE ?_ _ _ _;exact⟨h.a,h.p,h.s,h.c⟩
def Ck.kx(h:Ck X0 dn Y):Ck X0 dn Y.kx:=by
 unfold Cx.kx;split
 .exact h.kX _
 omega
def Ck.kr(h:Ck X0 dn Y):Ck X0 dn Y.kr:=by
 unfold Cx.kr;dsimp only;repeat' split
 all_goals first|exact h.kX _|exact h.jM|exact h
def Ck.ld(h:Ck X0 dn Y):Ck X0 dn Y.ld:=by
 unfold Cx.ld;repeat' split
 all_goals first|exact h.jS|exact h.jB|exact h
def Ck.kK(h:Ck X0 dn Y)(fr nr lt:Int)(v:Vo):Ck X0 dn (Y.kK fr nr lt v):=by
 unfold Cx.kK;split
 .dsimp only;have y:=h.gR lt;split
  .have F:∀B,Ck X0 dn {Y.gR lt with mv:={(Y.gR lt).mv with A:=(Y.gR lt).mv.A.add fr v,D:=B}}:=λB=>⟨y.a,y.p,y.s,y.c⟩;generalize (if(Y.gR lt).mv.A.A.kd=7/\(Y.gR lt).mv.D≠[]then(Y.gR lt).mv.A.D++[_]else(Y.gR lt).mv.D)=B;repeat' split
   all_goals first|exact(F B).kr|exact(F B).jB|exact(F B).kx|exact F B
  exact y
 exact h
theorem Ck.more(h:Ck X0 dn Y)(L:∀c∈Y.a,c.q.nodes≠[]->c.q.A.nr<=X0.gJ->∀B,l.pk=.rep c.q.A.nr B->B.wh≠5->∃z∈c.q.D,z.1=l.fr)(hq:∀c∈X0.a,c.q.nodes≠[]->c.q.A.nr<=X0.gJ):Ck X0 (dn++[l]) Y:=⟨h.a,h.p,h.s,λc y F=>by
 obtain⟨M,P⟩:=h.c c y F
 refine⟨M,P.imp (λx=>x) λ⟨T,V,g2,g3,g4,g5,g6⟩=>⟨T,V,g2,g3,g4,g5,λl' hl' B H h5=>?_⟩⟩
 obtain hl'|hl':=aT.1 hl'
 .grind
 .rw[cw.1 hl']at H|-
  exact L c y F (by grind) B H h5⟩
def Ck.oe(h:Ck X0 dn Y)(a6:l.pk=.rep nr B)(hc:c∈Y.a)(hw:c.q.M nr l.fr=true)(aa:nr<=X0.gJ)(h2:c.q.A.kd=2->B.wh=1\/B.wh=2)(h3:c.q.A.kd=2\/c.q.A.kd=3)(V:∀d∈Y.a,d.gL≠c.gL->d.q.nodes≠[]->d.q.A.nr≠nr):Ck X0 (dn++[l]) ((Y.put {c with q:=c.q.add l.fr B}).oe {c with q:=c.q.add l.fr B} B):=by
 obtain⟨w1,w2,w3⟩:=Qn.jL.1 hw;have a7:c.q.nodes≠[]:=bM w2;obtain⟨ab,a8⟩:=h.c c hc a7;have a0:¬X0.gJ<c.q.A.nr:=C;obtain⟨c0,g1,g2,g3,g4,g5,g6⟩:=a8.resolve_left λe=>a0 e.2;have a3:∀d:jn,d.q.nodes=[]->YU X0 (dn++[l]) d:=λd e F=>absurd e F;have M:∀d∈Y.a,d.gL≠c.gL->YU X0 (dn++[l]) d:=λd H y F=>by
  obtain⟨k1,k2⟩:=h.c d H F;refine⟨k1,k2.imp (λx=>x) λ⟨e0,f1,f2,f3,f4,f5,f6⟩=>⟨e0,f1,f2,f3,f4,f5,λl' hl' cQ hC a1=>?_⟩⟩;obtain hl'|hl':=aT.1 hl'
  .exact f6 l' hl' cQ hC a1
  rw[cw.1 hl',a6]at hC
  cases hC;exact absurd rfl (V d H y F)
 have base:∀c':jn,c'.gL=c.gL->YU X0 (dn++[l]) c'->Ck X0 (dn++[l]) (Y.put c'):=λc' F hk=>⟨h.a,h.p,h.s,λd H=>by
  obtain rfl|⟨H,y⟩:=jV H
  .exact hk
  .exact M d H (by rwa[F]at y)⟩
 have a2:∀d e:jn,e.gL=d.gL->∀a,({Y.put d with gJ:=a}:Cx).put e=({Y with gJ:=a}:Cx).put e:=λd e he a=>by
  unfold Cx.put;simp only[br];congr 1;refine bf λx _=>?_;simp only[Function.comp];by_cases q:x.gL=d.gL
  .rw[aE q,aE he.symm,aE (q.H he.symm)]
  rw[az q]
 have a4:∀(c':jn) (nodes:List Int) (kd pl:Int) (t:Ct),c'.gL=c.gL->Ck X0 (dn++[l]) ((Y.put {c with q:=c.q.add l.fr B}).mK c' nodes kd pl t):=λc' nodes kd pl t F=>by
  have ha:=h.a;show Ck X0 (dn++[l]) (({Y.put {c with q:=c.q.add l.fr B}with gJ:=Y.gJ+1}:Cx).put {c' with q:=Qn.new nodes ⟨kd,c'.a,Y.gJ+1,Y.b,pl,t⟩});rw[a2 {c with q:=c.q.add l.fr B} {c' with q:=Qn.new nodes ⟨kd,c'.a,Y.gJ+1,Y.b,pl,t⟩} F (Y.gJ+1)];refine⟨by show X0.gJ<=Y.gJ+1;omega,h.p,h.s,λd H=>?_⟩;obtain rfl|⟨H,y⟩:=jV H
  .intro a5;exact⟨⟨λ_=>rfl,λ_=>cU.2 a5⟩,.inl ⟨rfl,by show X0.gJ<Y.gJ+1;omega⟩⟩
  exact M d H (by have:d.gL≠c'.gL:=y;rwa[F]at this)
 have P:∀(c':jn) (r:Rz),c'.gL=c.gL->Ck X0 (dn++[l]) ((Y.put {c with q:=c.q.add l.fr B}).fin c' r):=λc' r F=>⟨h.a,h.p,h.s,λd H=>by
  obtain⟨H,y⟩:=aU.1 (show d∈(Y.put {c with q:=c.q.add l.fr B}).a.filter λd=>d.gL !=c'.gL from H)
  have T:d.gL≠c.gL:=by rw[F]at y;simpa using y
  obtain rfl|⟨H,_⟩:=jV H
  .exact absurd rfl T
  .exact M d H T⟩
 have a9:∀c':jn,c'.gL=c.gL->c'.q.nodes=[]->Ck X0 (dn++[l]) ((Y.put {c with q:=c.q.add l.fr B}).put c'):=λc' F he=>by have:(Y.put {c with q:=c.q.add l.fr B}).put c'=Y.put c':=a2 {c with q:=c.q.add l.fr B} c' F Y.gJ;rw[this];exact base c' F (a3 c' he)
 have L:∀c':jn,c'.gL=c.gL->Ck X0 (dn++[l]) ((Y.put {c with q:=c.q.add l.fr B}).kg c'):=λc' F=>by
  unfold Cx.kg;repeat' split
  .exact a4 _ _ _ _ _ F
  exact P _ _ F
 unfold Cx.oe;obtain k|k:=h3
 .have k':(c.q.add l.fr B).A.kd=2:=k;rw[az (by show¬(c.q.add l.fr B).A.kd=3;omega),aE k'];unfold Cx.oy Cx.pO;obtain e|e:=h2 k
  .rw[aE e];exact L _ rfl
  rw[az C,aE e];split
  .exact a9 _ rfl rfl
  exact L _ rfl
 have k':(c.q.add l.fr B).A.kd=3:=k;rw[aE k'];unfold Cx.nV;split
 .rename_i jt;have:(Y.put {c with q:=c.q.add l.fr B}).put {c with q:=c.q.add l.fr B}=Y.put {c with q:=c.q.add l.fr B}:=a2 {c with q:=c.q.add l.fr B} {c with q:=c.q.add l.fr B} rfl Y.gJ;rw[this];refine base _ rfl λ_=>⟨⟨λe=>by have e':c.q.A.kd=2:=e;omega,λ_=>jt⟩,.inr ⟨c0,g1,g2,g3,g4,λz hz=>dG _ (g5 z hz),λl' hl' cQ hC a1=>?_⟩⟩;obtain hl'|hl':=aT.1 hl'
  .obtain⟨z,hz,e⟩:=g6 l' hl' cQ hC a1;exact⟨z,dG _ hz,e⟩
  rw[cw.1 hl'];exact⟨(l.fr,B),by show(l.fr,B)∈c.q.D++[(l.fr,B)];simp,rfl⟩
 split
 .exact P _ _ rfl
 exact P _ _ rfl
structure Lt(X0:Cx)(l:Le):Prop where
 r:∀nr B,l.pk=.rep nr B->nr<=X0.gJ/\∀c0∈X0.a,c0.q.nodes≠[]->c0.q.A.nr=nr->l.fr∈c0.q.nodes/\(c0.q.A.kd=2\/c0.q.A.kd=3)/\(c0.q.A.kd=2->B.wh=5\/B.wh=1\/B.wh=2)
structure Nq(X0:Cx):Prop where
 c:∀c∈X0.a,c.q.nodes≠[]->c.q.A.nr<=X0.gJ
 p:X0.c.nodes≠[]->∀c∈X0.a,c.q.nodes≠[]->c.q.A.nr≠X0.c.A.nr
 s:X0.mv.a.nodes≠[]->∀c∈X0.a,c.q.nodes≠[]->c.q.A.nr≠X0.mv.a.A.nr
theorem Ck.jJ(h:Ck X0 dn Y)(hq:Nq X0)(a5:JP Y)(P:l.pk=.rep nr B)(hl:Lt X0 l):Ck X0 (dn++[l]) (Y.jJ l.fr nr B):=by
 obtain⟨a3,hr⟩:=hl.r nr B P;have y:∀c∈Y.a,c.q.nodes≠[]->c.q.A.nr=nr->∃L∈X0.a,L.q.nodes≠[]/\L.q.A=c.q.A/\L.q.nodes=c.q.nodes:=λc H M e=>by
  obtain⟨_,h2⟩:=h.c c H M;obtain⟨L,g1,g2,g3,g4,_⟩:=h2.resolve_left λe'=>by have:=e'.2;omega
  exact⟨L,g1,g2,g3.symm,g4.symm⟩
 have T:(∀c∈Y.a,c.q.nodes≠[]->c.q.A.nr≠nr)->Ck X0 (dn++[l]) Y:=λa0=>h.more (λc H M _ B' F _=>by
  rw[P]at F
  cases F
  exact absurd rfl (a0 c H M)) hq.c
 have h5:B.wh=5->Ck X0 (dn++[l]) Y:=λe=>h.more (λc H M _ B' F a6=>by
  rw[P]at F
  cases F
  exact absurd e a6) hq.c
 unfold Cx.jJ;split
 .rename_i ha;obtain⟨a1,a2,_⟩:=Qn.jL.1 ha;have V:=T λc H M e=>by obtain⟨L,g1,g2,g3,_⟩:=y c H M e;rw[h.p.2]at a2;rw[h.p.1]at a1;refine hq.p (bM a2) L g1 g2 ?_;rw[g3,e,a1]
  split
  .exact V.gR _
  exact⟨V.a,V.p,V.s,V.c⟩
 split
 .rename_i ha;obtain⟨a1,a2,_⟩:=Qn.jL.1 ha;have V:=T λc H M e=>by
   obtain⟨L,g1,g2,g3,_⟩:=y c H M e;obtain k|⟨k1,k2⟩:=h.s (bM a2)
   .omega
   refine hq.s k1 L g1 g2 ?_;rw[g3,e,<-a1,k2]
  split
  .exact V.gR _
  refine Ck.ld ?_;exact⟨V.a,V.p,V.s,V.c⟩
 cases hf:Y.a.find? λc=>c.q.M nr l.fr with
 |none=>
  dsimp only;refine h.more (λc H M _ B' F _=>?_) hq.c;rw[P]at F;injection F with e1 e2
  obtain⟨L,g1,g2,g3,g4⟩:=y c H M e1.symm;obtain⟨k1,_⟩:=hr L g1 g2 (by rw[g3,e1]);rw[g4]at k1;have a7:=bU.1 hf c H;refine bk λa0=>a7 (Qn.jL.2 ⟨e1.symm,k1,λz hz e=>a0 ⟨z,hz,e⟩⟩)
 |some c=>
  dsimp only;have H:=bu hf;have ha:c.q.M nr l.fr=true:=cR (p:=λc:jn=>c.q.M nr l.fr) hf;obtain⟨a1,a2,_⟩:=Qn.jL.1 ha;by_cases e5:B.wh=5
  .rw[aE e5];exact(h5 e5).gR _
  rw[az e5];obtain⟨L,g1,g2,g3,g4⟩:=y c H (bM a2) a1;obtain⟨_,k2,k3⟩:=hr L g1 g2 (jf g3 a1);rw[g3]at k2 k3;refine h.oe P H ha a3 (λe=>(k3 e).resolve_left e5) k2 λd hd a4 M e=>?_;have:=a5 c H d hd (bM a2) M (kz a1 e);rw[this]at a4;exact a4 rfl
theorem Lr(F:Nq X0):∀(ms:List Le) {dn:List Le} {Y:Cx},Gd ls Y->Ck X0 dn Y->(∀l∈ms,l∈ls/\Lt X0 l)->Ck X0 (dn++ms) (Y.D ms)
 |[],dn,Y,_,h,_=>by rw[cF];exact h
 |l::ms,dn,Y,M,h,P=>by
  obtain⟨T,V⟩:=P l (aN ..);have H:JP Y:=by obtain⟨b,n,m,v,hX,_⟩:=M.x;exact hX.nk
  have h1:Ck X0 (dn++[l]) (Y.recv l.fr l.pk):=by
   cases L:l.pk with
   |rep nr B=>exact h.jJ F H L V
   |vot nr lt v=>exact(h.more (λc hc hn _ B y _=>by rw[L]at y;cases y) F.c).kK _ _ _ _
   |req r=>exact h.more (λc hc hn _ B y _=>by rw[L]at y;cases y) F.c
  have:=Lr F ms (M.recv T) h1 λx hx=>P x (aX _ hx);rwa[eJ]at this
theorem Oh(V:Wk W)(H:Up W)(L:rD W)(hA:W.ac[i]?=some A)(hl:l∈W.D W.N (ja i)):∃(j:Nat) (P:Pl) (r:Rq) (p:kC),W.pl[j]?=some P/\l.fr=jP W.n W.m j/\(jP W.n W.m j,r)∈A.X.iH/\P.part.A p/\oq W.n p/\l.pk=(kC.mK W.n W.m W.v W.ce p r).1:=by
 obtain⟨h1,M⟩:=aU.1 hl;simp at M;obtain⟨j,_,y⟩:=eB.1 h1;split at y
 .simp at y
 rename_i P T;obtain⟨e,he,rfl⟩:=aD.1 y;obtain⟨z,F,p',a0,rfl⟩:=(oY (λp=>P.part.A p/\oq W.n p) (W.reqs j) P.part ⟨so _,L.p j P T⟩ λp r h⟨z,F,er⟩=>by
  subst er
  exact⟨uj h.1 _,(ur h.2 (zv h.1 (Eo V H L T z F))).1⟩).2 e he
 obtain⟨i',A',a1,g3,g4,_⟩:=wZ H.a F;have h3:z.1=ja i:=M.1;have:i'=i:=oT (by rw[<-g3,h3])
 grind
def C2{z:Int×Rq}(hz:z∈X.iH):(∃c∈X.a,z.1∈c.q.nodes/\z.2=c.q.A)\/(z.1∈X.c.nodes/\z.2=X.c.A)\/(z.1∈X.mv.a.nodes/\z.2=X.mv.a.A)\/(z.1∈X.mv.A.nodes/\z.2=X.mv.A.A):=by
 unfold Cx.iH at hz;simp only[aT,eB]at hz;obtain ((⟨c,h,hz⟩|hz)|hz)|hz:=hz
 .exact .inl ⟨c,h,ni hz⟩
 .exact .inr (.inl (ni hz))
 .exact .inr (.inr (.inl (ni hz)))
 exact .inr (.inr (.inr (ni hz)))
theorem qv(h:c∈X.jE.a):∃d∈X.a,c={d with q:=d.q.jE}:=by
 obtain⟨d,y,rfl⟩:=aD.1 (show c∈X.a.map λ(c:jn)=>{c with q:=c.q.jE}from h)
 grind
def SR(h:Ke X):Nq X.jE:=⟨λc y F=>by obtain⟨d,H,rfl⟩:=qv y;exact h.c d H F,λL c y F=>by obtain⟨d,H,rfl⟩:=qv y;exact(h.p L).2 d H F,λL c y F=>by obtain⟨d,H,rfl⟩:=qv y;exact(h.s L).2 d H F⟩
theorem Th(hW:Wk W)(hu:Up W)(hp:rD W)(hf:Sf S W)(hA:W.ac[i]?=some A)(hl:l∈W.D W.N (ja i)):Lt A.X.jE l:=by
 refine⟨λnr B a3=>?_⟩;obtain⟨j,P,r,p,hP,a4,hm,V,a8,hk⟩:=Oh hW hu hp hA hl;have hN:=G4 hf hA;have hX:=(hW.ac i A hA).x
 cases p with
 |voter s=>rw[a3]at hk;cases hk
 |unit ch s=>
  rw[a3]at hk;injection hk with e1 e2
  have a9:ch=(j/W.m:Nat):=by
   have:=(hW.pk j P hP).part
   cases e:P.part with
   |voter s=>rw[e]at V;exact V.elim
   |unit a5 s'=>rw[e]at V this;exact(show ch=a5 from V).H this.2.1
  have hj:j<W.n*W.m:=by
   have:=(hW.pk j P hP).part
   cases e:P.part with
   |voter s=>rw[e]at V;exact V.elim
   |unit a5 s'=>rw[e]at this;exact this.1
  rw[sW hj]at a4 hm;refine⟨?_,λc0 aa ab ac=>?_⟩
  .rw[e1];show r.nr<=A.X.gJ;obtain⟨c,hc,L,M⟩|⟨L,M⟩|⟨L,M⟩|⟨L,M⟩:=C2 hm
   .have h:r=c.q.A:=M;rw[h];exact hN.c c hc (bM L)
   .have h:r=A.X.c.A:=M;rw[h];exact(hN.p (bM L)).1
   .have h:r=A.X.mv.a.A:=M;rw[h];exact(hN.s (bM L)).1
   have h:r=A.X.mv.A.A:=M;rw[h];exact(hN.v (bM L)).1
  obtain⟨d,hd,rfl⟩:=qv aa;have T:d.q.A.nr=r.nr:=by rw[<-e1];exact ac
  have y:d.q.nodes≠[]:=ab;have a1:r=d.q.A/\(j:Int)∈d.q.nodes:=by
   obtain⟨c,hc,L,M⟩|⟨L,M⟩|⟨L,M⟩|⟨L,M⟩:=C2 hm
   .have h:r=c.q.A:=M;have:=hX.nk d hd c hc y (bM L) (kz T h);subst this;exact⟨h,L⟩
   .have h:r=A.X.c.A:=M;exact absurd (kz T h) ((hN.p (bM L)).2 d hd y)
   .have h:r=A.X.mv.a.A:=M;exact absurd (kz T h) ((hN.s (bM L)).2 d hd y)
   have h:r=A.X.mv.A.A:=M;exact absurd (kz T h) ((hN.v (bM L)).2.1 d hd y)
  have a2:=AT hW hp hf hA hd y;obtain⟨j',ad,_,a0⟩:=a2.n j a1.2;have:j'=j:=C;subst this;have a6:oE W.n W.m W.v W.ce=true:=by obtain⟨K,F,hs,_⟩:=hf;obtain⟨⟨s1,s2⟩,s3,s4⟩:=hs.s;rw[s1,s2,s3,s4];exact S.ok
  rw[<-a9]at a0;have h9:=PT (W:=W) (s:=s) a6 a2 a8 a0;refine⟨jf a4 a1.2,a2.k,λe=>?_⟩;have a7:=h9.2 e;rwa[<-a1.1,<-e2]at a7
def U1(X:Cx):Prop:=∀c∈X.a,c.q.nodes≠[]->Un c
theorem ON(F:Wk W)(H:Up W)(L:rD W)(M:Sf S W)(y:W.ac[i]?=some A)(V:U1 A.X):Ck A.X.jE (W.D W.N (ja i)) (A.X.jE.D (W.D W.N (ja i))):=by
 have:=Lr (SR (G4 M y)) _ (dn:=[]) (xE F H L y) ⟨iG,⟨rfl,rfl⟩,λe=>.inr ⟨e,rfl⟩,λc P T=>by
  obtain⟨d,hd,rfl⟩:=qv P
  exact⟨V d hd T,.inr ⟨_,P,T,rfl,rfl,λz hz=>hz,λl h=>absurd h bz⟩⟩⟩ λl h=>⟨h,Th F H L M y h⟩
 grind
def Xo(h:Wk W)(y:Up W)(F:rD W)(H:Sf S W)(L:W.ac[i]?=some A)(M:U1 A.X):U1 (A.X.jE.D (W.D W.N (ja i))):=λc P T=>((ON h y F H L M).c c P T).1
theorem Ig{m v ce:Nat}(Q:kC->Prop):∀(rs:List (Int×Rq)) (p:kC),Q p->(∀p r,Q p->(∃z∈rs,z.2=r)->Q (p.mK n m v ce r).2)->∀z∈rs,∃e∈(p.N n m v ce rs).1,∃p',Q p'/\e=⟨z.1,z.2.ln,z.2.nr,(kC.mK n m v ce p' z.2).1⟩
 |[],_,_,_,z,hz=>absurd hz bz
 |y::rs,p,F,H,z,hz=>by
  obtain rfl|hz:=bh.1 hz
  .exact⟨_,aN ..,p,F,rfl⟩
  obtain⟨e,L,h⟩:=Ig Q rs _ (H p y.2 F ⟨y,aN ..,rfl⟩) (λp r h⟨x,M,e⟩=>H p r h ⟨x,aX _ M,e⟩) z hz;exact⟨e,aX _ L,h⟩
theorem Rf(V:Wk W)(H:rD W)(hm:W.iP=[]){P:Pl}(hA:W.ac[i]?=some A)(L:W.pl[j]?=some P)(y:(jP W.n W.m j,r)∈A.X.iH):∃l∈W.lets j i,∃p',P.part.A p'/\oq W.n p'/\l=⟨jP W.n W.m j,ja i,(kC.mK W.n W.m W.v W.ce p' r).1⟩:=by
 have a0:∀fr tt,W.j6 fr tt=false:=λfr tt=>by unfold Wd.j6;rw[hm];rfl
 have M:(ja i,r)∈W.pL j i:=by unfold Wd.pL;simp_all
 have hQ:∀(rs:List (Int×Rq)),(∀z∈rs,QX W.n P.part z.2)->∀p r,(P.part.A p/\oq W.n p)->(∃z∈rs,z.2=r)->P.part.A (p.mK W.n W.m W.v W.ce r).2/\oq W.n (p.mK W.n W.m W.v W.ce r).2:=λrs T p r h⟨z,y,er⟩=>by subst er;exact⟨uj h.1 _,(ur h.2 (zv h.1 (T z y))).1⟩
 have h1:=(oY _ ((List.range i).flatMap (W.pL j)) P.part ⟨so _,H.p j P L⟩ (hQ _ λz y=>by
  obtain⟨k,_,y⟩:=eB.1 y
  exact uC V H L y)).1
 obtain⟨e,he,p',F,rfl⟩:=Ig (n:=W.n) (m:=W.m) (v:=W.v) (ce:=W.ce) (λp=>P.part.A p/\oq W.n p) _ (W.M j i P.part) h1 (hQ _ λz y=>uC V H L y) _ M;refine⟨_,?_,p',F.1,F.2,rfl⟩;unfold Wd.lets
 grind
def Ad(X:Cx):Prop:=∀c∈X.a,c.q.nodes≠[]->c.q.mi=true
theorem rU:∀(l:List Int) (m:List Int),l.Nodup->(∀x∈l,x∈m)->l.length<=m.length
 |[],_,_,_=>jR
 |x::l,m,F,h=>by
  obtain⟨H,L⟩:=bY.1 F;have:=rU l (m.erase x) L λy M=>(List.mem_erase_of_ne λe=>H (by grind)).2 (h y (aX _ M))
  grind
theorem XE(L:Wk W)(hu:Up W)(hp:rD W)(hf:Sf S W)(hm:W.iP=[])(hA:W.ac[i]?=some A)(he:A.X.b=1)(h1:U1 A.X)(h2:Ad A.X):Ad (A.X.jE.D (W.D W.N (ja i))):=by
 have hi:=(aj.1 hA).1;have hX:=(L.ac i A hA).x;intro c hc hn;obtain⟨a0,a9⟩:=(ON L hu hp hf hA h1).c c hc hn;obtain e|⟨c0,g1,g2,g3,g4,g5,g6⟩:=a9
 .exact e.1
 exfalso;obtain⟨d,hd,rfl⟩:=qv g1;have M:d.q.nodes≠[]:=g2;have a1:=h2 d hd M;have T:=AT L hp hf hA hd M;have a2:oE W.n W.m W.v W.ce=true:=by obtain⟨K,F,hs,_⟩:=hf;obtain⟨⟨s1,s2⟩,s3,s4⟩:=hs.s;rw[s1,s2,s3,s4];exact S.ok
 have a3:∀u∈d.q.nodes,u∈c.q.D.map (·.1):=λu a4=>by
  by_cases ha:∃z∈d.q.D,z.1=u
  .obtain⟨z,hz,e⟩:=ha;exact aD.2 ⟨z,g5 z hz,e⟩
  obtain⟨j,rfl,hj,y⟩:=T.n u a4;obtain⟨P,ch,s,hP,a5⟩:=Lx L hj;have a6:(jP W.n W.m j,d.q.A)∈A.X.iH:=by rw[sW hj];unfold Cx.iH;refine dG _ (dG _ (dG _ (eB.2 ⟨d,hd,?_⟩)));unfold Qn.iH;rw[aE a1];refine aD.2 ⟨(j:Int),aU.2 ⟨a4,?_⟩,rfl⟩;unfold Qn.T;simp only[eK,dm,ZT];exact λz hz e=>ha ⟨z,hz,e⟩
  obtain⟨l,hl,p',V,aa,a7⟩:=Rf L hp hm hA hP a6;rw[a5]at V
  cases p' with
  |voter s=>exact V.elim
  |unit a8 s'=>
   have ab:a8=(j/W.m:Nat):=by have hk:=(L.pk j P hP).part;rw[a5]at hk;exact(show a8=ch from V).H hk.2.1
   rw[<-ab]at y;have h5:=(PT (W:=W) (s:=s') a2 T aa y).1 he;have ac:=Ee hu hm hi (by rw[L.pl];omega) hl;obtain⟨z,hz,e⟩:=g6 l ac _ (by rw[a7,g3];rfl) h5;refine aD.2 ⟨z,hz,?_⟩;rw[e,a7];exact sW hj
 have h:=rU d.q.nodes (c.q.D.map (·.1)) (hX.f d hd).q.nd a3;rw[ay]at h;have ad:=cU.2 M;obtain k|k:=T.k
 .rw[a0.1 (jf g3 k)]at h;have h9:d.q.nodes.length<=0:=h;omega
 have:=a0.2 (jf g3 k);rw[g4]at this;have h9:c.q.D.length<d.q.nodes.length:=this;omega
theorem U0(P:∀c∈X.a,c.q.nodes.Nodup)(T:U1 X)(V:Ad X)(hk:∀c∈X.a,c.q.nodes≠[]->c.q.A.kd=2\/c.q.A.kd=3)(ho:X.iH=[]):∀c∈X.a,c.q.nodes=[]:=λc F=>by
 refine bk λH=>?_;have h:c.q.iH=[]:=by unfold Cx.iH at ho;simp_all
 unfold Qn.iH at h;rw[aE (V c F H),List.map_eq_nil_iff,List.filter_eq_nil_iff]at h;have y:∀u∈c.q.nodes,u∈c.q.D.map (·.1):=λu hu=>by
  have:=h u hu;unfold Qn.T at this
  grind
 have L:=rU c.q.nodes _ (P c F) y;have M:=cU.2 H;obtain⟨u1,u2⟩:=T c F H
 grind
structure EN(X:Cx):Prop where
 p:mB X
 l:mA X
 u:U1 X
structure Pp(S:Cf)(W:Wd):Prop where
 k:Wk W
 f:Sf S W
 u:∀P∈W.pl,P.up=true/\P.q=[]
 p:∀(j:Nat) (P:Pl),W.pl[j]?=some P->oq W.n P.part
 a:∀(i:Nat) (A:Ac),W.ac[i]?=some A->A.up=true/\EN A.X
 l:W.ac.length<=2
def Pp.up(h:Pp S W):Up W:=⟨λP y=>(h.u P y).1,λA F=>by obtain⟨i,H⟩:=List.mem_iff_getElem?.1 F;exact(h.a i A H).1,λP y=>(h.u P y).2,λA F=>by obtain⟨i,H⟩:=List.mem_iff_getElem?.1 F;exact(h.a i A H).2.l⟩
def Pp.pw(h:Pp S W):rD W:=⟨λi A y=>(h.a i A y).2.p,h.p⟩
def Pp.of(L:Wk W')(M:Sf S W')(h:Up W')(F:rD W')(T:∀(i:Nat) (A:Ac),W'.ac[i]?=some A->U1 A.X)(V:W'.ac.length<=2):Pp S W':=⟨L,M,λP H=>⟨h.p P H,h.q P H⟩,F.p,λi A y=>⟨h.a A (aR y),F.c i A y,h.ln A (aR y),T i A y⟩,V⟩
def Pp.set(h:Pp S W)(F:Wk W')(H:Sf S W')(y:W'.pl=W.pl)(L:W'.n=W.n)(M:W'.ac.length=W.ac.length)(P:∀(i:Nat) (A:Ac),W'.ac[i]?=some A->W.ac[i]?=some A\/(A.up=true/\EN A.X)):Pp S W':=
 ⟨F,H,by rw[y];exact h.u,by rw[y,L];exact h.p,λi A T=>(P i A T).elim (h.a i A) λx=>x,by rw[M];exact h.l⟩
def U1.kG(h:U1 X):U1 X.kG:=by
 have y:U1 {X with wl:=X.wb,A:=0,mv:=Mv.zero,a:=X.a.map λ(c:jn)=>{c with q:={c.q with mi:=true}}}:=λc F H=>by obtain⟨d,L,rfl⟩:=aD.1 (show c∈X.a.map λ(c:jn)=>{c with q:={c.q with mi:=true}}from F);exact h d L H
 unfold Cx.kG;dsimp only;repeat' split
 all_goals exact y
theorem U1.put(h:U1 X)(H:c.q.nodes≠[]->Un c){a:Int}:U1 ({X with gJ:=a}.put c):=λd y F=>by
 obtain rfl|⟨y,_⟩:=jV y
 .grind
 exact h d y F
def U1.mK(h:U1 X)(nodes:List Int)(kd pl:Int)(t:Ct):U1 (X.mK c nodes kd pl t):=
 U1.put (c:={c with q:=Qn.new nodes ⟨kd,c.a,X.gJ+1,X.b,pl,t⟩}) h λy=>⟨λ_=>rfl,λ_=>cU.2 y⟩
def U1.dO(h:U1 X):U1 (X.dO c):=by
 unfold Cx.dO;repeat' split
 all_goals first|exact h.mK _ _ _ _|exact h
def U1.fin(h:U1 X)(r:Rz):U1 (X.fin c r):=λd y=>h d (aU.1 (show d∈X.a.filter λd=>d.gL !=c.gL from y)).1
def U1.jK(h:U1 X)(k:Nat)(t:Int):U1 (X.jK k t):=by
 unfold Cx.jK;split
 .omega
 rename_i c y;split
 .exact(U1.put (c:={c with iA:=t}) h (h c (bu y))).dO
 exact h.fin _
def EN.kG(h:EN X):EN X.kG:=⟨h.p.kG.1,h.l.kG,h.u.kG⟩
def EN.jK(h:EN X)(y:X.a.Pairwise λc d=>c.gL<d.gL)(F:k∈X.iX)(t:Int):EN (X.jK k t):=⟨(h.p.jK y F t).1,h.l.jK k t,h.u.jK k t⟩
theorem rV(h:c.kind≠5):(X.jb c).gT=X.gT:=by
 unfold Cx.gT Cx.jb
 grind
def mB.jb(h:mB X)(F:X.b=0->X.gT≠[])(L:c.kind=1\/c.kind=2)(H:c.q=Qn.zero):mB (X.jb c):=by
 have y:(X.jb c).gT=X.gT:=rV C;refine⟨h.n,h.m,h.e,h.t,h.l0,h.l1,λd hd=>?_,h.pr,h.sl,λe=>by rw[y];exact h.mv e,h.sn,λe e'=>by rw[y]at e;exact absurd e (F e'),h.va,h.bg,h.k6⟩;obtain hd|hd:=aT.1 (show d∈X.a++[c]from hd)
 .exact h.c d hd
 rw[cw.1 hd];exact⟨C,qH H,λe=>C⟩
def U1.jb(h:U1 X)(F:c.q=Qn.zero):U1 (X.jb c):=λd hd y=>by
 obtain hd|hd:=aT.1 (show d∈X.a++[c]from hd)
 .exact h d hd y
 rw[cw.1 hd,F]at y;contradiction
theorem EN.call(h:EN X)(hn:X.a.Pairwise λc d=>c.gL<d.gL)(jt:∀c∈X.a,c.gL<X.e.length)(P:X.b=0->X.gT≠[]){k:Int}(V:k=1\/k=2)(pos:Int)(val:List Int):EN (X.lV k pos val)/\Ms X (X.lV k pos val)/\(X.lV k pos val).gT=X.gT:=by
 have he:X.b<=1:=by obtain e|e:=h.p.e<;>rw[e]<;>decide
 obtain rfl|rfl:=V
 .have L:X.lV 1 pos val=X.jb {X.jW 1 with ij:={(X.jW 1).ij with kd:=8,val:=val}}:=rfl;rw[L];exact⟨⟨h.p.jb P (.inl rfl) rfl,h.l.jb λe=>absurd rfl e,h.u.jb rfl⟩,⟨⟨⟨rfl,rfl⟩,rfl,rfl⟩,⟨rfl,rfl⟩,rfl,rfl,⟨rfl,rfl⟩,iG⟩,rV (by show(1:Int)≠5;decide)⟩
 obtain⟨c0,y⟩:=gG ({X.jW 2 with iA:=pos}:jn);have H:c0.kind=2:=by rw[<-y];rfl
 have M:c0.q=Qn.zero:=by rw[<-y];rfl
 have n0:c0.gL=X.e.length:=by rw[<-y];rfl
 have L:X.lV 2 pos val=(X.jb c0).qI c0:=by
  have:X.lV 2 pos val=(X.jb c0).dO c0:=by rw[<-y];rfl
  rw[this];unfold Cx.dO;rw[az C,aE H]
 rw[L];have p1:=h.p.jb P (.inr H) M;have F:c0∈(X.jb c0).a:=by show c0∈X.a++[c0];simp
 have T:(X.jb c0).a.Pairwise λc d=>c.gL<d.gL:=by
  show(X.a++[c0]).Pairwise _
  grind
 refine⟨⟨?_,(h.l.jb λe=>absurd (by rw[M];rfl) e).mK ..,(h.u.jb M).mK _ _ _ _⟩,⟨⟨⟨rfl,rfl⟩,rfl,rfl⟩,⟨rfl,rfl⟩,rfl,rfl,⟨rfl,rfl⟩,by show X.gJ<=X.gJ+1;omega⟩,?_⟩
 .exact mB.put (X:=X.jb c0) (a:=X.gJ+1) (c':={c0 with q:=Qn.new ((X.jb c0).chain c0.iA) ⟨3,c0.a,X.gJ+1,X.b,c0.iA,no⟩}) p1 T F rfl rfl rfl ⟨by show c0.kind=1\/_;rw[H];exact .inr (.inl rfl),⟨(by decide:(3:Int)≠4),he⟩,λe=>absurd (H.symm.H e) bT⟩
 have c1:=nD (X:={X.jb c0 with gJ:=X.gJ+1}) (c':={c0 with q:=Qn.new ((X.jb c0).chain c0.iA) ⟨3,c0.a,X.gJ+1,X.b,c0.iA,no⟩}) T F rfl rfl rfl;exact c1.H (rV C)
def N5(hn:1<=X.n/\X.n<=3)(hm:X.m=2/\1<=X.vo)(he:X.b=0)(ht:X.A<=1)(hl:X.lay=iR X.n 2)(T:X.a=[])(a2:X.c.A.ep<=1/\X.c.A.kd≠4)(a3:mA X)(hu:u=0\/u=1):EN (X.change u)/\(X.change u).b=0/\(X.change u).gT≠[]:=by
 obtain⟨c0,H⟩:=gG ({X.jW 5 with unit:=u}:jn);have k0:c0.kind=5:=by rw[<-H];rfl
 have q0:c0.q=Qn.zero:=by rw[<-H];rfl
 have u0:c0.unit=u:=by rw[<-H]
 have V:X.iJ=false:=by unfold Cx.iJ Cx.gT;rw[T];rfl
 obtain⟨Y,h⟩:=gG (X.jb c0);have a4:Y.lay=iR X.n 2:=j9 h hl;have a5:Y.m=2:=j9 h hm.1;have a0:Y.ku c0=Y:=by
  unfold Cx.ku;have hi:(c0.unit/Y.m).toNat=0:=by rw[u0,a5];obtain e|e:=hu<;>rw[e]<;>rfl
  have L:Y.lay.getD 0 []=[0,1]:=by rw[a4];have:X.n=1\/X.n=2\/X.n=3:=C;obtain e|e|e:=this<;>rw[e]<;>decide
  rw[hi,L,u0];obtain e|e:=hu<;>rw[e]<;>rfl
 have M:Y.a=[c0]:=by rw[<-h];show X.a++[c0]=_;rw[T];rfl
 have P:Y.gT=[u]:=by unfold Cx.gT;rw[M];simp[k0,u0]
 have a6:Y.iJ=true:=by unfold Cx.iJ;rw[P];rfl
 have y:Y.b=0:=j9 h he;have e1:X.change u=Y.iB:=by
  have:X.change u=if(!X.iJ&&(Y.ku c0).iJ)=true then(Y.ku c0).iB else Y.ku c0:=by rw[<-h,<-H];rfl
  rw[this,a0,V,a6];rfl
 have a7:mB {Y with mv:=Mv.zero}:=by
  refine⟨j9 h hn,j9 h hm,.inl y,j9 h ht,λ_=>j9 h hl,λe=>absurd (y.symm.H e) bT,λc hc=>?_,j9 h a2,(by decide:(0:Int)<=1/\(0:Int)≠4),λe=>absurd rfl e,λe=>absurd rfl e,λe=>?_,λz hz=>absurd hz (by simp[Mv.zero,Qn.zero]),λz hz=>absurd hz (by simp[Mv.zero]),λe=>absurd (show(0:Int)=6 from e) bT⟩
  .have F:c∈Y.a:=hc;rw[M]at F;rw[cw.1 F];exact⟨.inr (.inr k0),qH q0,λ_=>⟨y,jf u0 hu,by rw[q0];rfl⟩⟩
  have e':Y.gT=[]:=e;rw[P]at e'
  cases e'
 have L:({Y with mv:=Mv.zero}:Cx).gT≠[]:=by show Y.gT≠[];rw[P];simp
 have s:=a7.iB y L;have e2:({Y with mv:=Mv.zero}:Cx).iB=Y.iB:=rfl;rw[e2]at s;rw[e1];have a8:mA Y:=by rw[<-h];exact a3.jb λe=>absurd (by rw[q0];rfl) e
 refine⟨⟨s.1,a8.iB,λc hc a1=>?_⟩,y,L⟩;have F:c∈Y.a:=hc;rw[M]at F;rw[cw.1 F,q0]at a1;exact absurd rfl a1
theorem EY:∀{l:List jn},l.Pairwise (λc d=>c.gL<d.gL)->∀x∈l,∀y∈l,x.gL=y.gL->x=y
 |[],_,x,hx,_,_,_=>absurd hx bz
 |a::l,h,x,hx,y,hy,e=>by
  obtain⟨H,F⟩:=cI.1 h;obtain hx|hx:=bh.1 hx<;>obtain hy|hy:=bh.1 hy
  .grind
  .grind
  .grind
  exact EY F x hx y hy e
section
variable{c':jn}
theorem yJ(h:X.a.Pairwise λc d=>c.gL<d.gL)(y:c∈X.a)(F:c.kind≠5)(H:c'.gL=c.gL)(r:Rz):(X.fin c' r).gT=X.gT:=by
 show((X.a.filter λd=>d.gL !=c'.gL).filter λc=>c.kind==5).map _=_;congr 1;rw[List.filter_filter];refine dH λd L=>?_;by_cases e:d.kind=5
 .have:d.gL≠c'.gL:=λM=>F (by rw[<-EY h d L c y (M.H H)];exact e)
  grind
 grind
def BU(h:X.a.Pairwise λc d=>c.gL<d.gL)(y:c∈X.a)(H:c.kind≠5)(F:c'.gL=c.gL)(L:c'.kind=c.kind)(M:c'.unit=c.unit):(X.kg c').gT=X.gT:=by
 unfold Cx.kg;repeat' split
 .exact nD h y F L M
 exact yJ h y H F _
def Et(h:X.a.Pairwise λc d=>c.gL<d.gL)(y:c∈X.a)(F:c.kind≠5)(A:An):(X.oe c A).gT=X.gT:=by
 unfold Cx.oe Cx.nV Cx.oy Cx.pO;repeat' split
 all_goals first|exact (nD h y rfl rfl rfl)|exact yJ h y F rfl _|exact BU h y F rfl rfl rfl|exact nD (c:=c) h y rfl rfl rfl
def pE(X:Cx)(e:Int):(X.gR e).gT=X.gT:=by
 unfold Cx.gR;repeat' split
 all_goals rfl
def tA(X:Cx):X.jS.gT=X.gT:=by unfold Cx.jS;split<;>rfl
def wI(X:Cx):X.jM.gT=X.gT:=by
 unfold Cx.jM;split
 .rfl
 rw[tA];split<;>rfl
def sF(X:Cx):X.jB.gT=X.gT:=by unfold Cx.jB;dsimp only;split<;>rfl
def ve(h:mB X)(y:X.a.length<=8)(H:X.b=0)(L:X.mv.b=1)(F:VV X.n v\/v=[]):(X.kX v).b=1\/(X.kX v).gT=X.gT:=by
 obtain F|rfl:=F
 .exact .inl (xV h y H L F)
 right;unfold Cx.kX;rw[h.l0 H,AP X.n h.n];rfl
def BF(h:mB X)(a0:X.a.length<=8)(h0:0<=X.A)(fr nr lt:Int)(v:Vo)(hl:lt<=1)(hv:0<v.ba->VV X.n v.val):(X.kK fr nr lt v).b=1\/(X.kK fr nr lt v).gT=X.gT:=by
 unfold Cx.kK;split
 .rename_i ha;have hn:X.mv.A.nodes≠[]:=bM (Qn.jL.1 ha).2.1;obtain⟨m1,m2,m3,m4,m5⟩:=h.mv hn;obtain⟨⟨b1,b2⟩,b3⟩:=h.gR h0 (λ_=>m4) hl;have F:(X.gR lt).mv=X.mv/\(X.gR lt).a=X.a/\(X.gR lt).n=X.n/\(X.gR lt).b=X.b:=by obtain e|e:=b3 hn<;>rw[e]<;>exact⟨rfl,rfl,rfl,rfl⟩
  have y:=pE X lt;generalize X.gR lt=Y at b1 b2 F y;dsimp only;rw[aE (jf F.1 ha)];have L:∀z∈Y.mv.A.D++[(fr,v)],0<z.2.ba->VV Y.n z.2.val:=λz hz=>by
   obtain hz|hz:=aT.1 hz
   .exact b1.va z hz
   rw[cw.1 hz,F.2.2.1];exact hv
  obtain⟨B,hB⟩:=gG (if Y.mv.A.A.kd=7/\Y.mv.D≠[]then Y.mv.A.D++[(fr,v)]else Y.mv.D);have a1:∀z∈B,0<z.2.ba->VV Y.n z.2.val:=by
   rw[<-hB];split
   .exact L
   exact b1.bg
  rw[hB];have V:mB {Y with mv:={Y.mv with A:=Y.mv.A.add fr v,D:=B}}:=⟨b1.n,b1.m,b1.e,b1.t,b1.l0,b1.l1,b1.c,b1.pr,b1.sl,b1.mv,b1.sn,b1.a,L,a1,b1.k6⟩;have M:Y.a.length<=8:=jf F.2.1 a0;have P:Y.b=0:=F.2.2.2.H m1;have T:Y.mv.b=1:=jf F.1 m2;split
  .unfold Cx.kr;dsimp only;split
   .rename_i h0;obtain e|e:=ve V M P T (.inl (xJ V.va h0))
    .exact .inl e
    exact .inr (e.H y)
   split
   .exact .inr y
   rw[az (by show¬Y.mv.c=true;rw[F.1,m3];decide)];exact .inr ((wI _).H y)
  split
  .exact .inr ((sF _).H y)
  split
  .rename_i h6;unfold Cx.kx;split
   .obtain e|e:=ve V M P T (V.k6 h6).1
    .exact .inl e
    exact .inr (e.H y)
   exact .inr y
  exact .inr y
 exact .inr rfl
def En(h:Gd ls X)(P:l∈ls):(X.recv l.fr l.pk).b=1\/(X.recv l.fr l.pk).gT=X.gT:=by
 obtain⟨b,n,m,v,y,_⟩:=h.x;have F:=h.k l P;unfold Cx.recv;split
 .rename_i nr A H;right;rw[H]at F;unfold Cx.jJ;split
  .split
   .exact pE _ _
   rfl
  split
  .split
   .exact pE _ _
   unfold Cx.ld;split
   .exact tA _
   split
   .exact sF _
   rfl
  split
  .rfl
  rename_i c M;have L:=bu M;have T:c.q.M nr l.fr=true:=cR (p:=λc:jn=>c.q.M nr l.fr) M;have V:c.kind≠5:=λe=>bM (Qn.jL.1 T).2.1 ((h.p.c c L).u e).2.2;split
  .exact pE _ _
  have e1:=Et (c:={c with q:=c.q.add l.fr A}) (EK y.a.gL _) (vx L rfl) V A;exact e1.H (nD y.a.gL L rfl rfl rfl)
 .rename_i nr lt u H;rw[H]at F;exact BF h.p y.pl y.t.1 _ _ _ _ F.1 F.2
 exact .inr rfl
theorem rZ:∀(ms:List Le) {X:Cx},Gd ls X->(∀l∈ms,l∈ls)->(X.b=0->X.gT≠[])->((X.D ms).b=0->(X.D ms).gT≠[])
 |[],_,_,_,h=>h
 |l::ms,X,y,F,h=>by
  refine rZ ms (y.recv (F l (aN ..))) (λx H=>F x (aX _ H)) λe=>?_;have e':(X.recv l.fr l.pk).b=0:=e;have L:X.b=0:=by
   obtain k|k:=y.p.e
   .omega
   have:=Ie y.p k (y.k l (F l (aN ..))) (fr:=l.fr);omega
  obtain k|k:=En y (F l (aN ..))
  .omega
  grind
def Q2(W:Wd):Prop:=∀(i:Nat) (A:Ac),W.ac[i]?=some A->A.X.b=0->A.X.gT≠[]
def nK(X:Cx):X.jE.gT=X.gT:=by unfold Cx.gT Cx.jE;simp only[dZ,br];rfl
def QF(y:Wk W)(F:Up W)(L:rD W)(h:Q2 W):Q2 W.step.step:=λi B M=>by obtain⟨A,H,rfl⟩:=qK y F M;exact rZ _ (xE y F L H) (λ_ h=>h) λe=>by rw[nK];exact h i A H e
end
def SY(h:U1 X):U1 X.jE:=λc y F=>by obtain⟨d,H,rfl⟩:=qv y;exact h d H F
theorem Pp.CU(h:Pp S W)(R:Wd->Prop)(hR:∀W,Pp S W->R W->R W.step.step)(H:∀W,Pp S W->R W->W.mV=[]->R W.step)(hr:R W):(W.lj 300).2=true/\Pp S (W.lj 300).1/\R (W.lj 300).1/\oI W (W.lj 300).1/\∀(i:Nat) (A:Ac),(W.lj 300).1.ac[i]?=some A->A.X.iH=[]:=by
 have L:∀W:Wd,Pp S W->Pp S W.step.step:=λW h=>by have y:=mN h.k;have s2:=mN y.1;refine Pp.of s2.1 ((h.f.step h.k).step y.1) (Ji h.k h.up) (DH h.k h.up h.pw) (λi B M=>?_) (by rw[s2.2.1.ac,y.2.1.ac];exact h.l);obtain⟨A,F,rfl⟩:=qK h.k h.up M;exact Xo h.k h.up h.pw h.f F (h.a i A F).2.u
 obtain⟨e1,e2,e3,e4,e5,e6,e7⟩:=Ak (λW=>Pp S W/\R W) (λW _ _ _ h=>⟨L W h.1,hR W h.1 h.2⟩) (λW T h2 h3 h ho=>by
  refine⟨?_,H W h.1 h.2 ho⟩
  have y:=mN T
  obtain⟨a1,a2⟩:=nt T h2
  have hq:∀j,W.reqs j=[]:=λj=>by unfold Wd.reqs;rw[ho];rfl
  have V:W.step.pl=W.pl:=bJ λj=>by
   rw[a1 j,hq j]
   cases hP:W.pl[j]? with
   |none=>rfl
   |some P=>
    have:=h2.q P (aR hP)
    obtain⟨a0,q,up,nf⟩:=P
    subst this
    rfl
  refine h.1.set y.1 (h.1.f.step T) V y.2.1.n y.2.1.ac λi A F=>.inr ?_
  rw[a2 i]at F
  obtain⟨B,M,rfl⟩:=bN.1 F
  obtain⟨b1,b2⟩:=h.1.a i B M
  exact⟨b1,(wT b2.p).1,b2.l.jE,SY b2.u⟩) h.k h.up h.pw ⟨h,hr⟩
 grind
theorem rf(W:Wd)(X:Cx)(h:(W.pN i X).ac[j]?=some A):(j≠i/\W.ac[j]?=some A)\/(j=i/\∃B,W.ac[i]?=some B/\A={B with X:=X}):=by
 change (W.ac.modify i _)[j]?=some A at h
 grind
theorem Pp.jG(h:Pp S W)(i:Nat):Pp S (W.jG i):=by
 have y:=h.f.jG h.k i;unfold Wd.jG at y|-
 cases F:W.ac[i]? with
 |none=>exact h
 |some A=>
  rw[F]at y;dsimp only at y|-;have L:=(h.a i A F).1;rw[aE L]at y|-;refine h.set (Kp.kG h.k F).k y rfl rfl (cy ..) λj B M=>?_;obtain⟨_,e⟩|⟨rfl,P,H,rfl⟩:=rf W _ M
  .grind
  rw[F]at H
  cases H;exact .inr ⟨L,(h.a j A F).2.kG⟩
theorem Pp.pz(h:Pp S W):Pp S W.pz:=by
 have y:∀(l:List Nat) {W:Wd},Pp S W->Pp S (l.foldl Wd.jG W):=λl=>by
  induction l with
  |nil=>intro W h;exact h
  |cons i l F=>intro W h;exact F (h.jG i)
 exact y _ h
theorem Pp.jK(h:Pp S W)(a y t:Int):Pp S (W.jK a y t):=by
 obtain⟨P,g2,g3,g4,T,g6,V⟩:=wM h.k a y t;refine h.set P (h.f.jK h.k a y t) V (FZ W a y t).1 T λi A M=>?_;obtain e|⟨B,n,H,hu,hn,e⟩:=nG W a y t
 .grind
 rw[e]at M;obtain⟨_,e'⟩|⟨rfl,B0,L,rfl⟩:=rf _ _ M
 .exact .inl e'
 have F:W.ac[ju a W.ac.length]?=some B0:=L;rw[H]at F
 cases F;obtain⟨b1,b2⟩:=h.a _ B H;exact .inr ⟨b1,b2.jK (h.k.ac _ B H).x.a.gL hn t⟩
theorem Pp.call(h:Pp S W)(hq:Q2 W){kind:Int}(hk:kind=1\/kind=2)(a b:Int):Pp S (W.call kind a b)/\Q2 (W.call kind a b):=by
 have V:kind=1\/kind=2\/kind=5:=C;obtain⟨c1,c2,c3,c4,c5,_,c7⟩:=xj h.k kind a b V;have hf:=h.f.call h.k kind a b V;have T:(∀(i:Nat) (A:Ac),(W.call kind a b).ac[i]?=some A->W.ac[i]?=some A)\/∃(L:Nat) (y:Ac) (pos:Int) (val:List Int),W.ac[L]?=some y/\∀(i:Nat) (A:Ac),(W.call kind a b).ac[i]?=some A->(i≠L/\W.ac[i]?=some A)\/(i=L/\A={y with X:=y.X.lV kind pos val}):=by
  unfold Wd.call
  cases F:W.ac[ju a W.ac.length]? with
  |none=>exact .inl λi A h=>h
  |some y=>
   dsimp only;rw[aE (h.a _ y F).1];split
   .exact .inl λi A h=>h
   right;refine⟨ju a W.ac.length,y,(({W with jl:=W.jl+1}:Wd).jx).lO kind b,(({W with jl:=W.jl+1}:Wd).jx).mF kind,F,λi A a2=>?_⟩;have M:((({W with jl:=W.jl+1}:Wd).jx).mu kind b (ju a W.ac.length) y).ac[i]?=some A:=a2;unfold Wd.mu at M;obtain⟨e1,e2⟩|⟨rfl,B0,a3,rfl⟩:=rf _ _ M
   .exact .inl ⟨e1,e2⟩
   have P:W.ac[ju a W.ac.length]?=some B0:=a3;rw[F]at P
   cases P;exact .inr ⟨rfl,rfl⟩
 have a0:(W.call kind a b).pl=W.pl:=by
  unfold Wd.call;split
  .rfl
  split
  .split<;>rfl
  rfl
 have a1:(W.call kind a b).n=W.n:=by
  unfold Wd.call;split
  .rfl
  split
  .split<;>rfl
  rfl
 obtain hc|⟨L,y,pos,val,H,hc⟩:=T
 .exact⟨h.set c1 hf a0 a1 c5 λi A F=>.inl (hc i A F),λi A F=>hq i A (hc i A F)⟩
 obtain⟨b1,b2⟩:=h.a L y H;have hX:=(h.k.ac L y H).x;obtain⟨k1,k2,k3⟩:=b2.call hX.a.gL hX.a.lt (hq L y H) hk pos val;refine⟨h.set c1 hf a0 a1 c5 λi A F=>?_,λi A F e=>?_⟩
 .obtain⟨_,e⟩|⟨_,rfl⟩:=hc i A F
  .exact .inl e
  exact .inr ⟨b1,k1⟩
 obtain⟨_,e'⟩|⟨_,rfl⟩:=hc i A F
 .exact hq i A e' e
 show(y.X.lV kind pos val).gT≠[];rw[k3];exact hq L y H (k2.e.1.symm.H e)
def rk(h:i<n):ju (i:Int) n=i:=by unfold ju pk;rw[Int.emod_eq_of_lt C C];omega
theorem Ad.kG(X:Cx):Ad X.kG:=by
 have h:Ad {X with wl:=X.wb,A:=0,mv:=Mv.zero,a:=X.a.map λ(c:jn)=>{c with q:={c.q with mi:=true}}}:=λc y _=>by grind
 unfold Cx.kG;dsimp only;repeat' split
 all_goals exact h
def Ad.jK(h:Ad X)(k:Nat)(t:Int):Ad (X.jK k t):=by
 unfold Cx.jK;split
 .omega
 rename_i c P;have L:Ad (X.put {c with iA:=t}):=λd y F=>by
  obtain rfl|⟨y,_⟩:=jV y
  .exact h c (bu P) F
  exact h d y F
 split
 .dsimp only;have H:∀(c':jn) nodes (kd pl) M,Ad ((X.put {c with iA:=t}).mK c' nodes kd pl M):=λc' nodes kd pl M d y F=>by
   obtain rfl|⟨y,_⟩:=jV y
   .rfl
   exact L d y F
  unfold Cx.dO;repeat' split
  all_goals first|exact H _ _ _ _ _|exact L
 exact λd y F=>h d (aU.1 (show d∈X.a.filter λd=>d.gL !=c.gL from y)).1 F
structure Gv(S:Cf)(i:Nat)(W W':Wd):Prop where
 p:Pp S W'
 o:∀j,j≠i->W'.ac[j]?=W.ac[j]?
 l:W'.ac.length=W.ac.length
 m:W'.iP=W.iP
 x:∀A,W.ac[i]?=some A->∃B,W'.ac[i]?=some B/\Ms A.X B.X/\B.X.gT=A.X.gT/\(Ad A.X->Ad B.X)
def Gv.refl(i:Nat)(h:Pp S W):Gv S i W W:=⟨h,λ_ _=>rfl,rfl,rfl,λA y=>⟨A,y,Ms.refl _,rfl,λx=>x⟩⟩
def Gv.H{W1 W2:Wd}(h:Gv S i W W1)(k:Gv S i W1 W2):Gv S i W W2:=⟨k.p,λj y=>(k.o j y).H (h.o j y),k.l.H h.l,k.m.H h.m,λA F=>by
 obtain⟨B,b1,L,M,P⟩:=h.x A F
 obtain⟨T,c1,c2,V,c4⟩:=k.x B b1
 exact⟨T,c1,L.H c2,V.H M,λx=>c4 (P x)⟩⟩
theorem Gv.jK(h:Pp S W)(M:i<W.ac.length)(t:Int):Gv S i W (W.jK i 0 t):=by
 obtain⟨g1,g2,g3,P,T,g6,g7⟩:=wM h.k i 0 t;have y:=rk M;refine⟨h.jK i 0 t,λj hj=>?_,T,P,λA F=>?_⟩
 .obtain e|⟨B,n,H,V,L,e⟩:=nG W i 0 t
  .rw[e]
  rw[e,y];show(W.ac.modify i _)[j]?=_
  grind
 obtain e|⟨B,n,H,V,L,e⟩:=nG W i 0 t
 .rw[e];exact⟨A,F,Ms.refl _,rfl,λx=>x⟩
 rw[y,F]at H
 cases H;obtain⟨k1,k2,k3⟩:=(h.a i A F).2.p.jK (h.k.ac i A F).x.a.gL L t;refine⟨{A with X:=A.X.jK n t},?_,k2,k3,λx=>x.jK n t⟩;rw[e,y];show(W.ac.modify i _)[i]?=_
 grind
theorem Gv.kJ(h:Pp S W)(F:i<W.ac.length):∀k,Gv S i W (W.kJ i k)
 |0=>Gv.refl i h
 |k+1=>by have y:=Gv.kJ h F k;exact y.H (Gv.jK y.p (by rw[y.l];exact F) _)
theorem Pp.j0(h:Pp S W)(V:Q2 W)(i:Nat):Pp S (W.j0 i)/\(∀j,j≠i->(W.j0 i).ac[j]?=W.ac[j]?)/\(W.j0 i).ac.length=W.ac.length/\(W.j0 i).iP=W.iP/\∀A,W.ac[i]?=some A->∃B,(W.j0 i).ac[i]?=some B/\B.X.b=A.X.b/\B.X.gT=A.X.gT/\Ad B.X/\(A.X.b=0->Vp B.X):=by
 have y:=h.jG i;unfold Wd.jG at y;unfold Wd.j0
 cases F:W.ac[i]? with
 |none=>exact⟨h,λ_ _=>rfl,rfl,rfl,λA e=>by cases e⟩
 |some A=>
  have hi:=(aj.1 F).1;obtain⟨b1,b2⟩:=h.a i A F;rw[F]at y;dsimp only at y|-;rw[aE b1]at y|-;obtain⟨t1,t2,t3,t4⟩:=b2.p.kG;have M:(W.pN i A.X.kG).ac.length=W.ac.length:=cy ..;have H:=Gv.kJ y (jf M hi) A.X.kG.iX.length;have L:(W.pN i A.X.kG).ac[i]?=some {A with X:=A.X.kG}:=by show(W.ac.modify i _)[i]?=_;rw[bS,F];simp
  obtain⟨B,e1,P,e3,e4⟩:=H.x _ L;refine⟨H.p,λj hj=>?_,H.l.H M,H.m,λA' e=>?_⟩
  .rw[H.o j hj];show(W.ac.modify i _)[j]?=_
   grind
  cases e;exact⟨B,e1,P.e.1.H t2,e3.H t3,e4 (Ad.kG A.X),λT=>(t4 T (V i A F T)).ms P⟩
theorem Pp.iT(h:Pp S W)(M:Q2 W):∀k,Pp S (W.iT k)/\(W.iT k).ac.length=W.ac.length/\(W.iT k).iP=W.iP/\∀(i:Nat) (A:Ac),W.ac[i]?=some A->∃B,(W.iT k).ac[i]?=some B/\B.X.b=A.X.b/\B.X.gT=A.X.gT/\(i<k->Ad B.X/\(A.X.b=0->Vp B.X))
 |0=>⟨h,rfl,rfl,λi A y=>⟨A,y,rfl,rfl,λe=>absurd e C⟩⟩
 |k+1=>by
  obtain⟨V,i2,i3,P⟩:=Pp.iT h M k;have F:Q2 (W.iT k):=λi B T e=>by
   have hi:=(aj.1 T).1;obtain⟨A,y⟩:∃A,W.ac[i]?=some A:=⟨_,ah C⟩;obtain⟨B',b1,H,L,_⟩:=P i A y;rw[T]at b1
   cases b1;rw[L];exact M i A y (H▸e)
  obtain⟨r1,r2,r3,r4,r5⟩:=V.j0 F k;rw[lZ];refine⟨r1,r3.H i2,r4.H i3,λi A y=>?_⟩;obtain⟨B,b1,H,L,b4⟩:=P i A y;by_cases e:i=k
  .grind
  exact⟨B,by rw[r2 i e];exact b1,H,L,λe'=>b4 C⟩
def Pp.round(h:Pp S W)(hq:Q2 W)(hm:W.iP=[]):W.round.2=true/\Pp S W.round.1/\Q2 W.round.1/\W.round.1.iP=[]/\W.round.1.ac.length=W.ac.length/\(∀(i:Nat) (A:Ac),W.ac[i]?=some A->A.X.b=1->∃B,W.round.1.ac[i]?=some B/\B.X.b=1)/\((∃(i:Nat) (A:Ac),W.ac[i]?=some A/\A.X.b=0)->∃(i:Nat) (A B:Ac),W.ac[i]?=some A/\A.X.b=0/\W.round.1.ac[i]?=some B/\B.X.b=1):=by
 obtain⟨H,t2,t3,T⟩:=h.iT hq W.ac.length;have V:Q2 (W.iT W.ac.length):=λi B y e=>by
  have hi:=(aj.1 y).1;obtain⟨A,F⟩:∃A,W.ac[i]?=some A:=⟨_,ah C⟩;obtain⟨B',b1,M,b3,_⟩:=T i A F;rw[y]at b1
  cases b1;rw[b3];exact hq i A F (M▸e)
 obtain⟨e1,e2,e3,e4,e5⟩:=H.CU Q2 (λW h k=>QF h.k h.up h.pw k) (λW h k _ i B y e=>by
  rw[(nt h.k h.up).2 i]at y
  obtain⟨A,F,rfl⟩:=bN.1 y
  show A.X.jE.gT≠[]
  rw[nK]
  exact k i A F e) V
 refine⟨e1,e2,e3,by show((W.iT W.ac.length).lj 300).1.iP=[];rw[e4.ms,t3,hm],by show((W.iT W.ac.length).lj 300).1.ac.length=_;rw[e4.ac,t2],λi A F e=>?_,λ⟨i,A,F,e⟩=>?_⟩
 .obtain⟨B,b1,M,_⟩:=T i A F;exact Q5 H.k H.up H.pw b1 (M.H e)
 have hg:=Ts (Q:=λi=>∃A,W.ac[i]?=some A/\A.X.b=0) H.k H.up H.pw H.f (kz t3 hm) (by rw[t2];exact h.l) (by
  obtain⟨B,b1,_⟩:=T i A F
  exact⟨i,B,⟨A,F,e⟩,b1⟩) (λj B y=>by
  have hj:=(aj.1 y).1
  obtain⟨cQ,L⟩:∃cQ,W.ac[j]?=some cQ:=⟨_,ah C⟩
  obtain⟨B',b1,M,b3,b4⟩:=T j cQ L
  rw[y]at b1
  cases b1
  refine⟨λ⟨A',P,e'⟩=>?_,λa0=>?_⟩
  .rw[L]at P
   cases P
   exact(b4 C).2 e'
  .rw[M]
   rcases(h.a j cQ L).2.p.e with k|k
   .exact absurd ⟨cQ,L,k⟩ a0
   .exact k)
 obtain⟨j,B,⟨cQ,L,a1⟩,y,a2⟩:=hg;exact⟨j,cQ,B,L,a1,y,a2⟩
def E1(W:Wd):Prop:=∀(i:Nat) (A:Ac),W.ac[i]?=some A->A.X.b=1
def Wn(W:Wd):Prop:=∀(i:Nat) (A:Ac),W.ac[i]?=some A->∀c∈A.X.a,c.kind=1/\c.q.nodes=[]
def zM(y:Up W)(F:W.mV=[])(h:W.ac[i]?=some A):A.X.iH=[]:=by have:W.uk i=[]:=List.flatMap_eq_nil_iff.1 F i (di.2 ((aj.1 h).1));unfold Wd.uk at this;rw[h]at this;dsimp only at this;rw[aE (y.a A (aR h)),List.map_eq_nil_iff]at this;omega
def Pp.quiet(h:Pp S W)(y:W.ac[i]?=some A)(H:Ad A.X)(L:A.X.iH=[]):∀c∈A.X.a,c.q.nodes=[]:=
 U0 (λc F=>((h.k.ac i A y).x.f c F).q.nd) (h.a i A y).2.u H (λ_ F M=>(AT h.k h.pw h.f y F M).k) L
def Pp.lD(h:Pp S W)(he:E1 W)(hq:Q2 W)(hm:W.iP=[]):E1 W.round.1/\Wn W.round.1:=by
 obtain⟨t1,t2,t3,t4⟩:=h.iT hq W.ac.length;have hr:(W.iT W.ac.length).iP=[]/\∀(i:Nat) (A:Ac),(W.iT W.ac.length).ac[i]?=some A->A.X.b=1/\Ad A.X:=by
  refine⟨kz t3 hm,λi B H=>?_⟩;have hi:=(aj.1 H).1;obtain⟨A,y⟩:∃A,W.ac[i]?=some A:=⟨_,ah C⟩;obtain⟨B',b1,b2,_,b4⟩:=t4 i A y;rw[H]at b1
  cases b1;exact⟨b2.H (he i A y),(b4 C).1⟩
 obtain⟨_,P,T,_,e5⟩:=t1.CU (λW=>W.iP=[]/\∀(i:Nat) (A:Ac),W.ac[i]?=some A->A.X.b=1/\Ad A.X) (λW h k=>by
  refine⟨by rw[(px _).ms,(px _).ms];exact k.1,λi B H=>?_⟩
  obtain⟨A,y,rfl⟩:=qK h.k h.up H
  exact⟨uN h.k h.up h.pw y (k.2 i A y).1,XE h.k h.up h.pw h.f k.1 y (k.2 i A y).1 (h.a i A y).2.u (k.2 i A y).2⟩) (λW h k ho=>by
  refine⟨by rw[(px _).ms];exact k.1,λi B H=>?_⟩
  rw[(nt h.k h.up).2 i]at H
  obtain⟨A,y,rfl⟩:=bN.1 H
  refine⟨(k.2 i A y).1,λc L M=>?_⟩
  obtain⟨d,hd,rfl⟩:=qv L
  exact absurd (h.quiet y (k.2 i A y).2 (zM h.up ho y) d hd) M) hr
 refine⟨λi A y=>(T.2 i A y).1,λi A y c L=>?_⟩;have M:=P.quiet y (T.2 i A y).2 (e5 i A y) c L;refine⟨?_,M⟩;obtain⟨K,F,hs,_⟩:=P.f;have hI:=(hs.cl i A y).1.f c L trivial;have V:=(P.a i A y).2.p.c c L;obtain e|e|e:=V.k
 .exact e
 .exact absurd M (hI.mK e)
 have:=(V.u e).1;have:=(T.2 i A y).1;omega
def Wd.unused(W:Wd):Nat:=((List.range W.lQ).filter λt=> !mL W.mC t).length
theorem FJ{l:List Int}{t:Nat}(x:Int)(h:mL l t=true):mL (l++[x]) t=true:=by
 unfold mL at h|-
 grind
theorem tj{α:Type}{p q:α->Bool}(h:∀x,p x=true->q x=true):∀l:List α,(l.filter p).length<=(l.filter q).length
 |[]=>jr
 |a::l=>by
  have:=tj h l
  grind
theorem xo{α:Type}{p q:α->Bool}(h:∀x,p x=true->q x=true):∀(l:List α) (a:α),a∈l->q a=true->p a=false->(l.filter p).length<(l.filter q).length
 |[],a,ha,_,_=>absurd ha bz
 |b::l,a,ha,y,F=>by
  rw[cT,cT];obtain rfl|ha:=bh.1 ha
  .rw[az (qH F),aE y,df];have:=tj h l;omega
  have H:=xo h l a ha y F
  grind
theorem xp(W:Wd):(W.mM<W.lQ/\mL W.mC W.mM=false)\/(W.mM=W.lQ/\W.unused=0):=by
 unfold Wd.mM Wd.unused
 cases e:(List.range W.lQ).find? λt=> !mL W.mC t with
 |none=>simp_all
 |some t=>grind
theorem KS(h:Pp S W)(y:W.ac[i]?=some A)(t:Int):(A.X.iX=[]/\W.jK i 0 t=W)\/(A.X.iX≠[]/\(W.jK i 0 t).mC=W.mC++[t]/\(W.jK i 0 t).lQ=W.lQ/\(W.jK i 0 t).ac[i]?=some {A with X:=A.X.jK (A.X.iX.getD 0 0) t}/\∀j,j≠i->(W.jK i 0 t).ac[j]?=W.ac[j]?):=by
 have L:=(h.a i A y).1;unfold Wd.jK;rw[(rk ((aj.1 y).1)),y];dsimp only;by_cases F:A.X.iX=[]
 .grind
 right;rw[aE ⟨L,F⟩];have H:ju 0 A.X.iX.length=0:=rk (cU.2 F);rw[H];refine⟨F,rfl,rfl,?_,λj M=>?_⟩
 .show(W.ac.modify i _)[i]?=_
  grind
 show(W.ac.modify i _)[j]?=_
 grind
theorem Nx(y:W'.lQ=W.lQ)(t:Int)(F:W'.mC=W.mC++[t]):W'.unused<=W.unused:=by
 unfold Wd.unused;rw[y,F];refine tj (λx h=>?_) _
 cases e:mL W.mC x with
 |false=>rfl
 |true=>rw[FJ t e]at h;cases h
theorem Of(y:W'.lQ=W.lQ)(F:W.mM<W.lQ)(L:mL W.mC W.mM=false)(H:W'.mC=W.mC++[(W.mM:Int)]):W'.unused<W.unused:=by
 unfold Wd.unused;rw[y,H];refine xo (λx h=>?_) _ W.mM (di.2 F) (by grind) (by unfold mL;simp)
 cases e:mL W.mC x with
 |false=>rfl
 |true=>rw[FJ _ e]at h;cases h
theorem tG(h:Pp S W)(L:W.ac[i]?=some A):(W.jK i 0 W.mM).unused<=W.unused/\(A.X.iX≠[]->0<W.unused->(W.jK i 0 W.mM).unused<W.unused):=by
 obtain⟨M,y⟩|⟨M,y,F,_,_⟩:=KS h L W.mM
 .grind
 refine⟨Nx F _ y,λ_ T=>?_⟩;obtain⟨P,H⟩|⟨_,H⟩:=xp W
 .exact Of F P H y
 omega
theorem xe(h:Pp S W)(y:W.ac[i]?=some A):∀k,(W.kJ i k).unused<=W.unused/\(A.X.iX≠[]->0<k->0<W.unused->(W.kJ i k).unused<W.unused)
 |0=>⟨jr,λ_ e=>absurd e C⟩
 |k+1=>by
  have P:=(aj.1 y).1;have F:=xe h y k;have H:=Gv.kJ h P k;obtain⟨B,T,_⟩:=H.x A y;have g:=tG H.p T;refine⟨aF g.1 F.1,λL _ M=>?_⟩;by_cases V:0<k
  .exact Nat.lt_of_le_of_lt g.1 (F.2 L V M)
  obtain rfl:k=0:=C;exact(tG h y).2 L M
def Kq(X:Cx):X.kG.iX=X.iX:=by
 have h:({X with wl:=X.wb,A:=0,mv:=Mv.zero,a:=X.a.map λ(c:jn)=>{c with q:={c.q with mi:=true}}}:Cx).iX=X.iX:=by unfold Cx.iX;rw[dZ,br];rfl
 unfold Cx.kG;dsimp only;repeat' split
 all_goals exact h
theorem Bh(h:Pp S W)(i:Nat):(W.j0 i).unused<=W.unused/\∀A,W.ac[i]?=some A->A.X.iX≠[]->0<W.unused->(W.j0 i).unused<W.unused:=by
 have y:=h.jG i;unfold Wd.jG at y;unfold Wd.j0
 cases L:W.ac[i]? with
 |none=>exact⟨jr,λA e=>by cases e⟩
 |some A=>
  rw[L]at y;dsimp only at y|-;rw[aE (h.a i A L).1]at y|-;have H:(W.pN i A.X.kG).ac[i]?=some {A with X:=A.X.kG}:=by
   show(W.ac.modify i _)[i]?=_
   grind
  have g:=xe y H A.X.kG.iX.length;refine⟨g.1,λT e M P=>?_⟩
  cases e;have F:A.X.kG.iX≠[]:=by rw[Kq];exact M
  exact g.2 F (cU.2 F) P
theorem pJ(h:Pp S W)(F:Q2 W):∀k,(W.iT k).unused<=W.unused/\(∀(i:Nat) (A:Ac),i<k->W.ac[i]?=some A->A.X.iX≠[]->0<W.unused->(W.iT k).unused<W.unused)
 |0=>⟨jr,λi A e=>absurd e C⟩
 |k+1=>by
  obtain⟨i1,i2⟩:=pJ h F k;obtain⟨t1,t2,t3,t4⟩:=h.iT F k;obtain⟨M,r2⟩:=Bh t1 k;rw[lZ];refine⟨aF M i1,λi A hi P hw h0=>?_⟩;by_cases e:i<k
  .exact Nat.lt_of_le_of_lt M (i2 i A e P hw h0)
  obtain rfl:i=k:=C;by_cases h9:(W.iT i).unused=W.unused
  .have H:∀y,y<=i->(W.iT y).ac[i]?=some A:=λy=>by
    induction y with
    |zero=>intro _;exact P
    |succ y ih=>
     intro a0;rw[lZ];obtain⟨u1,_⟩:=h.iT F y;have L:Q2 (W.iT y):=λj B T e'=>by
      have hj:=(aj.1 T).1;obtain⟨_,v2,_,v4⟩:=h.iT F y;obtain⟨cQ,V⟩:∃cQ,W.ac[j]?=some cQ:=⟨_,ah C⟩;obtain⟨B',b1,b2,b3,_⟩:=v4 j cQ V;rw[T]at b1
      cases b1;rw[b3];exact F j cQ V (b2▸e')
     rw[(u1.j0 L y).2.1 i C];exact ih C
   grind
  omega
def Wt(X:Cx):Prop:=∀c∈X.a,c.kind=1/\c.q.nodes=[]
def Wt.lD(h:Wt X):X.iX=X.a.map (·.gL):=by unfold Cx.iX;congr 1;rw[eD];intro c y;unfold Cx.lD Qn.N;rw[(h c y).1,(h c y).2];rfl
def Wt.kG(h:Wt X):Wt X.kG/\X.kG.a.length=X.a.length:=by
 have y:Wt {X with wl:=X.wb,A:=0,mv:=Mv.zero,a:=X.a.map λ(c:jn)=>{c with q:={c.q with mi:=true}}}:=λc F=>by obtain⟨d,H,rfl⟩:=aD.1 (show c∈X.a.map λ(c:jn)=>{c with q:={c.q with mi:=true}}from F);exact h d H
 have L:(X.a.map λ(c:jn)=>{c with q:={c.q with mi:=true}}).length=X.a.length:=ay ..;unfold Cx.kG;dsimp only;repeat' split
 all_goals exact⟨y,L⟩
theorem Wt.P8(h:Wt X)(L:X.a.Pairwise λc d=>c.gL<d.gL){t:Int}(P:X.oO t=false)(F:X.a≠[]):Wt (X.jK (X.iX.getD 0 0) t)/\(X.jK (X.iX.getD 0 0) t).a.length+1=X.a.length:=by
 obtain⟨c,l,y⟩:∃c l,X.a=c::l:=bQ F;have T:X.iX.getD 0 0=c.gL:=by rw[h.lD,y];rfl
 rw[T];unfold Cx.jK;rw[y,List.find?_cons_of_pos bz];dsimp only;rw[P,az bz];have H:(X.fin c ⟨7,0,[]⟩).a=l:=by
  show X.a.filter _=l;rw[y,cT,az bz,eD];intro d M;rw[y]at L;have:=(cI.1 L).1 d M
  grind
 exact⟨λd M=> (h d (by grind)),by rw[H,df]⟩
theorem JG:∀(k:Nat) {W:Wd},Pp S W->∀A,W.ac[i]?=some A->Wt A.X->A.X.a.length=k->W.unused=0->∃B,(W.kJ i k).ac[i]?=some B/\B.X.a=[]:=by
 have H:∀(k:Nat) {W:Wd},Pp S W->∀A,W.ac[i]?=some A->Wt A.X->W.unused=0->∀j,j<=A.X.a.length->∃B,(W.kJ i j).ac[i]?=some B/\Wt B.X/\B.X.a.length+j=A.X.a.length/\(W.kJ i j).unused=0:=λ_ W h A F L M j=>by
  have hi:=(aj.1 F).1;induction j with
  |zero=>intro _;exact⟨A,F,L,rfl,M⟩
  |succ j ih=>
   intro hj;obtain⟨B,b1,b2,P,b4⟩:=ih C;have T:=Gv.kJ h hi j;have V:=(T.p.k.ac i B b1).x;have a0:(W.kJ i j).mM=(W.kJ i j).lQ:=by
    obtain⟨f1,f2⟩|⟨f1,_⟩:=xp (W.kJ i j)
    .exfalso;have:(W.kJ i j).unused≠0:=by unfold Wd.unused;intro e;simp_all
     exact this b4
    exact f1
   have y:B.X.a≠[]:=by intro e;rw[e]at P;simp at P;omega
   have a1:B.X.iX≠[]:=by rw[b2.lD];simpa using y
   show∃cQ,((W.kJ i j).jK i 0 (W.kJ i j).mM).ac[i]?=some cQ/\Wt cQ.X/\cQ.X.a.length+(j+1)=A.X.a.length/\((W.kJ i j).jK i 0 (W.kJ i j).mM).unused=0;have a3:=(tG T.p b1).1;obtain⟨e1,_⟩|⟨_,_,_,e4,_⟩:=KS T.p b1 (W.kJ i j).mM
   .exact absurd e1 a1
   have a2:B.X.oO ((W.kJ i j).mM:Int)=false:=by unfold Cx.oO;have c1:B.X.n=(W.kJ i j).n:=V.d.1.1;have c2:B.X.ce=(W.kJ i j).ce:=V.d.2.2.1;rw[a0,c1,c2];unfold Wd.lQ;simp
   obtain⟨g1,g2⟩:=b2.P8 V.a.gL a2 y;exact⟨_,e4,g1,by show(B.X.jK _ _).a.length+(j+1)=_;omega,C⟩
 intro k W hW A F L hk M;obtain⟨B,b1,_,P,_⟩:=H k hW A F L M k C;refine⟨B,b1,?_⟩;have:B.X.a.length=0:=C;exact aW.1 this
def QA(W:Wd):Prop:=∀(i:Nat) (A:Ac),W.ac[i]?=some A->A.X.a=[]
def Pu(h:X.a=[])(fr:Int)(p:Pk):(X.recv fr p).a=[]:=by
 have F:∀e,(X.gR e).a=[]:=λe=>by
  unfold Cx.gR;repeat' split
  all_goals exact h
 have y:∀Y:Cx,Y.a=[]->Y.jS.a=[]:=λY h=>by unfold Cx.jS;split<;>exact h
 have H:∀Y:Cx,Y.a=[]->Y.jB.a=[]:=λY h=>by unfold Cx.jB;dsimp only;split<;>exact h
 have M:∀(Y:Cx) (v:List Int),Y.a=[]->(Y.kX v).a=[]:=λY v h=>by
  unfold Cx.kX;split
  .exact h
  dsimp only;rw[h];split
  .rfl
  rfl
 have L:∀Y:Cx,Y.a=[]->Y.jM.a=[]:=λY h=>by
  unfold Cx.jM;split
  .exact h
  dsimp only;refine y _ ?_;split<;>exact h
 unfold Cx.recv;split
 .unfold Cx.jJ;split
  .split
   .exact F _
   exact h
  split
  .split
   .exact F _
   unfold Cx.ld;split
   .exact y _ h
   split
   .exact H _ h
   exact h
  rw[h];exact h
 .unfold Cx.kK;split
  .dsimp only;split
   .generalize (if(X.gR _).mv.A.A.kd=7/\(X.gR _).mv.D≠[]then(X.gR _).mv.A.D++[(fr,_)]else(X.gR _).mv.D)=B;split
    .unfold Cx.kr;dsimp only;repeat' split
     all_goals first|exact M _ _ (F _)|exact F _|exact L _ (F _)
    split
    .exact H _ (F _)
    split
    .unfold Cx.kx;split
     .exact M _ _ (F _)
     exact F _
    exact F _
   exact F _
  exact h
 exact h
theorem CL:∀(ms:List Le) {X:Cx},X.a=[]->(X.D ms).a=[]
 |[],_,h=>h
 |l::ms,_,h=>CL ms (Pu h l.fr l.pk)
def GY(h:X.a=[]):X.jE.a=[]:=by show X.a.map _=[];rw[h];rfl
def Pp.Pe(h:Pp S W)(H:QA W):QA (W.lj 300).1:=
 (h.CU QA (λW h k i B y=>by
  obtain⟨A,F,rfl⟩:=qK h.k h.up y
  exact CL _ (GY (k i A F))) (λW h k _ i B y=>by
  rw[(nt h.k h.up).2 i]at y
  obtain⟨A,F,rfl⟩:=bN.1 y
  exact GY (k i A F)) H).2.2.1
theorem Fm(h:Pp S W)(L:W.ac[i]?=some A)(P:Wt A.X)(h0:W.unused=0\/A.X.a=[]):∃B,(W.j0 i).ac[i]?=some B/\B.X.a=[]:=by
 have F:=h.jG i;unfold Wd.jG at F;unfold Wd.j0;rw[L]at F|-;dsimp only at F|-;rw[aE (h.a i A L).1]at F|-;obtain⟨M,T⟩:=P.kG;have H:(W.pN i A.X.kG).ac[i]?=some {A with X:=A.X.kG}:=by
  show(W.ac.modify i _)[i]?=_
  grind
 have y:A.X.kG.iX.length=A.X.kG.a.length:=by rw[M.lD,ay]
 obtain h0|h0:=h0
 .rw[y];exact JG _ F _ H M rfl h0
 rw[y,T,h0];exact⟨_,H,aW.1 (by grind)⟩
theorem Pp.C3(h:Pp S W)(M:Q2 W)(hw:Wn W)(h0:W.unused=0\/QA W):QA W.round.1:=by
 have a0:∀k,∀(i:Nat) (B:Ac),i<k->(W.iT k).ac[i]?=some B->B.X.a=[]:=λk=>by
  induction k with
  |zero=>intro i B e;omega
  |succ k ih=>
   intro i B hi y;obtain⟨P,t2,t3,t4⟩:=h.iT M k;have T:Q2 (W.iT k):=λj B y e'=>by
    have hj:=(aj.1 y).1;obtain⟨cQ,F⟩:∃cQ,W.ac[j]?=some cQ:=⟨_,ah C⟩;obtain⟨B',b1,b2,b3,_⟩:=t4 j cQ F;rw[y]at b1
    cases b1;rw[b3];exact M j cQ F (b2▸e')
   rw[lZ]at y;by_cases e:i=k
   .subst e;have hj:i<(W.iT i).ac.length:=by have:=(aj.1 y).1;rwa[(P.j0 T i).2.2.1]at this
    obtain⟨cQ,F⟩:=nS hj;have L:∀H,H<=i->(W.iT H).ac[i]?=W.ac[i]?:=λH=>by
     induction H with
     |zero=>intro _;rfl
     |succ H a1=>
      intro a3;rw[lZ];obtain⟨u1,v2,_,v4⟩:=h.iT M H;have a2:Q2 (W.iT H):=λj B y e'=>by
       have hj:=(aj.1 y).1;obtain⟨cQ,F⟩:∃cQ,W.ac[j]?=some cQ:=⟨_,ah C⟩;obtain⟨B',b1,b2,b3,_⟩:=v4 j cQ F;rw[y]at b1
       cases b1;rw[b3];exact M j cQ F (b2▸e')
      rw[(u1.j0 a2 H).2.1 i C];exact a1 C
    have V:W.ac[i]?=some cQ:=by rw[<-L i jr];exact F
    obtain⟨D,d1,d2⟩:=Fm P F (hw i cQ V) (h0.imp (λe=>by have:=(pJ h M i).1;omega) λe=>e i cQ V);rw[y]at d1
    cases d1;exact d2
   rw[(P.j0 T k).2.1 i e]at y;exact ih i B C y
 obtain⟨P,t2,_⟩:=h.iT M W.ac.length;exact P.Pe λi A hA=>a0 W.ac.length i A (gM ((aj.1 hA).1)) hA
end Go.Proofs.YtbghhbpacijmmaaGreat
