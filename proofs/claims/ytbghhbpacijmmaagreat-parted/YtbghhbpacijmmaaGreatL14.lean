import Derived.Test.YtbghhbpacijmmaaGreatL13
open Go.Proofs.Tryz
namespace Go.Proofs.YtbghhbpacijmmaaGreat
set_option maxRecDepth 99999
set_option maxHeartbeats 0
set_option linter.defProp false
open Go.RowKit Go.Maps
attribute [local go_sem ↓] Go.wp_at_zero Go.wp_at_succ
variable {W W' W2:Wd} {w:World} {cP fz:Nat->Nat} {g k i n a gi ce m v j:Nat} {V:WV} {S:Cf} {c:Kl} {K K':Kn} {F F':Nat->Nat->Fl} {B:List (Nat×Obj)} {A:Ac} {ca pa:Option Addr} {cs:List Value} {vv:List Int} {gF:List Kl}
section
variable{o o' c':Kl}
def Kn.SS(K:Kn)(t:Ct):Kn:={K with Fu:=λx=>K.Fu x\/x=t}
def Lp(t):mE S K (K.SS t):=⟨⟨[],by simp[Kn.SS]⟩,λ_=>xb.refl ..,λ_ _=>BJ.refl _,λ_ _ _ h=>h,λ_ _ _ h=>.inl h,λ_ _ _ h=>h,λ_ _=>⟨rfl,rfl⟩,λ_ _ _ h=>h,λ_ h=>.inl h⟩
def Ud(t)(h:Kw S K):Kw S (K.SS t):=by have y:mE S K _:=Lp t;exact⟨⟨h.l0,h.ls,h.lc,h.f,h.au,h.av,h.pu⟩,λu H=>(h.sd u H).L y,λq M=>(h.vd q M).L y,h.va⟩
def NY{X:Cx}(y:∀c∈X.a,∀r,X.e[c.gL]?=some r->r.wh=0)(n)(t):∀(k:Nat) (r:Rz),X.e[k]?=some r->r.wh≠0->(X.jK n t).e[k]?=some r:=λk r H M=>by
 unfold Cx.jK Cx.dO;split
 .omega
 rename_i c P;have Q:k≠c.gL:=λe=>M (y c (bu P) r (j9 e H));have h:∀(L:Rz),(X.e.set c.gL L)[k]?=some r:=λL=>by rw[aH (λe=>Q e.symm)];exact H
 dsimp only;repeat' split
 all_goals first|exact H|exact h _
def TV(X:Cx)(n)(t):(X.jK n t).id=X.id:=by
 unfold Cx.jK Cx.dO;dsimp only;repeat' split
 all_goals rfl
def zT(i n:Nat)(t:Int)(c:Kl):Kl:=if c.a=i/\c.b=n then{c with A:=c.A++[t]}else c
def xk(i n)(t)(c):IC c (zT i n t c)/\(zT i n t c).fin=c.fin/\(zT i n t c).r=c.r:=by
 unfold zT;split
 .exact⟨⟨⟨rfl,rfl,rfl,rfl,rfl,rfl⟩,λa h=>dG _ h,λ_=>⟨rfl,rfl⟩⟩,rfl,rfl⟩
 exact⟨IC.refl c,rfl,rfl⟩
def SI.oR(h:SI S K F W)(hw:Wk W)(hA:W.ac[i]?=some A)(aa:A.up=true)(hn:n∈A.X.iX)(t):∃K',SI S K' F (W.oR i A n t):=by
 obtain⟨⟨s1,s2⟩,s3,s4⟩:=h.s;obtain⟨y,ab,rfl⟩:=aD.1 hn;obtain⟨a4,T⟩:=aU.1 ab;have Z:y.kind=1:=by unfold Cx.lD at T;simp only[bL,ZT]at T;exact T.1
 obtain⟨q,hq,q1,q2,q3,q4,q5,q6,q7⟩:=((hw.ac i A hA).x.f y a4).st;obtain⟨W1,H⟩:=gG ((({W with jl:=W.jl+1}:Wd).CP i y.gL t):Wd);have ec:W1.gF=W.gF.map (zT i y.gL t):=by rw[<-H];rfl
 have ea:W1.ac=W.ac:=by rw[<-H];rfl
 have ep:W1.pl=W.pl/\W1.iN=W.iN/\(W1.n=W.n/\W1.m=W.m)/\W1.v=W.v/\W1.ce=W.ce:=by rw[<-H];exact⟨rfl,rfl,⟨rfl,rfl⟩,rfl,rfl⟩
 have hg:Gb W.gF W1.gF:=λo ho=>⟨_,by rw[ec];exact aD.2 ⟨o,ho,rfl⟩,(xk i y.gL t o).1⟩;have a0:zT i y.gL t q∈W1.gF:=by rw[ec];exact aD.2 ⟨q,hq,rfl⟩
 have M:zT i y.gL t q={q with A:=q.A++[t]}:=by unfold zT;rw[aE ⟨q1,q2⟩]
 have Y:y.ij=(zT i y.gL t q).ij:=by rw[M,q4];unfold Kl.ij;show _=(⟨if q.kind=1 then 8 else 0,ja q.a,q.b,q.value⟩:Ct);rw[q1,q2,q3]
 have a5:(zT i y.gL t q).kind=1:=by rw[M];exact q3.H Z
 have a1:t∈(zT i y.gL t q).A:=by rw[M];exact cM _ (cw.2 rfl)
 have a2:=(h.cl i A hA).1;have a6:A.X.oO t=true↔Ok S t:=by unfold Cx.oO Ok;rw[a2.b.n,a2.b.c];simp
 obtain⟨Q,kl,kw,e1,e2,e3,e4,e5⟩:∃Q,mE S K Q/\Kw S Q/\Q.P0=K.P0/\Q.b=K.b/\Q.D=K.D/\(Q.c=K.c/\Q.d=K.d)/\(∀x,Q.Fu x->K.Fu x\/(x=y.ij/\¬Ok S t))/\(A.X.oO t=false->Q.Fu y.ij):=by
  by_cases a7:Ok S t
  .exact⟨K,mE.refl ..,h.k,rfl,rfl,rfl,⟨rfl,rfl⟩,λx e=>.inl e,λe=>by rw[a6.2 a7]at e;exact absurd e bT⟩
  exact⟨K.SS y.ij,Lp _,Ud _ h.k,rfl,rfl,rfl,⟨rfl,rfl⟩,λx e=>e.imp (λe=>e) λe=>⟨e,a7⟩,λ_=>.inr rfl⟩
 have a8:∀(i:Nat) (A:Ac),W.ac[i]?=some A->∃A',W.ac[i]?=some A'/\Qg A.X A'.X/\∀c∈A.X.a,F i c.gL=F i c.gL:=λi A hA=>⟨A,hA,Qg.refl _,λ_ _=>rfl⟩;have h1:SI S Q F W1:=h.V7 kl kw e1 e2 (λx hx=>(e5.1 x hx).imp (λe=>e) λ⟨e,ac⟩=>⟨_,a0,e.H Y,a5,t,a1,ac⟩) ⟨ep.2.2.1,ep.2.2.2⟩ (by rw[ep.1];exact λj P hP=>(h.nd j P hP).go (W:=W) (W':=W) kl (mT e3) (mT e4.1) h.cl.mv a8) (by rw[ep.2.1];exact λl hl=>(h.po l hl).L kl h.cl.mv) ea hg (λc' a9=>by
  rw[ec]at a9
  obtain⟨d,hd,rfl⟩:=aD.1 a9
  obtain⟨g1,g2,g3⟩:=xk i y.gL t d
  exact .inr ⟨d,hd,g1,g2,g3,rfl⟩) λj B hB=>⟨λ_ _=>rfl,λc hc=>(hw.ac j B hB).x.a.lt c hc⟩
 have a3:W1.ac[i]?=some A:=jf ea hA;have ad:=P7 (t:=t) (h1.cl i A a3).1 kw a4 T ⟨_,a0,jf M q1,jf M q2,jf M q3,jf M q4,λ_=>.inr a1,λe=>tD Z e,λe=>tD Z e⟩ e5.2;obtain⟨K2,_,k2,_⟩:=h1.act (W':=W.oR i A y.gL t) a3 ad (λt' a⟨g1,g2,g3⟩=>⟨_,a0,jf g1 Y,a5,jf g2 a1⟩) (TV ..) (NY a2.g y.gL t) (λc hc e hf=>by
  rw[ec]at hc
  obtain⟨d,hd,rfl⟩:=aD.1 hc
  obtain⟨g1,g2,g3⟩:=xk i y.gL t d
  rw[g2]at hf
  rw[g1.s.1]at e
  rw[g1.s.2.1,g3]
  exact ER hw hA aa d hd e hf) (by unfold Wd.oR;rw[H];exact⟨⟨rfl,rfl⟩,rfl,rfl⟩) (by unfold Wd.oR;rw[H];rfl) (by unfold Wd.oR;rw[H];rfl) (by unfold Wd.oR;rw[H];rfl) (λj=>by
   unfold Wd.oR
   rw[H]
   exact vD a3 _ j)
 exact⟨K2,k2⟩
def E3(X:Cx)(kind pos)(value)(k)(L:k<X.e.length):(X.lV kind pos value).e[k]?=X.e[k]?:=by
 have H:∀(Y:Cx) (c:jn),(Y.dO c).e=Y.e:=λY c=>by
  unfold Cx.dO;repeat' split
  all_goals rfl
 have y:∀c:jn,(X.jb c).e[k]?=X.e[k]?:=λc=>aB L;have h:∀(c:jn),c.gL=X.e.length->((X.jb c).ku c).e[k]?=X.e[k]?:=λc M=>by
  unfold Cx.ku;repeat' split
  all_goals first|exact y c|(show((X.jb c).e.set c.gL _)[k]?=_;rw[aH C];exact y c)
 unfold Cx.lV;split
 .exact y _
 split
 .unfold Cx.EG;rw[H];exact y _
 unfold Cx.change;dsimp only;split
 .rw[rT];exact h _ rfl
 exact h _ rfl
def Mu(X:Cx)(kind pos)(value):(X.lV kind pos value).id=X.id:=by
 unfold Cx.lV Cx.EG Cx.change Cx.ku;dsimp only;repeat' split
 all_goals rfl
def SI.mu(h:SI S K F W)(Y:Wk W)(hv:sC W)(hA:W.ac[i]?=some A)(a5:A.up=true)(kind b:Int)(hk:kind=1\/kind=2\/kind=5):(∃K' F',SI S K' F' (W.mu kind b i A))/\sC (W.mu kind b i A):=by
 obtain⟨⟨s1,s2⟩,s3,s4⟩:=h.s;obtain⟨p1,p2,p3,p5⟩:=Al Y kind b hk;have a2:=sP Y hA;have jt:∀d∈A.X.a,d.gL<A.X.e.length:=λd hd=>(Y.ac i A hA).x.a.lt d hd;obtain⟨N,hN⟩:=gG ((⟨i,W.nM i,kind,W.lO kind b,W.mF kind,[],W.a,0,Rz.zero⟩:Kl):Kl);have n1:N.a=i/\N.b=A.X.e.length/\N.kind=kind/\N.pos=W.lO kind b/\N.value=W.mF kind/\N.fin=0:=by rw[<-hN];exact⟨rfl,a2,rfl,rfl,rfl,rfl⟩
 obtain⟨n1,n2,n3,n4,n5,n6⟩:=n1;obtain⟨W1,Q⟩:=gG (({W with gF:=W.gF++[N]}:Wd):Wd);have ec:W1.gF=W.gF++[N]:=by rw[<-Q]
 have ea:W1.ac=W.ac:=by rw[<-Q]
 have ep:W1.pl=W.pl/\W1.iN=W.iN/\(W1.n=W.n/\W1.m=W.m)/\W1.v=W.v/\W1.ce=W.ce:=by rw[<-Q];exact⟨rfl,rfl,⟨rfl,rfl⟩,rfl,rfl⟩
 have Z:kind≠1->W.mF kind=[]:=λe=>by unfold Wd.mF;rw[az e]
 have a6:sC W1:=λk c hc=>by
  rw[ec]at hc;by_cases hk:k<W.gF.length
  .rw[aB hk]at hc;exact hv k c hc
  rw[aC C]at hc;have a7:=(aj.1 hc).1;simp at a7;have a3:k=W.gF.length:=C;rw[a3]at hc;simp at hc;rw[<-hc,n5,n3,a3];rfl
 have y:W.mu kind b i A=W1.pN i (A.X.lV kind (W.lO kind b) (W.mF kind)):=by rw[<-Q,<-hN];rfl
 refine⟨?_,jf y a6⟩;have hg:Gb W.gF W1.gF:=λo ho=>⟨o,by rw[ec];exact dG _ ho,IC.refl o⟩;have a8:N∈W1.gF:=by rw[ec];exact cM _ (cw.2 rfl)
 obtain⟨T,a4⟩:∃T:Nat->Nat->Fl,T=λa k=>if a=i/\k=A.X.e.length then K.D else F a k:=⟨_,rfl⟩
 have f1:T i A.X.e.length=K.D:=by rw[a4];exact aE ⟨rfl,rfl⟩
 have f2:∀(j:Nat) (B:Ac),W.ac[j]?=some B->∀k,k<B.X.e.length->T j k=F j k:=λj B H k hk=>by rw[a4];refine az ?_;rintro⟨q1,q2⟩;rw[q1,hA]at H;simp at H;subst H;omega
 have a0:∀(j:Nat) (B:Ac),W.ac[j]?=some B->∃A',W.ac[j]?=some A'/\Qg B.X A'.X/\∀c∈B.X.a,T j c.gL=F j c.gL:=λj B H=>⟨B,H,Qg.refl _,λc hc=>f2 j B H _ ((Y.ac j B H).x.a.lt c hc)⟩;have h1:SI S K T W1:=h.V7 (mE.refl ..) h.k rfl rfl (λ_ x=>.inl x) ⟨ep.2.2.1,ep.2.2.2⟩ (by rw[ep.1];exact λj P hP=>(h.nd j P hP).go (W:=W) (W':=W) (mE.refl ..) rfl rfl h.cl.mv a0) (by rw[ep.2.1];exact λl hl=>(h.po l hl).go (mE.refl ..) h.cl.mv a0) ea hg (λc' hc'=>by
  rw[ec]at hc'
  obtain hc'|hc':=aT.1 hc'
  .right
   obtain⟨B,H,b1,_⟩:=(Y.ca c' hc').ac
   exact⟨c',hc',IC.refl _,rfl,rfl,f2 _ B H _ b1⟩
  .simp at hc'
   subst hc'
   left
   exact⟨n6,by rw[n1,n2];exact f1⟩) λj B H=>⟨f2 j B H,λc hc=>(Y.ac j B H).x.a.lt c hc⟩
 have a1:W1.ac[i]?=some A:=jf ea hA;obtain⟨x1,x2⟩:=h1.cl i A a1;have L:Vq S K (T i) A.X:=⟨f1,λt a e x=>by
  rintro⟨q1,q2⟩
  obtain⟨o,ho,o1,_⟩:=h.p0 t a e x
  rw[o1]at q1 q2
  obtain⟨B,H,b1,_⟩:=(Y.ca o ho).ac
  have a9:o.a=i:=oT (by rw[<-x2,<-q1];rfl)
  rw[a9,hA]at H
  simp at H
  subst H
  have:(o.b:Int)=A.X.e.length:=q2
  omega⟩
 have hJ:∀un ad:Int,(kind=1->ad=0)->(kind=2->ad=W.lO kind b)->(kind=5->un=W.lO kind b)->W1.J i A.X.e.length kind ⟨if kind=1 then 8 else 0,A.X.id,A.X.e.length,W.mF kind⟩ un ad:=λun ad q1 q2 q3=>⟨N,a8,n1,n2,n3,kz n5 x2,λe=>.inl (q1 e),λe=>by rw[n4];exact q2 e,λe=>by rw[n4];exact q3 e⟩;have aa:Dq S K (T i) (W1.J i) G0 A.X (A.X.lV kind (W.lO kind b) (W.mF kind)):=by
  unfold Cx.lV;obtain e|e|e:=hk
  .rw[aE e];have M:=hJ 0 0 (λ_=>rfl) (λq=>tD e q) λq=>tD e q;rw[aE e]at M;rw[e]at M|-;exact J6 x1 h.k L jt M
  .rw[az (qH e),aE e];have M:=hJ 0 (W.lO kind b) (λq=>tD e q) (λ_=>rfl) λq=>tD e q;rw[az (qH e),Z (qH e)]at M;have hp:=p3 e;rw[e]at M hp|-;exact Sr x1 h.k L jt ⟨by rwa[e]at p1,by rw[<-s1,<-s4];exact hp⟩ M
  rw[az (qH e),az (qH e)];have M:=hJ (W.lO kind b) 0 (λ_=>rfl) (λq=>tD e q) λ_=>rfl;rw[az (qH e),Z (qH e)]at M;rw[e]at M|-;exact Kf x1 h.k L jt M
 obtain⟨K2,_,k2,_⟩:=h1.act (W':=W.mu kind b i A) a1 aa (λ_ _ e=>e.elim) (Mu ..) (λk r hr _=>by rw[E3 _ _ _ _ _ (aj.1 hr).1];exact hr) (λc hc e hf=>by
  rw[ec]at hc
  obtain hc|hc:=aT.1 hc
  .exact ER Y hA a5 c hc e hf
  .simp at hc
   rw[hc]at hf
   exact absurd n6 hf) (by rw[y];exact⟨⟨rfl,rfl⟩,rfl,rfl⟩) (by rw[y]<;>rfl) (by rw[y]<;>rfl) (by rw[y]<;>rfl) (λj=>by
   rw[y]
   exact vD a1 _ j)
 exact⟨K2,T,k2⟩
end
def Sf.of(h:SI S K F W)(y:sC W):Sf S W:=⟨K,F,h,y⟩
def Tp(W:Wd)(k):(W.lM k).gF=W.gF:=by
 unfold Wd.lM;repeat' split
 all_goals rfl
theorem SI.T(h:SI S K F W)(y:Wk W):∀k,∃K',SI S K' F (W.T k)/\(∀l,vY S K F W.ac l->vY S K' F (W.T k).ac l)/\(W.T k).gF=W.gF
 |0=>⟨K,h.plain ⟨⟨rfl,rfl⟩,rfl,rfl⟩ h.nd (by simp[Wd.T]) rfl rfl,λ_ e=>e,rfl⟩
 |k+1=>by obtain⟨K',L,M,P⟩:=SI.T h y k;obtain⟨Q,_⟩:=uM y k;obtain⟨T,Y,Z⟩:=L.lM Q k;rw[qt];exact⟨T,Y,λl e=>Z l (M l e),(Tp _ k).H P⟩
theorem SI.lU:∀(y:List Le) {K:Kn} {W:Wd},SI S K F W->Wk W->sC W->(∀l∈y,vY S K F W.ac l/\ui (W.A 0) W.n W.m W.v l)->∃K',SI S K' F (W.lU y)/\sC (W.lU y)
 |[],K,W,h,_,H,_=>⟨K,h,H⟩
 |l::y,K,W,h,M,H,L=>by obtain⟨l1,l2⟩:=L l (aN ..);obtain⟨K',Q,T,Y⟩:=h.mQ M H l1 l2;obtain⟨Z,_⟩:=qR W l;exact SI.lU y Q (M.mQ l2) T λx P=>⟨Y x (L x (aX _ P)).1,Z.le (L x (aX _ P)).2⟩
def Sf.step(h:Sf S W)(P:Wk W):Sf S W.step:=by obtain⟨K,F,h,Q⟩:=h;obtain⟨T,H,Y,Z⟩:=h.T P _;obtain⟨w1,L,w3⟩:=qQ P;have h4:SI S T F ({W.iH with iN:=W.iN}:Wd):=H.plain ⟨⟨rfl,rfl⟩,rfl,rfl⟩ H.nd (λl y=>Y l (h.po l y)) rfl rfl;have M:sC _:=Q.D Z;obtain⟨K2,q1,q2⟩:=SI.lU W.iH.iN h4 w1 M λl y=>⟨H.po l y,by rw[L.n,L.m,L.v];exact w3 l y⟩;exact⟨K2,F,q1,q2⟩
theorem Sf.lj:∀(k:Nat) {W:Wd},Sf S W->Wk W->Sf S (W.lj k).1
 |0,W,h,_=>h
 |k+1,W,h,y=>by
  show Sf S (if W.iH.iN.length=0 then(W.step,true)else W.step.lj k).1;split
  .exact h.step y
  exact Sf.lj k (h.step y) (mN y).1
def Sf.jx(h:Sf S W)(y:Wk W):Sf S W.jx:=by obtain⟨K,F,h,H⟩:=h;obtain⟨L,M⟩:=h.jx y H;exact⟨K,F,L,M⟩
def Sf.plain(h:Sf S W)(H:(W'.n=W.n/\W'.m=W.m)/\W'.v=W.v/\W'.ce=W.ce)(L:W'.pl=W.pl)(M:∀l∈W'.iN,l∈W.iN)(y:W'.gF=W.gF)(P:W'.ac=W.ac):Sf S W':=by obtain⟨K,F,h,Q⟩:=h;exact⟨K,F,h.plain H (by rw[L];exact h.nd) (λl T=>h.po l (M l T)) y P,Q.D y⟩
def Sf.jG(h:Sf S W)(y:Wk W)(i):Sf S (W.jG i):=by obtain⟨K,F,h,H⟩:=h;obtain⟨K',_,L⟩:=h.jG y i;exact⟨K',F,L,H.D (Ci y i).2.2.2.2.2⟩
theorem Sf.kZ(h:Sf S W)(y:Wk W):∀k,Sf S (W.kZ k)
 |0=>h
 |k+1=>by rw[tf];exact(h.kZ y k).jG (rz y k).1 k
def Sf.lf(h:Sf S W)(y:Wk W):Sf S W.lf.1:=Sf.lj 300 (h.kZ y W.ac.length) (rz y W.ac.length).1
def Sf.oR(h:Sf S W)(H:Wk W)(L:W.ac[i]?=some A)(y:A.up=true)(M:n∈A.X.iX)(t):Sf S (W.oR i A n t):=by obtain⟨K,F,h,P⟩:=h;obtain⟨K',Q⟩:=h.oR H L y M t;refine⟨K',F,Q,P.map (λd=>?_) rfl⟩;obtain⟨g,_⟩:=xk i n t d;exact⟨g.s.2.2.1,g.s.2.2.2.2.1⟩
def Sf.jK(h:Sf S W)(y:Wk W)(a which t):Sf S (W.jK a which t):=by
 obtain e|⟨A,n,H,M,L,e⟩:=nG W a which t
 .simp_all
 rw[e];exact(h.oR y H M L t).jx (zn y H L t)
theorem Sf.call(h:Sf S W)(H:Wk W)(kind a b:Int)(M:kind=1\/kind=2\/kind=5):Sf S (W.call kind a b):=by
 have hn:=H.nw;have P:=(h.plain (W':=W.r9) ⟨⟨rfl,rfl⟩,rfl,rfl⟩ rfl (λ_ e=>e) rfl rfl).jx H.uS;have Q:=H.uS.jx (by grind);unfold Wd.call;split
 .exact h
 rename_i A T;split
 .rename_i L;split
  .exact P
  have y:=T;have Y:=(H.ac _ A T).x.pl;obtain⟨K,F,s,Z⟩:=id P;obtain⟨⟨K',F',k1⟩,k2⟩:=s.mu Q Z y L kind b M;exact(Sf.of k1 k2).jx (uy Q y C kind b M)
 exact h
def Sf.ks(h:Sf S W):Sf S W.ks:=by obtain⟨K,F,h,y⟩:=h;refine⟨K,F,h.ks,y.D ?_⟩;unfold Wd.ks;split<;>rfl
def vG(c:Kl):Int×List Int×Bool:=if c.fin=0 then(0,[],false)else if c.kind=1 then(if c.r.wh=1 then(c.r.ad,c.value,true)else(0,[],false))else if c.kind=2 then(if c.r.wh=8 then(c.pos,c.r.val,true)else(0,[],false))else(0,[],false)
structure CR(T:Int)(cs:List Kl):Prop where
 kd:∀c∈cs,c.kind=1\/c.kind=2\/c.kind=5
 Ym:∀c∈cs,c.fin≠0->c.kind=1->c.r.val=[]/\((c.r.wh=1/\c.r.ad∈c.A/\0<=c.r.ad/\c.r.ad<T)\/(c.r.wh=7/\c.r.ad=0/\∃t∈c.A,t<0\/T<=t))
 Ya:∀c∈cs,c.fin≠0->c.kind≠1->c.r.ad=0/\(c.r.val=[]\/c.r.wh=8)/\((c.kind=2/\(c.r.wh=8\/c.r.wh=3))\/(c.kind=5/\(c.r.wh=1\/c.r.wh=6)))
 uq:∀(i j:Nat) (c o:Kl),cs[i]?=some c->cs[j]?=some o->c.kind=1->o.kind=1->c.value=o.value->i=j
 mad:∀c∈cs,∀a v,vG c=(a,v,true)->v≠[]/\∃o∈cs,o.kind=1/\o.value=v/\o.c<c.fin/\a∈o.A/\(o.fin=0\/(o.r.wh=1/\o.r.ad=a))
 two:∀(i j:Nat) (c o:Kl),cs[i]?=some c->cs[j]?=some o->i≠j->(vG c).2.2=true->(vG o).2.2=true->(((vG c).1=(vG o).1->(vG c).2.1=(vG o).2.1)/\((vG c).2.1=(vG o).2.1->(vG c).1=(vG o).1))/\¬(c.kind=1/\o.kind=1/\(vG c).1=(vG o).1)
 PQ:∀c∈cs,∀o∈cs,o.fin≠0->o.fin<c.c->c.kind=2->c.fin≠0->¬((vG o).2.2=true/\(vG o).1=c.pos/\c.r.wh=3)
def GN(y:i<4294967296)(H:j<4294967296)(h:kP i=kP j):i=j:=by simp[kP]at h;omega
def Js(i):kP i≠[]:=by simp[kP]
section
variable{o:Kl}
theorem Qu(h:(vG c).2.2=true):c.fin≠0/\((c.kind=1/\c.r.wh=1/\vG c=(c.r.ad,c.value,true))\/(c.kind=2/\c.r.wh=8/\vG c=(c.pos,c.r.val,true))):=by
 unfold vG at h|-
 grind
def Qi(h:(vG c).2.2=true):WB c:=(Qu h).2.imp (λh=>⟨h.1,h.2.1⟩) λh=>⟨h.1,h.2.1⟩
structure YN(S:Cf)(K:Kn)(W:Wd)(c:Kl)(t:Ct)(a:Int):Prop where
 ad:(vG c).1=a
 v:(vG c).2.1=t.val
 f:uW S K a t
 o:∃o∈W.gF,o.c<c.fin/\EM o t a
 w:c.kind=1->t=c.ij
theorem EJ(y:sC W)(H:o∈W.gF){t:Ct}{a:Int}(h:EM o t a):t.val=o.value/\t.val≠[]:=by obtain⟨L,M,_⟩:=h;rw[L];refine⟨rfl,?_⟩;show o.value≠[];obtain⟨i,P,e⟩:=aV.1 H;have:=y i o (by grind);rw[aE M]at this;rw[this];exact Js i
def WO(h:SI S K F W)(hc:c∈W.gF)(L:(vG c).2.2=true):∃t a,YN S K W c t a:=by
 obtain⟨h0,y⟩:=Qu L;obtain⟨t,a,o,⟨b1,M⟩,P,Q,T⟩:=(h.ca c hc h0).m (Qi L);refine⟨t,a,?_⟩;obtain⟨k1,Y,H,Z⟩|⟨k1,Y,H,Z⟩:=b1<;>obtain⟨e0,_,e⟩|⟨e0,_,e⟩:=y
 .exact⟨kz e Z,by rw[e,H];rfl,M,⟨o,P,Q,T⟩,λ_=>H⟩
 .omega
 .omega
 exact⟨kz e H,by rw[e,Y];rfl,M,⟨o,P,Q,T⟩,λe=>C⟩
theorem Ev(h:SI S K F W)(Q:Wk W)(M:c∈W.gF)(T:c.fin≠0):∃y H,(c.kind=2->H=c.pos)/\Qf S K (F c.a c.b) c.kind c.ij y H c.r:=by
 obtain⟨kind,Y,y,H,⟨q,Z,q1,q2,q3,q4,q5,q6,q7⟩,z2,z3⟩:=(h.ca c M T).r;have L:=tT Q Z M q1 q2;subst L;have P:Y=q.ij:=by unfold Kl.ij;rw[q4,q3]
 grind
def I7(y:Wk W)(H:c∈W.gF)(L:o∈W.gF)(h:c.ij=o.ij):c=o:=by have M:ja c.a=ja o.a:=Z5 Ct.cl h;have P:(c.b:Int)=o.b:=Z5 Ct.ca h;exact tT y H L (oT M) C
def KT(h:SI S K F W)(M:Wk W)(ho:o∈W.gF)(hk:o.kind=1):∃x,(∀a,a≠x->Gu S K o.ij a)/\(o.fin≠0->o.r.wh=1->o.r.ad=x)/\(o.fin≠0->o.r.wh≠1->∀a,Gu S K o.ij a):=by
 by_cases H:o.fin≠0
 .obtain⟨P,iA,_,hr⟩:=Ev h M ho H;obtain⟨_,_,z|z⟩|⟨z,_⟩|⟨z,_⟩:=hr
  .exact⟨iA,z.2.2,λ_ _=>mT z.1,λ_ e=>absurd (mT z.1) e⟩
  .exact⟨0,λa _=>z.2.2 a,λ_ e=>tD z.1 e,λ_ _=>z.2.2⟩
  .omega
  omega
 obtain⟨A,hA,jt,_⟩:=(M.ca o ho).ac;obtain⟨x1,x2⟩:=h.cl _ A hA;have a0:=(M.ac _ A hA).x;obtain⟨r,hr⟩:=nS jt;by_cases Q:r.wh=0
 .obtain⟨cl,a1,T⟩:=(a0.g _ r hr).1 Q;have Y:=x1.f cl a1 trivial;obtain⟨q,hq,q1,q2,Z,q4,_⟩:=Y.st;have L:q=o:=tT M hq ho q1 (q2.H T);subst L;have y:cl.ij=q.ij:=by unfold Kl.ij;rw[q4,Z,q2,q1]
  have a2:cl.kind=1:=Z.symm.H hk;exact⟨cl.iA,λa ha=>by rw[<-y];exact Y.gu a2 a ha,λe=>absurd e H,λe=>absurd e H⟩
 obtain⟨kind,ij,P,iA,⟨q,hq,q1,q2,Z,q4,_⟩,z2,z3⟩:=x1.e _ r hr Q;have L:q=o:=tT M hq ho q1 q2;subst L;have y:ij=q.ij:=by unfold Kl.ij;rw[q4,Z]
 rw[<-Z,y]at z3;obtain⟨_,_,z|z⟩|⟨z,_⟩|⟨z,_⟩:=z3
 .exact⟨iA,z.2.2,λe=>absurd e H,λe=>absurd e H⟩
 .exact⟨0,λa _=>z.2.2 a,λe=>absurd e H,λe=>absurd e H⟩
 .omega
 omega
def Xg(h:SI S K F W)(hw:Wk W)(hv:sC W)(hn:W.gF.length<4294967296):CR (S.n*S.ce) W.gF:=by
 have kv:=h.k.toKv;have a1:∀(i j:Nat) (c o:Kl),W.gF[i]?=some c->W.gF[j]?=some o->c.kind=1->o.kind=1->c.value=o.value->i=j:=λi j c o hi hj k1 k2 e=>by have e1:=hv i c hi;have e2:=hv j o hj;rw[aE k1]at e1;rw[aE k2]at e2;have l1:=(aj.1 hi).1;have l2:=(aj.1 hj).1;exact GN C C (by rw[<-e1,<-e2];exact e)
 have a4:∀c∈W.gF,∀o∈W.gF,c.kind=1->o.kind=1->c.value=o.value->c=o:=λc y o L k1 k2 e=>by
  obtain⟨i,hi,ei⟩:=aV.1 y;obtain⟨j,hj,ej⟩:=aV.1 L;have h1:W.gF[i]?=some c:=by rw[<-ei];exact ah hi
  have h2:W.gF[j]?=some o:=by rw[<-ej];exact ah hj
  have:=a1 i j c o h1 h2 k1 k2 e;subst this;rw[h1]at h2;simpa using h2
 have T:∀c∈W.gF,∀t a,YN S K W c t a->∀o∈W.gF,EM o t a->∀x,(∀a,a≠x->Gu S K o.ij a)->a=x:=λc y t a M o L P x aa=>by refine bk λab=>?_;have hg:=aa a ab;rw[<-P.1]at hg;exact hg.no h.k M.f
 refine⟨λc y=>(hw.ca c y).kd,λc y hf hk=>?_,λc y hf hk=>?_,a1,λc y a v hb=>?_,λi j c o hi hj ac ad ag=>?_,λc y o L hf jt hk ai=>?_⟩
 .obtain⟨a0,iA,_,hr⟩:=Ev h hw y hf;obtain⟨_,_,z|z⟩|⟨z,_⟩|⟨z,_⟩:=hr
  .have a5:=z.2.1.1.2;obtain⟨o,L,P⟩:=h.Ou z.2.1;have Y:c=o:=I7 hw y L P.1;subst Y;rw[z.1];exact⟨rfl,.inl ⟨rfl,P.2.2,a5.1,a5.2⟩⟩
  .obtain⟨o,L,o1,o2,a,o3,o4⟩:=h.fu _ z.2.1;have Y:c=o:=I7 hw y L o1;subst Y;rw[z.1];refine⟨rfl,.inr ⟨rfl,rfl,a,o3,?_⟩⟩;unfold Ok at o4;omega
  .omega
  omega
 .obtain⟨a0,iA,_,hr⟩:=Ev h hw y hf;obtain⟨z,_⟩|⟨z,_,Z|Z⟩|⟨z,Z|Z⟩:=hr
  .exact absurd z hk
  .obtain⟨t,t1,t2⟩:=Z;obtain⟨o,L,P⟩:=h.Ou t2;have h8:t.kd=8:=JT P;rw[t1];exact⟨rfl,.inr h8,.inl ⟨z,.inl h8⟩⟩
  .rw[Z.1];exact⟨rfl,.inl rfl,.inl ⟨z,.inr rfl⟩⟩
  .rw[Z.1];exact⟨rfl,.inl rfl,.inr ⟨z,.inl rfl⟩⟩
  rw[Z.1];exact⟨rfl,.inl rfl,.inr ⟨z,.inr rfl⟩⟩
 .obtain⟨t,a',M⟩:=WO h y (mT hb);have e1:=M.ad;have e2:=M.v;rw[hb]at e1 e2;have ak:a=a':=e1;have a6:v=t.val:=e2;subst ak;obtain⟨o,L,o1,o2⟩:=M.o;have q:=EJ hv L o2;refine⟨jf a6 q.2,o,L,o2.2.1,kz a6 q.1,o1,o2.2.2,?_⟩;by_cases hf:o.fin=0
  .exact .inl hf
  right;obtain⟨x,x1,x2,x3⟩:=KT h hw L o2.2.1;have al:=T c y t a M o L o2 x x1;by_cases a2:o.r.wh=1
  .exact⟨a2,(x2 hf a2).H al.symm⟩
  have hg:=x3 hf a2 a;rw[<-o2.1]at hg;exact(hg.no h.k M.f).elim
 .have y:=aR hi;have L:=aR hj;obtain⟨t,a,M⟩:=WO h y ad;obtain⟨t',a',Q⟩:=WO h L ag;have a7:a=a'->t=t':=λe=>by have h2:=Q.f;rw[<-e]at h2;exact M.f.eq kv h2
  rw[M.ad,Q.ad,M.v,Q.v];refine⟨⟨λe=>by rw[a7 e],λe=>?_⟩,?_⟩
  .obtain⟨q,hq,_,q2⟩:=M.o;obtain⟨q',a8,_,a3⟩:=Q.o;have am:q=q':=a4 q hq q' a8 q2.2.1 a3.2.1 (by rw[<-(EJ hv hq q2).1,<-(EJ hv a8 a3).1];exact e);subst am;obtain⟨x,x1,_⟩:=KT h hw hq q2.2.1;rw[T c y t a M q hq q2 x x1,T o L t' a' Q q hq a3 x x1]
  rintro⟨k1,k2,e⟩;have h1:=M.w k1;have h2:=Q.w k2;have h3:=a7 e;rw[h1,h2]at h3;have Y:c=o:=I7 hw y L h3;subst Y;exact ac (a1 i j c c hi hj k1 k1 rfl)
 rintro⟨hb,ha,h3⟩;obtain⟨t,a,b1,b2⟩:=(h.fl o L c y hf jt).b (Qi hb);have an:a=c.pos:=by
  rw[<-ha];obtain⟨k1,k2,k3,k4⟩|⟨k1,k2,k3,k4⟩:=b1<;>rcases(Qu hb).2 with⟨e0,_,e⟩|⟨e0,_,e⟩
  .rw[e];exact k4
  .omega
  .omega
  rw[e];exact k3
 rw[an]at b2;obtain⟨a0,iA,a9,hr⟩:=Ev h hw y ai;rw[a9 hk]at hr;obtain⟨z,_⟩|⟨_,_,Z|Z⟩|⟨z,_⟩:=hr
 .omega
 .obtain⟨t',t1,t2⟩:=Z;obtain⟨q,hq,q2⟩:=h.Ou t2;have:=JT q2;rw[t1]at h3;have ap:t'.kd=3:=h3;omega
 .exact Z.2.no kv b2
 omega
end
def Az(n m:Nat)(i:Nat):Pl:=if i<n*m then⟨.unit ((i/m:Nat):Int) St.first,[],true,false⟩else⟨.voter VS.first,[],true,false⟩
def Wd.zero(n m v ce:Nat):Wd:=⟨n,m,v,ce,(List.range (n*m+v)).map (Az n m),[],[],[],0,[],[],0⟩
def Wd.start(n m v ce:Nat):Wd:=(Wd.zero n m v ce).ks
theorem Bk{P:Pl}(h:(Wd.zero n m v ce).pl[i]?=some P):i<n*m+v/\P=Az n m i:=by
 have y:((List.range _).map _)[i]?=some P:=h
 grind
def K6(S:Cf):Wk (Wd.zero S.n S.m S.v S.ce):=by
 obtain⟨h,y,H,L⟩:=S.A;have M:S.v%2=1:=by have:=S.ok;simp[oE]at this;omega
 refine⟨h,y,H,M,L,by simp[Wd.zero],λi P Q=>?_,by simp[Wd.zero],by simp[Wd.zero],by simp[Wd.zero],by simp[Wd.zero],by simp[Wd.zero],by simp[Wd.zero],by simp[Wd.zero],by simp[Wd.zero],by simp[Wd.zero]⟩;obtain⟨T,rfl⟩:=Bk Q;unfold Az;split
 .rename_i Y;exact⟨⟨Y,rfl,⟨bT,by show(0:Int)<=0+1;decide⟩,bT,λi=>Y8 (by show(0:Int)<=0;decide),λi e=>absurd rfl e⟩,LQ.nil⟩
 exact⟨⟨by show S.n*S.m<=i;omega,T,⟨λe=>⟨by show(0:Int)<=0;decide,by show(0:Int)<=200*0;decide⟩,λe=>⟨by show(0:Int)<=0;decide,by show(0:Int)<=200*0;decide⟩,λe=>by simp[VS.first,Y5],λe=>by simp[VS.first,Y5,nX],⟨bT,by show(0:Int)<=0+1;decide⟩⟩⟩,LQ.nil⟩
def GC(S:Cf):Wk (Wd.start S.n S.m S.v S.ce):=(K6 S).ks
def K0(S:Cf):Kn:=⟨[iR S.n S.m],λ_=>St.first,λ_=>VS.first,λ_ _ _=>False,λ_ _ _=>False,λ_=>0,λ_=>[],λ_ _ _=>False,λ_=>False⟩
theorem X4(S):Kw S (K0 S):=by
 refine⟨⟨rfl,λe R L H y=>?_,λe H y=>?_,λ_ _ _ h=>h.elim,λ_ _ _ _ h=>h.elim,λ_ _ _ h=>h.elim,λ_ _ _ _ _ _ h=>h.elim⟩,λu Q=>⟨by show(0:Int)<=0;decide,by show(0:Int)<=1;decide,by show(0:Int)<=0;decide,λ_ _=>rfl,λa T h=>absurd rfl h⟩,λq M=>⟨λe=>by show(0:Int)<=0;decide,λe=>by show(0:Int)<=0;decide,λe h=>absurd (show(0:Int)<0 from h) bz,by show(0:Int)<=1;decide⟩,λq e M h=>absurd (show(0:Int)<0 from h) bz⟩
 .contradiction
 have P:e<[iR S.n S.m].length:=y
 grind
def GO(S):Sf S (Wd.start S.n S.m S.v S.ce):=by
 have T:Sf S (Wd.zero S.n S.m S.v S.ce):=by
  refine⟨K0 S,λ_ _ _=>St.first,⟨⟨⟨rfl,rfl⟩,rfl,rfl⟩,X4 S,λi P Y=>?_,λi A y=>by simp[Wd.zero]at y,λi A y=>by simp[Wd.zero]at y,λl Z=>by simp[Wd.zero]at Z,λ_ _ _ h=>h.elim,λ_ h=>h.elim,λ_ _ _ h=>h.elim,λc H=>by simp[Wd.zero]at H,λo ho=>by simp[Wd.zero]at ho⟩,λi c H=>by simp[Wd.zero]at H⟩;obtain⟨hi,rfl⟩:=Bk Y;unfold Az;split
  .rename_i Q;have L:nN S.n S.m i:=⟨bz,C⟩;exact⟨⟨rfl,L⟩,rfl,bz⟩
  rename_i Q;have gN:jP S.n S.m i=100+i-(S.n*S.m:Nat):=by unfold jP;rw[az Q]
  have M:n9 S.v (jP S.n S.m i):=by rw[gN];unfold n9;omega
  exact⟨M,rfl,bz⟩
 exact T.ks
theorem zi:∀(k:Nat) {W:Wd},Wk W->Kp (2422*k) W (W.lj k).1
 |0,W,h=>(Kp.refl h).L C
 |k+1,W,h=>by
  obtain⟨H,y,P,_⟩:=mN h;have M:Kp 2422 W W.step:=⟨H,P,y.ca,y.ms,y.ac,y.n,y.m,y.v,y.ce⟩;show Kp _ W (if W.iH.iN.length=0 then(W.step,true)else W.step.lj k).1;split
  .exact M.L C
  exact(M.H (zi k H)).L C
def Fp(h:Wk W):Kp 8 W W.pz:=by obtain⟨H,y,M,P,L⟩:=rz h W.ac.length;have:=h.b;exact⟨H,by show(W.kZ W.ac.length).jl<=_;omega,by show(W.kZ W.ac.length).gF.length=_;rw[L],y.ms,y.ac,y.n,y.m,y.v,y.ce⟩
def EA(h:Wk W):Kp 726608 W W.lf.1:=((Fp h).H (zi 300 (Fp h).k)).L bz
theorem Sf.kJ(h:Sf S W)(y:Wk W)(i):∀k,Sf S (W.kJ i k)
 |0=>h
 |k+1=>(h.kJ y i k).jK (Kp.kJ y i k).k _ _ _
theorem Sf.j0(h:Sf S W)(L:Wk W)(i):Sf S (W.j0 i):=by
 unfold Wd.j0;split
 .omega
 rename_i A M;split
 .rename_i H;have y:=h.jG L i;unfold Wd.jG at y;rw[M]at y;dsimp only at y;rw[aE H]at y;exact y.kJ (Kp.kG L M).k i _
 grind
theorem Sf.iT(h:Sf S W)(y:Wk W):∀k,Sf S (W.iT k)
 |0=>h
 |k+1=>by rw[lZ];exact(h.iT y k).j0 (Kp.iT y k).k k
def Sf.round(h:Sf S W)(y:Wk W):Sf S W.round.1:=Sf.lj 300 (h.iT y _) (Kp.iT y _).k
def QT(h:Wk W):Kp 726736 W W.round.1:=by have:=h.b;exact((Kp.iT h W.ac.length).H (zi 300 (Kp.iT h W.ac.length).k)).L C
def Wd.Xh(W:Wd):Wd:=(W.call 1 0 0).round.1
def Wd.UG(W:Wd):Wd:=W.Xh.lf.1
def Wd.Oo(W:Wd):Wd:=(W.UG.call 2 0 0).lf.1
def Wd.XK(W:Wd):Bool:=(W.call 1 0 0).round.2&&W.Xh.lf.2&&(W.UG.call 2 0 0).lf.2&&(match W.Oo.gF with
 |[a,b]=>a.r.wh==1&&b.r.wh==8&&b.r.val==kP 0
 |_=>false)
structure Bu(S:Cf)(W W':Wd)(a c:Nat):Prop where
 f:Sf S W'
 k:Wk W'
 u:0<W'.ac.length
 jl:W'.jl<=W.jl+a
 cl:W'.gF.length<=W.gF.length+c
 ms:W'.iP=W.iP
def Bu.call{c:Nat}(h:Bu S W W' a c)(kd x y:Int)(H:kd=1\/kd=2\/kd=5):Bu S W (W'.call kd x y) (a+2) (c+1):=by obtain⟨L,P,Q,M,T,_⟩:=xj h.k kd x y H;have:=h.jl;have:=h.cl;have:=h.u;exact⟨h.f.call h.k kd x y H,L,C,C,C,M.H h.ms⟩
def Bu.kp{c d:Nat}(h:Bu S W W' a c)(k:Kp d W' W2)(y:Sf S W2):Bu S W W2 (a+d) c:=by have:=h.jl;have:=h.cl;have:=k.jl;have:=k.cl;have:=h.u;have:=k.b;exact⟨y,k.k,C,C,C,k.ms.H h.ms⟩
def Bu.round{c:Nat}(h:Bu S W W' a c):Bu S W W'.round.1 (a+726736) c:=h.kp (QT h.k) (h.f.round h.k)
def Bu.lf{c:Nat}(h:Bu S W W' a c):Bu S W W'.lf.1 (a+726608) c:=h.kp (EA h.k) (h.f.lf h.k)
def Cc(S):Bu S (Wd.start S.n S.m S.v S.ce) (Wd.start S.n S.m S.v S.ce) 0 0:=⟨GO S,GC S,Nat.one_pos,jr,jr,rfl⟩
def KY(h:Bu S W W 0 0):Bu S W W.Xh 726738 1:=(h.call 1 0 0 (.inl rfl)).round
def KV(h:Bu S W W 0 0):Bu S W W.UG 1453346 1:=(KY h).lf
def Lc(h:Bu S W W 0 0):Bu S W W.Oo 2179956 2:=((KV h).call 2 0 0 (.inr (.inl rfl))).lf
def pB:Nat:=136+2422*300
def Kp.round(h:Wk W):Kp pB W W.round.1:=by have y:=Kp.iT h W.ac.length;have:=h.b;exact(y.H (zi 300 y.k)).L (by unfold pB;omega)
theorem Kp.nA(h:Wk W):∀k,Kp (pB*k) W (W.nA k)
 |0=>Kp.refl h
 |k+1=>((Kp.nA h k).H (Kp.round (Kp.nA h k).k)).L (by rw[Nat.mul_succ];exact jr)
theorem Ps(h:kM w cP g W V)(hW:Wk W)(hS:W.jl+pB*80<=3000000000)(hC:W.gF.length<=9999999)(Q:KZ W.iP)(a8:0<W.ac.length)(ha:Ft W)(T:∀k,k<80->(W.nA k).round.2=true)(he:∀c∈(W.nA 80).gF,c.fin≠0):iU 35 #[O g] w λen w'=>en=gU (.bool true)/\∃fz,j4 Pr w cP w' fz/\Wx w' fz g (W.nA 80):=by
 have Y:=gN (RF h hW C ha);have Z:Hid (∀w',Bl w w'->kM w' cP g W V):=λw' hb=>h.bl hb λ_ _=>rfl;have HO:Hid (∀k,k<=80->Kp (pB*k) W (W.nA k)):=λk _=>Kp.nA hW k;obtain⟨a9,Hr,He⟩:=iI Q T he;clear h hW Q ha T he;go_enter func35,ntmps35;go_wp2_with fail;refine gS Y λw1 y=>?_;have a0:Hid (j4 Pr w cP w1 cP):=j4.A y λ_ _=>rfl;have a1:=gN (Z w1 y);clear Z Y y;go_wp2_with fail;go_loopw[3,4](λb j wr=>∃(k:Nat) (fz:Nat->Nat) (V':WV),k<=80/\b=.bool true/\j=I k/\Hid (j4 Pr w cP wr fz)/\Hid (kM wr fz g (W.nA k) V')) λ_ j _=>80-(Go.RowKit.intOf j).toNat
 case atStart=>exact⟨0,cP,V,jR,rfl,rfl,a0,a1⟩
 clear a0 a1;obtain⟨k,fz,V',hk,rfl,rfl,HK,HX⟩:=hrel;by_cases jt:k<80
 .have ak:(k:Int)<80:=C;have o:=HO k C;have a2:=o.jl;have aa:pB*k+pB<=pB*80:=by have:pB*(k+1)<=pB*80:=gA _ C;rwa[Nat.mul_succ]at this
  have HC:=gN (Cr HX o.k (by have:pB=136+2422*300:=rfl;omega) (by rw[o.cl];exact hC) (by rw[o.ms];exact a9) (by rw[o.b];exact a8));rw[Hr.o k jt]at HC;clear o a2 aa;go_wp2_with(go_at_call 37;refine HC.L ?_;rintro en w5⟨rfl,a3,k5,V5,h5⟩;obtain⟨ab,ac⟩:=gO k5 h5;clear k5 h5);exact⟨⟨k+1,a3,V5,C,by trivial,iq,HK.H ab,ac⟩,iD⟩
 have al:¬((k:Int)<80):=C;obtain rfl:k=80:=C;have h:=HX.o;obtain⟨ca,cc,L⟩:=h.ca.row.D;have c7:wr.cell? (U g 7)=some (gK ca (W.nA 80).gF.length cc):=by rw[<-L];exact h.cellAt 7 rfl
 have lg:=h.lt;have am:(W.nA 80).gF.length<=9999999:=by rw[(HO.o 80 C).cl];exact hC
 have a4:Hid (∀(k:Nat) (c:Kl),(W.nA 80).gF[k]?=some c->∃cb,ca=G cb/\cb<wr.heap.size/\wr.cell? (U cb (k*11+7))=some (I c.fin)/\c.fin≠0):=λk c P=>by have hk:=(aj.1 P).1;have T:=h.ca.row;rw[L]at T;obtain⟨cb,e1,_,e2,e3,_⟩:=T.cells C;obtain⟨tv,rv,f0,f1,f2,f3,f4,f5,f6,f7,_⟩:=h.ca.c k c P;exact⟨cb,e1,e2,(e3 _ C).H f7,He c (aR P)⟩
 generalize a5:(W.nA 80).gF.length=ln at*;have ad:=gN a5;clear h L a5 He HO;go_wp2_with fail;go_loopw[5](λj wx=>∃k:Nat,k<=ln/\j=I k/\Hid (Bl wr wx)) λj _=>ln-(Go.RowKit.intOf j).toNat
 case atStart=>exact⟨0,jR,rfl,jZ⟩
 obtain⟨k,hk,rfl,M⟩:=hrel;have x7:=(M.cell lg).H c7;have lx:=af lg M.lt;by_cases ag:k<ln
 .have ai:(k:Int)<(ln:Int):=C;obtain⟨c,P⟩:∃c,(W.nA 80).gF[k]?=some c:=⟨_,ah (jf ad.o ag)⟩;obtain⟨cb,rfl,a6,d7,a7⟩:=a4 k c P;generalize c.fin=fi at d7 a7;have z7:=(M.cell a6).H d7;have an:=af a6 M.lt;have ap:decide (fi=0)=false:=mZ a7;clear P d7 c7 a4;go_upto_region 11 with fail;go_quiet(fail);go_wp2;exact⟨⟨k+1,C,iq,M.drewN _⟩,iD⟩
 have ai:¬((k:Int)<(ln:Int)):=C;go_wp2;go_ret;exact⟨rfl,fz,HK.H (j4.A M λ_ _=>rfl),V',HX.bl M λ_ _=>rfl⟩
def Wd.R(W:Wd):List (Bool×Bool):=W.pl.map λP=>(P.up,P.nf)
def OY(h:W'.R=W.R)(H:Ft W):Ft W':=λi P L=>by
 have y:W'.R[i]?=some (P.up,P.nf):=by unfold Wd.R;rw[aK,L];rfl
 rw[h]at y;unfold Wd.R at y;rw[aK]at y;obtain⟨Q,M,e⟩:=bN.1 y;have:=H i Q M;rw[show P.up=Q.up from(Z5 Prod.fst e).symm,show P.nf=Q.nf from(Z5 Prod.snd e).symm];exact this
def TP{l:List Pl}{P Q:Pl}(h:l[k]?=some P)(e:(Q.up,Q.nf)=(P.up,P.nf)):(l.set k Q).map (λP:Pl=>(P.up,P.nf))=l.map λP=>(P.up,P.nf):=by
 refine bJ λi=>?_;rw[aK,aK,List.getElem?_set];by_cases y:k=i
 .subst y;have H:=(aj.1 h).1;rw[aE rfl,aE H,h];exact Z5 some e
 rw[az y]
def MK(W:Wd)(k:Nat):(W.lM k).R=W.R:=by
 unfold Wd.lM;split
 .split
  .rfl
  rename_i P h;split
  .exact TP h rfl
  rfl
 split
 .rfl
 split<;>rfl
theorem sB{α:Type}(f:Wd->α->Wd)(h:∀W x,(f W x).R=W.R):∀(l:List α) (W:Wd),(l.foldl f W).R=W.R
 |[],_=>rfl
 |x::l,W=>(sB f h l (f W x)).H (h W x)
theorem RB(n m v ce:Nat)(P:Pl)(fr:Int)(p:Pk):((P.recv n m v ce fr p).up,(P.recv n m v ce fr p).nf)=(P.up,P.nf):=by
 unfold Pl.recv
 cases p with
 |req r=>dsimp only;cases P.part<;>rfl
 |rep _ _=>rfl
 |vot _ _ _=>rfl
theorem OM(W:Wd)(l:Le):(W.mQ l).R=W.R:=by
 unfold Wd.mQ;split
 .rfl
 show(W.qp l W.pl.length).map (λP:Pl=>(P.up,P.nf))=W.pl.map λP=>(P.up,P.nf)
 refine bJ λi=>?_;unfold Wd.qp;rw[aK,aK,gz]
 cases W.pl[i]? with
 |none=>rfl
 |some P=>
  simp only[bG];split
  .rw[RB]
  rfl
def FN(W:Wd):W.step.R=W.R:=by unfold Wd.step Wd.lU;rw[sB _ OM];show W.iH.R=W.R;unfold Wd.iH;exact sB _ MK _ _
theorem Bj:∀(k:Nat) (W:Wd),(W.lj k).1.R=W.R
 |0,_=>rfl
 |k+1,W=>by
  unfold Wd.lj;split
  .exact FN W
  exact(Bj k _).H (FN W)
def EW(W:Wd)(a b t:Int):(W.jK a b t).R=W.R:=by
 unfold Wd.jK;split
 .rfl
 split<;>rfl
theorem Co(W:Wd)(i:Nat):∀k,(W.kJ i k).R=W.R
 |0=>rfl
 |k+1=>(EW _ _ _ _).H (Co W i k)
def F6(W:Wd)(i:Nat):(W.j0 i).R=W.R:=by
 unfold Wd.j0;split
 .rfl
 split
 .exact Co _ _ _
 rfl
def Cw(W:Wd):W.round.1.R=W.R:=by unfold Wd.round Wd.iT;exact(Bj 300 _).H (sB _ F6 _ _)
theorem LU(W:Wd):∀k,(W.nA k).R=W.R
 |0=>rfl
 |k+1=>(Cw _).H (LU W k)
def Av(W:Wd)(k a b:Int):(W.call k a b).R=W.R:=by
 unfold Wd.call;split
 .rfl
 split
 .split<;>rfl
 rfl
def IE(W:Wd):W.ks.R=W.R:=by unfold Wd.ks;split<;>rfl
abbrev yp(i0 i:Int)(kd po:Int)(vs:ByteArray)(ta:Option Addr)(tn tc:Nat)(be fi wh ad:Int)(ra:Option Addr)(rn rc:Nat):Value:= .agg #[I i0,I i,I kd,I po,.string vs,.slice ta tn tc,I be,I fi,I wh,I ad,.slice ra rn rc]
def TS(kd:Int):Prop:=kd=1\/kd=2\/kd=5
theorem Dp(L i kd po M y H P:Int)(Q:ByteArray)(T:Option Addr)(Y Z:Nat)(ra:Option Addr)(rn rc:Nat)(hk:TS kd)(h4:y≠0->kd=2->H≠4)(w:World):iU 62 #[yp L i kd po Q T Y Z M y H P ra rn rc] w λen w'=>en=gU (I 0)/\Bl w w':=by
 have hB:=(Bl.refl w).alloc (ig #[I L,I i,I kd,I po,.string Q,gK T Y Z,I M,I y,I H,I P,gK ra rn rc] 60);by_cases hf:y=0
 .subst hf;go_enter func62,ntmps62;go_wp2;go_ret;exact⟨rfl,hB⟩
 have h:=h4 hf;clear h4;obtain rfl|rfl|rfl:=hk;all_goals
  first|(have h5:=h rfl)|skip
  clear h;go_enter func62,ntmps62;go_wp2;go_ret;exact⟨rfl,hB⟩
def mU(fi kd po wh ad:Int)(vs rv:List Int):Int×List Int×Bool:=if fi=0 then(0,[],false)else if kd=1 then(if wh=1 then(ad,vs,true)else(0,[],false))else if kd=2 then(if wh=8 then(po,rv,true)else(0,[],false))else(0,[],false)
theorem uI(i0 i kd po be H y L:Int)(M h:List Int)(ta:Option Addr)(tn tc:Nat)(T:Option Addr)(Y:Nat)(hk:TS kd)(h9:H≠0->kd=2->y≠9)(w:World)(hr:Sl w (gK T h.length Y) (h.map B8)):iU 60 #[yp i0 i kd po (js M) ta tn tc be H y L T h.length Y] w λen w'=>en=gU (.tuple #[I (mU H kd po y L M h).1,.string (js (mU H kd po y L M h).2.1),.bool (mU H kd po y L M h).2.2])/\Bl w w':=by
 have P:=(Bl.refl w).alloc (ig #[I i0,I i,I kd,I po,.string (js M),gK ta tn tc,I be,I H,I y,I L,gK T h.length Y] 60);have a0:js []=({data:=#[]}:ByteArray):=rfl;by_cases Q:H=0
 .have e:mU H kd po y L M h=(0,[],false):=by unfold mU;rw[aE Q]
  rw[e];subst Q;go_enter func60,ntmps60;go_wp2;go_ret3;exact⟨rfl,P⟩
 obtain rfl|rfl|rfl:=hk
 .by_cases Z:y=1
  .have e:mU H 1 po y L M h=(L,M,true):=by unfold mU;rw[az Q];simp[Z]
   rw[e];clear e;subst Z;go_enter func60,ntmps60;go_upto_region 4 with fail;go_quiet(fail);go_wp2;go_ret3;exact⟨rfl,P.drewN _⟩
  have e:mU H 1 po y L M h=(0,[],false):=by unfold mU;rw[az Q];simp[Z]
  rw[e];clear e;go_enter func60,ntmps60;go_wp2;go_ret3;exact⟨rfl,P⟩
 .by_cases h8:y=8
  .have e:mU H 2 po y L M h=(po,h,true):=by unfold mU;rw[az Q];simp[h8]
   rw[e];clear e;subst h8;have kc:=mm _ h _ (hr.bl P);have kd:=λn=>mm _ h _ ((hr.bl P).bl (jZ.drewN n));go_enter func60,ntmps60;go_upto_region 6 with fail;go_quiet(fail);go_wp2;go_ret3;exact⟨rfl,P.drewN _⟩
  have h9:=h9 Q rfl;have e:mU H 2 po y L M h=(0,[],false):=by unfold mU;rw[az Q];simp[h8]
  rw[e];clear e;go_enter func60,ntmps60;go_wp2;go_ret3;exact⟨rfl,P⟩
 have e:mU H 5 po y L M h=(0,[],false):=by unfold mU;rw[az Q];simp
 rw[e];clear e;go_enter func60,ntmps60;go_wp2;go_ret3;exact⟨rfl,P⟩
def Pm(c):vG c=mU c.fin c.kind c.pos c.r.wh c.r.ad c.value c.r.val:=rfl
abbrev yj(i0 i:Int)(kd po:Int)(vs:ByteArray)(ta:Option Addr)(tn tc:Nat)(be fi wh ad:Int)(ra:Option Addr)(rn rc:Nat):Obj:= .cells #[I i0,I i,I kd,I po,.string vs,.slice ta tn tc,I be,I fi,I wh,I ad,.slice ra rn rc] 60
def oC{H L M P Q T Y Z v8 v9 y:Value}(h:w.heap[g]?=some (ig #[H,L,M,P,Q,T,Y,Z,v8,v9,y] 60 (0,0))):(w.cell? (U g 0)=some H/\w.cell? (U g 1)=some L/\w.cell? (U g 2)=some M/\w.cell? (U g 3)=some P/\w.cell? (U g 4)=some Q/\w.cell? (U g 5)=some T/\w.cell? (U g 6)=some Y/\w.cell? (U g 7)=some Z/\w.cell? (U g 8)=some v8/\w.cell? (U g 9)=some v9/\w.cell? (U g 10)=some y)/\g<w.heap.size:=
 ⟨⟨ax w g 0 _ 60 (0,0) h,ax w g 1 _ 60 (0,0) h,ax w g 2 _ 60 (0,0) h,ax w g 3 _ 60 (0,0) h,ax w g 4 _ 60 (0,0) h,ax w g 5 _ 60 (0,0) h,ax w g 6 _ 60 (0,0) h,ax w g 7 _ 60 (0,0) h,ax w g 8 _ 60 (0,0) h,ax w g 9 _ 60 (0,0) h,ax w g 10 _ 60 (0,0) h⟩,(ae.1 h).1⟩
theorem OI(a1 oi h P a2 y L Q:Int)(T M:List Int)(a3:Option Addr)(a4 a5:Nat)(Z:Option Addr)(a0:Nat)(i0 i kd po be fi wh ad:Int)(vs rv:List Int)(ta:Option Addr)(tn tc:Nat)(ra:Option Addr)(rc:Nat)(aw:TS h)(hk:TS kd)(a6:y≠0->h=2->L≠4)(aY:y≠0->h=2->L≠9)(h9:fi≠0->kd=2->wh≠9)(b0:0<=po)(ai:0<=(mU fi kd po wh ad vs rv).1)(w:World)(b3:Sl w (gK Z M.length a0) (M.map B8))(hr:Sl w (gK ra rv.length rc) (rv.map B8))(hG:kd=2->fi≠0->(mU y h P L Q T M).2.2=true->(mU y h P L Q T M).1=po->wh≠3):iU 64 #[yp a1 oi h P (js T) a3 a4 a5 a2 y L Q Z M.length a0,yp i0 i kd po (js vs) ta tn tc be fi wh ad ra rv.length rc] w λen w'=>en=gU (.bool true)/\Bl w w':=by
 obtain⟨W1,a7⟩:=gG (w.alloc (yj a1 oi h P (js T) a3 a4 a5 a2 y L Q Z M.length a0));obtain⟨W2,a8⟩:=gG (W1.alloc (yj i0 i kd po (js vs) ta tn tc be fi wh ad ra rv.length rc));have b1:Bl w W1:=by rw[<-a7];exact jZ.alloc _
 have b2:Bl W1 W2:=by rw[<-a8];exact jZ.alloc _
 have z1:W1.heap.size=w.heap.size+1:=by rw[<-a7];simp
 have b4:W1.heap[w.heap.size]?=some (yj a1 oi h P (js T) a3 a4 a5 a2 y L Q Z M.length a0):=by rw[<-a7];exact ao w _
 have a9:=(b2.heap (b:=w.heap.size) C).H b4;have ak:W2.heap[w.heap.size+1]?=some (yj i0 i kd po (js vs) ta tn tc be fi wh ad ra rv.length rc):=by rw[<-z1,<-a8];exact ao W1 _
 obtain⟨b5,al,am,Hb⟩:=kN (λW=>Dp a1 oi h P a2 y L Q (js T) a3 a4 a5 Z M.length a0 aw a6 W) (λW (hb:Bl w W)=>uI i0 i kd po be fi wh ad vs rv ta tn tc ra rc hk h9 W (hr.bl hb)) (λW (hb:Bl w W)=>uI a1 oi h P a2 y L Q T M a3 a4 a5 Z a0 aw aY W (b3.bl hb)) (b1.H b2);obtain⟨bs,bv,b6⟩:=iI a9 ak a7;obtain⟨b7,HG⟩:=gO a8 hG;obtain⟨o0,o1,o2,o3,o4,o5,o6,o7,o8,o9,b8⟩:=(oC a9).1;have lo:=(oC a9).2;have lc:=(oC ak).2;obtain⟨bc,an⟩:=gG (mU fi kd po wh ad vs rv);obtain⟨bo,ap⟩:=gG (mU y h P L Q T M);rw[an]at al ai;rw[ap]at am;obtain⟨bV,b9⟩:=gO an ap;clear an ap a6 aY h9 a7 a8 b1 b2 z1 b4 a9 ak hG b3 hr;go_enter func64,ntmps64;go_upto_region 1 with fail;rw[b6.o,b7.o];clear b6 b7;go_upto_region 2 with(go_at_call 62;refine gS (b5 _) λw3 aa=>?_;have ba:=(aa.heap lc).H bv;have bd:=(aa.heap lo).H bs;obtain⟨bg,aq,bi⟩:=iI aa ba bd;clear aa ba bd);clear o0 o1 o2 o3 o4 o5 o6 o7 o8 o9 b8;obtain⟨c0,c1,c2,c3,c4,c5,c6,c7,c8,c9,ab⟩:=(oC aq).1;have bw:=(oC aq).2;go_upto_region 3 with(go_at_call 60;refine gS (al _ (Hb.H bg)) λw4 ac=>?_;have bl:=(ac.heap bw).H aq;have a6:=(ac.heap (oC bi).2).H bi;obtain⟨bx,ar,bm⟩:=iI ac bl a6;clear ac bl a6);clear c0 c1 c2 c3 c4 c5 c6 c7 c8 c9 ab;obtain⟨c0,c1,c2,c3,c4,c5,c6,c7,c8,c9,ab⟩:=(oC ar).1;obtain⟨o0,o1,o2,o3,o4,o5,o6,o7,o8,o9,b8⟩:=(oC bm).1;have bA:=(oC ar).2;have bW:=(oC bm).2;have Y:=gN ((Hb.H bg).H bx);have ag:=λW (hb:Bl w4 W)=>am.o W (Y.H hb);have bn:=gN ag;clear ag am al b5;obtain⟨bB,bE,bb⟩:=bc;have bX:¬bB<0:=Int.not_lt.2 ai;have jt:¬po<0:=Int.not_lt.2 b0;clear ai b0;obtain hk|hk|hk:=hk
 .subst hk
  cases bb;all_goals
   go_wp2;go_ret;exact⟨rfl,Y⟩
 .subst hk
  cases bb;all_goals
   by_cases hf:fi=0
   .subst hf;go_wp2;go_ret;exact⟨rfl,Y⟩
   have Hs:=gN (HG rfl hf);go_upto_region 10 with(go_at_call 60;refine gS (bn _ jZ) λw5 au=>?_;have bp:=(au.heap bA).H ar;obtain⟨av,bq⟩:=gO au bp;clear au bp);clear c0 c1 c2 c3 c4 c5 c6 c7 c8 c9 ab;obtain⟨c0,c1,c2,c3,c4,c5,c6,c7,c8,c9,ab⟩:=(oC bq).1;have cb:=(oC bq).2;obtain⟨bC,bR,ob⟩:=bo
   cases ob
   .go_wp2;go_ret;exact⟨rfl,Y.H av⟩
   by_cases bD:bC=po
   .have h3:¬wh=3:=Hs (mT b9.o) (jf b9.o bD);go_wp2;go_ret;exact⟨mn (mZ h3),Y.H av⟩
   go_wp2;go_ret;exact⟨rfl,Y.H av⟩
 subst hk
 cases bb;all_goals
  go_wp2;go_ret;exact⟨rfl,Y⟩
def qz.cells{cc:Nat}(h:qz w cP gF (gK ca gF.length cc) cs)(hc:gF[k]?=some c):∃cb Q T Y Z,ca=G cb/\cb<w.heap.size/\w.cell? (U cb (k*11))=some (I c.a)/\w.cell? (U cb (k*11+1))=some (I c.b)/\w.cell? (U cb (k*11+2))=some (I c.kind)/\w.cell? (U cb (k*11+3))=some (I c.pos)/\w.cell? (U cb (k*11+4))=some (.string (js c.value))/\w.cell? (U cb (k*11+5))=some (gK Q c.A.length T)/\w.cell? (U cb (k*11+6))=some (I c.c)/\w.cell? (U cb (k*11+7))=some (I c.fin)/\w.cell? (U cb (k*11+8))=some (I c.r.wh)/\w.cell? (U cb (k*11+9))=some (I c.r.ad)/\w.cell? (U cb (k*11+10))=some (gK Y c.r.val.length Z)/\w.ownsRow 0 3 1 (gK Q c.A.length T) c.A.length (c.A.map I)/\Sl w (gK Y c.r.val.length Z) (c.r.val.map B8):=by have hk:=(aj.1 hc).1;obtain⟨cb,rfl,_,a0,y,_⟩:=h.row.cells C;obtain⟨tv,rv,e0,e1,e2,e3,e4,e5,e6,e7,e8,e9,M,P,L⟩:=h.c k c hc;obtain⟨Q,T,rfl⟩:=P.D;obtain⟨Y,Z,rfl⟩:=L.D;rw[ay]at M L;exact⟨cb,Q,T,Y,Z,rfl,a0,(y (k*11) C).H e0,(y (k*11+1) C).H e1,(y (k*11+2) C).H e2,(y (k*11+3) C).H e3,(y (k*11+4) C).H e4,(y (k*11+5) C).H e5,(y (k*11+6) C).H e6,(y (k*11+7) C).H e7,(y (k*11+8) C).H e8,(y (k*11+9) C).H e9,(y (k*11+10) C).H M,P.ij,L.sl⟩
theorem GS(h:kM w cP g W V)(hl:W.gF.length<=9999999)(i0 i kd po be fi wh ad)(vs)(ta)(tn tc)(ra)(rn rc){o:Kl}(ho:W.gF[j]?=some o)(at0)(val)(b3:val≠[])(a3:∀d∈val,0<=d/\d<=255)(ab:∀(k:Nat) (c:Kl),W.gF[k]?=some c->∀d∈c.value,0<=d/\d<=255)(ac:∀(k:Nat) (c:Kl),W.gF[k]?=some c->c.kind=1->c.value=val->k=j)(h1:o.kind=1)(h2:o.value=val)(h3:o.c<fi)(h4:at0∈o.A)(b4:o.fin=0\/(o.fin≠0/\o.r.wh=1/\o.r.ad=at0))(h8:o.A.length<=3000000000):Calls prog 61 #[O g,yp i0 i kd po vs ta tn tc be fi wh ad ra rn rc,I at0,.string (js val)] w λen w'=>en=.returned (.bool true)/\Bl w w':=by
 obtain⟨ca,cc,ag⟩:=h.ca.row.D;obtain⟨pv,av,lv,cv,hv,mv,ps,aw,ls,cs,tp⟩:=V;simp only at ag;subst ag;obtain⟨W1,Z⟩:=gG (w.alloc (.cells #[I i0,I i,I kd,I po,.string vs,.slice ta tn tc,I be,I fi,I wh,I ad,.slice ra rn rc] 60));have b1:Bl w W1:=by rw[<-Z];exact jZ.alloc _
 have a0:W1.heap[w.heap.size]?=some (.cells #[I i0,I i,I kd,I po,.string vs,.slice ta tn tc,I be,I fi,I wh,I ad,.slice ra rn rc] 60 (0,0)):=by rw[<-Z];exact ao w _
 have bp:=(aj.1 ho).1;obtain⟨H,Ho,ai⟩:=iI h ho Z;obtain⟨ak,a4⟩:=gO a0 b1;have a1:¬(js val).toList=[]:=λe=>b3 (uO a3 (λd hd=>mR hd) (by rw[e,ey,ri];rfl));have al:(js val).toList.isEmpty=false:=by
  cases hl:(js val).toList with
  |nil=>exact absurd hl a1
  |cons _ _=>rfl
 have a5:=nJ a3 ab ac;obtain⟨sv,a6⟩:=gG (js val);rw[a6]at a1 al|-;have am:=gN a6;clear h ho Z a0 b1 a6 a3 ab ac;go_enter func61,ntmps61;go_upto_region 1 with fail;rw[ai.o];clear ai;go_wp2;go_loopw[9](λx wr=>∃k:Nat,k<=j/\x=I k/\Hid (Bl W1 wr)) λx _=>W.gF.length-(Go.RowKit.intOf x).toNat
 case atStart=>exact⟨0,jR,rfl,jZ⟩
 obtain⟨k,b5,rfl,HB⟩:=hrel;have bw:=a4.H HB;have hX:=H.bl (fz:=cP) bw λ_ _=>rfl;have jt:k<W.gF.length:=C;have bi:(k:Int)<(W.gF.length:Int):=C;have c7:=hX.cellAt 7 rfl;have bq:=hX.lt;have a7:=(HB.heap (ae.1 ak).1).H ak;have an:w.heap.size<wr.heap.size:=(ae.1 a7).1;obtain⟨x6,x7⟩:=vg a7 6 7 rfl;obtain⟨c,hc⟩:=nS jt;obtain⟨cb,b6,b7,b8,b9,rfl,bs,d0,d1,d2,d3,d4,d5,d6,d7,d8,d9,ba,M,_⟩:=hX.ca.cells hc;have bc:=gN M;clear M;obtain⟨oQ,hO⟩:=gG (Obj.cells #[I c.a,I c.b,I c.kind,I c.pos,.string (js c.value),.slice b6 c.A.length b7,I c.c,I c.fin,I c.r.wh,I c.r.ad,.slice b8 c.r.val.length b9] 60);obtain⟨W5,a8⟩:=gG (wr.alloc oQ);have bA:=(Bl.refl wr).alloc oQ;have y:=ao wr oQ;rw[a8]at bA y;obtain⟨y6,y7⟩:=bA.D an x6 x7;have bl:=af an bA.lt;have bv:wr.heap.size<W5.heap.size:=(ae.1 y).1;rw[<-hO]at y;obtain⟨z2,z3,z4,z5⟩:=pD y 2 3 4 5 rfl;obtain⟨z7,z8,z9,z6⟩:=pD y 7 8 9 6 rfl;obtain⟨HO,ap,aq,Hc⟩:=kN hO a8 bA hc;have P:Hid (¬(c.kind=1/\c.value=val)->k<j):=λhn=>by
  apply fc b5;intro e;subst e;have e2:c=o:=by have:=Hc.symm.H Ho;simpa using this
  subst e2;exact hn ⟨h1,h2⟩
 have Q:Hid ((c.kind=1/\c.value=val)->c=o):=λhn=>by have e:=a5.2.2 k c Hc hn.1 hn.2;subst e;have:=Hc.symm.H Ho;simpa using this
 have ar:Hid (c.value≠val->¬(js c.value).toList=sv.toList):=λhn e=>hn (uO (a5.2.1 k c Hc) a5.1 (jf am.o e));clear hX a7 y hO a8 bA hc bw;go_upto_region 5 with fail;rw[HO.o,ap.o];clear HO ap d0 d1 d2 d3 d4 d5 d6 d7 d8 d9 ba c7;have L:=gN (HB.H aq);by_cases k6:fi<=c.c
 .by_cases k7:c.c=be
  .by_cases k4:c.kind=1
   .by_cases k5:c.value=val
    .have T:=Q ⟨k4,k5⟩;subst T;omega
    have Y:=ar k5;have bd:((js c.value).toList==sv.toList)=false:=je Y;have bg:¬js c.value=sv:=λe=>Y (mT e);generalize js c.value=sc at*;rw[k4]at z2;have:=P λe=>k5 e.2;go_wp2;exact⟨⟨k+1,C,iq,L⟩,iD⟩
   have:=P λe=>k4 e.1;go_wp2;exact⟨⟨k+1,C,iq,L⟩,iD⟩
  have:=P (λe=>by
   have T:=Q e
   subst T
   omega)
  go_wp2;exact⟨⟨k+1,C,iq,L⟩,iD⟩
 by_cases k4:c.kind=1
 .by_cases k5:c.value=val
  .have T:=Q ⟨k4,k5⟩;subst T;rw[k4]at z2;rw[k5,am.o]at z4;have au:=gN ((jY aq).jH bc λ_ _ e=>e);go_wp2;go_loopw[11,12](λhd x wx=>∃(t:Nat) (bb:Bool),t<=c.A.length/\hd=.bool bb/\x=I t/\wx=W5/\(bb=true↔at0∈c.A.take t)) λ_ x _=>c.A.length-(Go.RowKit.intOf x).toNat
   case atStart=>exact⟨0,false,jR,rfl,rfl,rfl,bz⟩
   obtain⟨t,bb,ht,rfl,rfl,rfl,a2⟩:=hrel;have a9:=gN a2;clear a2;by_cases aY:t<c.A.length
   .have bx:(t:Int)<(c.A.length:Int):=C;obtain⟨gt,bm,bn,b0,_,b2,_⟩:=au.2.resolve_left λe=>C;simp only[bO,ZU]at b0;obtain⟨rfl,rfl⟩:=b0;have bB:gt<wr.heap.size:=(ae.1 b2).1;have y0:=(au.cellAt t C).H (show(c.A.map I)[t]?=some (I c.A[t]) by rw[aK,ah aY];rfl);have M:Hid (c.A.take (t+1)=c.A.take t++[c.A[t]]):=by unfold Hid;rw[cW,ah aY];rfl
    generalize c.A[t]=tt at*;clear b2
    cases bb
    .by_cases aa:tt=at0
     .subst aa;go_wp2;exact⟨⟨t+1,true,C,rfl,iq,trivial,om M.o⟩,iD⟩
     go_wp2;refine⟨⟨t+1,false,C,by first|rfl|simp[aa],iq,trivial,?_⟩,iD⟩;rw[M.o,aT];constructor
     .intro e;simp at e
     rintro(e|e)
     .exact a9.2 e
     simp at e;exact absurd e.symm aa
    go_wp2;exact⟨⟨t+1,true,C,rfl,iq,trivial,by rw[M.o,aT];exact⟨λ_=>.inl (a9.1 rfl),λ_=>rfl⟩⟩,iD⟩
   have bo:¬((t:Int)<(c.A.length:Int)):=C;have a0:bb=true:=a9.2 (by rw[bI C];exact h4);subst a0;obtain h5|⟨h7,h5,h6⟩:=b4
   .rw[h5]at z7;go_wp2;go_ret;exact⟨rfl,a4.H L⟩
   rw[h5]at z8;rw[h6]at z9;go_wp2;go_ret;exact⟨rfl,a4.H L⟩
  have Y:=ar k5;have bd:((js c.value).toList==sv.toList)=false:=je Y;have bg:¬js c.value=sv:=λe=>Y (mT e);generalize js c.value=sc at*;rw[k4]at z2;have:=P λe=>k5 e.2;go_wp2;exact⟨⟨k+1,C,iq,L⟩,iD⟩
 have:=P λe=>k4 e.1;go_wp2;exact⟨⟨k+1,C,iq,L⟩,iD⟩
theorem Rm(w:World)(g:Nat)(P i kd po Q T h:Int)(Y:ByteArray)(Z:Option Addr)(tn tc:Nat)(H:Option Addr)(y L:Nat)(M:(kd=2/\(h=8\/h=3))\/(kd=5/\(h=1\/h=6)))(hr:y=0\/h=8):iU 59 #[O g,yp P i kd po Y Z tn tc Q T h 0 H y L] w λen w'=>en=gU (.bool true)/\Bl w w':=by
 have hB:=((Bl.refl w).alloc (ig #[I P,I i,I kd,I po,.string Y,gK Z tn tc,I Q,I T,I h,I 0,gK H y L] 60)).alloc (ig #[I h,I 0,gK H y L] 43);by_cases h0:y=0
 .subst h0;obtain⟨rfl,rfl|rfl⟩|⟨rfl,rfl|rfl⟩:=M;all_goals
   go_enter func59,ntmps59;go_wp2;go_ret;exact⟨rfl,hB⟩
 have h8:=hr.resolve_left h0;subst h8;have a0:¬((y:Int)=0):=C;obtain⟨rfl,_⟩|⟨_,M⟩:=M
 .go_enter func59,ntmps59;go_wp2;go_ret;exact⟨rfl,hB⟩
 omega
def Zu(w:World)(X Y):((w.alloc X).alloc Y).heap[w.heap.size+1]?=some Y:=by have h:=ao (w.alloc X) Y;rwa[show(w.alloc X).heap.size=w.heap.size+1 by simp]at h
def ZB(w:World)(X Y):((w.alloc X).alloc Y).heap[w.heap.size]?=some X:=by rw[cL _ _ (show w.heap.size<_ by simp)];exact ao w X
theorem Tc(h:kM w cP g W V)(y:Wk W):iU 27 #[O g] w λH w'=>H=gU (I (W.n*W.ce))/\∃k,w'=w.drewN k:=by
 obtain⟨L,M,P,Q⟩:=vE y.oE;obtain⟨T,Y⟩:=h.R 0 3 rfl;have Z:=h.lt;have hm:=xR L M P Q;have hw:IntKind.i64.wrap ((W.n:Int)*W.ce)=W.n*W.ce:=zI;clear h;go_enter func27,ntmps27;go_wp2_with fail;go_quiet(fail);go_wp2;go_ret;exact⟨rfl,_,rfl⟩
theorem ME(h:kM w cP g W V)(hf:Wk W)(i0 i po be fi wh ad)(vs)(ta)(tc)(tk:List Int)(ra)(rc)(y:w.ownsRow 0 3 1 (gK ta tk.length tc) tk.length (tk.map I))(hl:tk.length<=3000000000)(hk:(wh=1/\ad∈tk/\0<=ad/\ad<W.n*W.ce)\/(wh=7/\ad=0/\∃t∈tk,t<0\/W.n*W.ce<=t)):iU 59 #[O g,yp i0 i 1 po vs ta tk.length tc be fi wh ad ra 0 rc] w λen w'=>en=gU (.bool true)/\Bl w w':=by
 have hB:=((Bl.refl w).alloc (yj i0 i 1 po vs ta tk.length tc be fi wh ad ra 0 rc)).alloc (ig #[I wh,I ad,gK ra 0 rc] 43);obtain⟨W2,Q⟩:=gG ((w.alloc (yj i0 i 1 po vs ta tk.length tc be fi wh ad ra 0 rc)).alloc (ig #[I wh,I ad,gK ra 0 rc] 43));have L:=ZB w (yj i0 i 1 po vs ta tk.length tc be fi wh ad ra 0 rc) (ig #[I wh,I ad,gK ra 0 rc] 43);have M:=Zu w (yj i0 i 1 po vs ta tk.length tc be fi wh ad ra 0 rc) (ig #[I wh,I ad,gK ra 0 rc] 43);rw[Q]at hB L M;obtain⟨H,a0,HT⟩:=iI (And.intro h hf) Q ((jY hB).jH y λ_ _ e=>e);obtain⟨ag,ai,a1⟩:=iI hB L M;have ak:wh=1\/wh=7/\ad=0:=by obtain hk|hk:=hk;exact .inl hk.1;exact .inr ⟨hk.1,hk.2.1⟩
 obtain⟨f1,f2,f3,f4⟩:=vE hf.oE;have hm:=xR f1 f2 f3 f4;obtain⟨T,hT⟩:=gG ((W.n:Int)*W.ce:Int);rw[hT]at hm hk;obtain⟨a2,Hk⟩:=gO hT hk;clear h hf Q y hB L M hk f1 f2 f3 f4 hT;go_enter func59,ntmps59;go_upto_region 2 with fail;rw[a0.o];clear a0;obtain⟨⟨_,_,x2,_,_,x5,_,_,_,_,_⟩,a3⟩:=oC ai;have a4:w.heap.size+1<W2.heap.size:=(ae.1 a1).1;obtain⟨y0,y1,y2⟩:=sy a1 0 1 2 rfl;go_cut[36]from 12 to 144 λx wx=>x=.bool false/\Hid (wx=W2)
 case first=>
  obtain rfl|⟨rfl,rfl⟩:=ak
  .obtain⟨q,hq⟩:=gG (ad !=0)
   cases q;all_goals(go_wp2_with fail;go_meet)
   all_goals exact⟨rfl,rfl⟩
  go_wp2_with fail;go_meet;exact⟨rfl,rfl⟩
 case rest=>
  obtain⟨rfl,hw⟩:=hcut;have al:=hw.symm;subst al;go_upto_region 9 with fail;clear x2 y2;go_loopw[6,7,8](λbo bi x wx=>∃(t:Nat) (b1 b2:Bool),t<=tk.length/\bo=.bool b1/\bi=.bool b2/\x=I t/\Hid (Bl W2 wx)/\Hid ((∃s∈tk.take t,s<0\/T<=s)->b1=true)/\Hid (ad∈tk.take t->b2=true)) λ_ _ x _=>tk.length-(Go.RowKit.intOf x).toNat
  case atStart=>exact⟨0,false,false,jR,rfl,rfl,rfl,jZ,(λe=>by obtain⟨s,e,_⟩:=e;simp at e),(λe=>mR e)⟩
  obtain⟨t,b1,b2,ht,rfl,rfl,rfl,Y,Hb,Hc⟩:=hrel;have bw:=ag.H Y;have z5:=(Y.cell a3).H x5;have av:=af a3 Y.lt;have a5:=af a4 Y.lt;obtain⟨z0,z1⟩:=Y.D a4 y0 y1;obtain⟨hX,Hw⟩:=gO (H.1.bl (fz:=cP) bw λ_ _=>rfl) bw;clear bw;by_cases a6:t<tk.length
  .have aw:(t:Int)<(tk.length:Int):=C;have a7:=gN ((jY Y).jH HT λ_ _ e=>e);obtain⟨gt,an,ap,a8,_,a9,_⟩:=a7.2.resolve_left λe=>C;simp only[bO,ZU]at a8;obtain⟨rfl,rfl⟩:=a8;have aY:gt<wr.heap.size:=(ae.1 a9).1;have q0:=(a7.cellAt t C).H (show(tk.map I)[t]?=some (I tk[t]) by rw[aK,ah a6];rfl);have y:Hid (tk.take (t+1)=tk.take t++[tk[t]]):=by unfold Hid;rw[cW,ah a6];rfl
   generalize tk[t]=tt at*;clear a9;go_upto_region 12 with fail;go_cut[6]from 41 to 70 λx wx=>∃e1:Bool,x=.bool e1/\Hid (Bl wr wx)/\Hid ((tt<0\/T<=tt)\/b1=true->e1=true)
   case first=>
    cases b1
    .by_cases b0:tt<0
     .go_wp2_with fail;go_meet;exact⟨true,rfl,jZ,λ_=>rfl⟩
     go_wp2_with fail;refine gS (xN hX H.2) λW' aa=>?_;rw[a2.o];have am:=gN aa;clear aa;go_wp2_with fail;go_meet;exact⟨decide (T<=tt),rfl,am,λe=>by obtain (e|e)|e:=e;exact absurd e C;exact decide_eq_true e;exact absurd e bT⟩
    go_wp2_with fail;go_meet;exact⟨true,rfl,jZ,λ_=>rfl⟩
   case rest=>
    obtain⟨e1,rfl,Z,ab⟩:=hcut;have v1:=(Z.cell a5).H z1;have b3:=af a5 Z.lt;have P:Hid (∀e2:Bool,(tt=ad\/b2=true->e2=true)->Hid (Bl W2 wc)/\Hid ((∃s∈tk.take (t+1),s<0\/T<=s)->e1=true)/\Hid (ad∈tk.take (t+1)->e2=true)):=by
     intro e2 h2;refine⟨Y.H Z,?_,?_⟩
     .unfold Hid;rw[y.o];rintro⟨s,e,es⟩;rw[aT]at e;obtain e|e:=e
      .exact ab (.inr (Hb ⟨s,e,es⟩))
      simp at e;subst e;exact ab (.inl es)
     unfold Hid;rw[y.o,aT];rintro(e|e)
     .exact h2 (.inr (Hc e))
     simp at e;exact h2 (.inl e.symm)
    clear y
    cases b2
    .go_wp2;exact⟨⟨t+1,e1,decide (tt=ad),C,rfl,rfl,iq,P _ λe=>je e⟩,iD⟩
    go_wp2;exact⟨⟨t+1,e1,true,C,rfl,rfl,iq,P _ λ_=>rfl⟩,iD⟩
  have aq:¬((t:Int)<(tk.length:Int)):=C;have ac:tk.take t=tk:=bI C;rw[ac]at Hb Hc;obtain⟨rfl,k1,ar,au⟩|⟨rfl,rfl,k1⟩:=Hk.o
  .have M:=Hc k1;have HQ:Hid (∀nq,iU 27 #[O g] (wr.drewN nq) λen w'=>en=gU (I T)/\∃k,w'=(wr.drewN nq).drewN k):=λnq=>by rw[<-a2.o];exact Tc (hX.bl (fz:=cP) (jZ.drewN _) λ_ _=>rfl) H.2
   subst M;go_upto_region 14 with fail;go_quiet((go_at_call 27;exact Calls.quiet_of (HQ _)));go_wp2;go_ret;exact⟨rfl,Hw.drewN _⟩
  have L:=Hb k1;subst L;go_upto_region 14 with fail;go_quiet(fail);go_wp2;go_ret;exact⟨rfl,Hw.drewN _⟩
abbrev cV(c:Kl)(ta:Option Addr)(tc:Nat)(ra:Option Addr)(rc:Nat):Value:=yp c.a c.b c.kind c.pos (js c.value) ta c.A.length tc c.c c.fin c.r.wh c.r.ad ra c.r.val.length rc
def PF(h:kM w cP g W V)(Q:Wk W)(hl:W.jl<=3000000000)(T:CR (W.n*W.ce) W.gF)(y:c∈W.gF)(Y:c.fin≠0)(ta)(tc)(ra)(rc)(H:w.ownsRow 0 3 1 (gK ta c.A.length tc) c.A.length (c.A.map I)):iU 59 #[O g,cV c ta tc ra rc] w λZ w'=>Z=gU (.bool true)/\Bl w w':=by
 unfold cV;by_cases L:c.kind=1
 .obtain⟨M,P⟩:=T.Ym c y Y L;rw[L,M];exact ME h Q c.a c.b c.pos c.c c.fin c.r.wh c.r.ad _ ta tc c.A ra rc H (gM ((Q.ca c y).tk)) P
 obtain⟨M,P,e3⟩:=T.Ya c y Y L;rw[M];exact Rm w g c.a c.b c.kind c.pos c.c c.fin c.r.wh _ ta _ tc ra _ rc e3 (by obtain e|e:=P;exact .inl (by rw[e];rfl);exact .inr e)
def PJ(h:kM w cP g W V)(H:Wk W)(hl:W.jl<=3000000000)(L:W.gF.length<=9999999)(Y:CR (W.n*W.ce) W.gF)(hc:c∈W.gF){a:Int}(hb:vG c=(a,vv,true))(ta)(tc)(ra)(rc):iU 61 #[O g,cV c ta tc ra rc,I a,.string (js vv)] w λen w'=>en=gU (.bool true)/\Bl w w':=by
 unfold cV;obtain⟨hv,o,M,Z,P,p4,p5,p6⟩:=Y.mad c hc a vv hb;obtain⟨j,hj,e⟩:=aV.1 M;have y:=aj.2 ⟨hj,e⟩;exact GS h L c.a c.b c.kind c.pos c.c c.fin c.r.wh c.r.ad _ ta _ tc ra _ rc y a vv hv (by rw[<-P];exact(H.ca o M).vl.2) (λk c' Q=>(H.ca c' (aR Q)).vl.2) (λk c' Q e1 e2=>Y.uq k j c' o Q y e1 Z (kz e2 P)) Z P p4 p5 (by by_cases T:o.fin=0;exact .inl T;exact .inr ⟨T,p6.resolve_left T⟩) (gM ((H.ca o M).tk))
def XF{xs ys:List Int}(H:∀d∈xs,0<=d/\d<=255)(L:∀d∈ys,0<=d/\d<=255)(h:xs≠ys):¬(js xs).toList=(js ys).toList/\((js xs).toList==(js ys).toList)=false/\¬js xs=js ys:=by have y:¬(js xs).toList=(js ys).toList:=λe=>h (uO H L e);exact⟨y,je y,λe=>y (mT e)⟩
def O0(h:VO W c):∀d∈(vG c).2.1,0<=d/\d<=255:=by
 unfold vG;split
 .intro d y;simp at y
 split
 .split
  .exact h.vl.2
  intro d y;simp at y
 split
 .split
  .exact h.r.a
  intro d y;simp at y
 intro d y;simp at y
def R7{T:Int}(h:CR T W.gF)(y:c∈W.gF)(H:c.fin≠0)(L:c.kind=2):c.r.wh≠4/\c.r.wh≠9:=by have:=(h.Ya c y H C).2.2;omega
def XY{T:Int}(H:CR T W.gF)(L:c∈W.gF)(M:VO W c):0<=(vG c).1:=by
 have h:=λy h=>(H.Ym c L y h).2;have P:=M.po.1;unfold vG;repeat' split
 all_goals first|exact aA 0|exact P|skip
 rename_i y Q Y;obtain e|e:=h y Q
 .exact e.2.2.1
 omega
theorem Ug(h:kM w cP g W V)(hf:Wk W)(bV:W.jl<=3000000000)(hl:W.gF.length<=9999999)(hO:CR (W.n*W.ce) W.gF):Calls prog 32 #[.pointer (some ⟨g,0,none⟩)] w λM w'=>M=.returned (.bool true)/\Bl w w':=by
 obtain⟨ca,cc,bW⟩:=h.ca.row.D;obtain⟨pv,av,lv,cv,hv,mv,ps,aw,ls,cs,tp⟩:=V;simp only at bW;subst bW;obtain⟨H,T⟩:=gO (And.intro h hf) hO;clear h hf hO;go_enter func32,ntmps32;go_wp2;go_loopw[3](λx wr=>∃k:Nat,k<=W.gF.length/\x=.int .i64 k/\Hid (Bl w wr)) λx _=>W.gF.length-(Go.RowKit.intOf x).toNat
 case atStart=>exact⟨0,jR,rfl,jZ⟩
 obtain⟨k,dn,rfl,HB⟩:=hrel;have hX:=H.1.bl (fz:=cP) HB λ_ _=>rfl;have c7:=hX.cellAt 7 rfl;have bX:=hX.lt;by_cases jt:k<W.gF.length
 .have dd:(k:Int)<(W.gF.length:Int):=by omega
  obtain⟨c,hc⟩:∃c,W.gF[k]?=some c:=⟨_,ah jt⟩;have a9:=aR hc;obtain⟨cb,ta,tc,ra,rc,rfl,c0,d0,d1,d2,d3,d4,d5,d6,d7,d8,d9,bq,c1,bs⟩:=hX.ca.cells hc;obtain⟨a,vv,bb,b7⟩:∃a vv bb,vG c=(a,vv,bb):=⟨_,_,_,rfl⟩;have ab:=H.2.ca c a9;have hw:=λP Y=>R7 T a9 P Y;have c2:=XY T a9 ab;have ac:Hid (c.fin≠0->∀Z,Bl wr Z->Calls prog 59 #[.pointer (some ⟨g,0,none⟩),cV c ta tc ra rc] Z λM w'=>M=.returned (.bool true)/\Bl Z w'):=λP Z hb=>PF (H.1.bl (fz:=cP) (HB.H hb) λ_ _=>rfl) H.2 bV T a9 P ta tc ra rc ((gI.D (S:=λ_=>False) hb).jH c1 λ_ _ e=>e);have ad:Hid (∀Z,Bl wr Z->Calls prog 60 #[cV c ta tc ra rc] Z λM w'=>M=.returned (.tuple #[.int .i64 a,.string (js vv),.bool bb])/\Bl Z w'):=λZ hb=>by have e:=uI c.a c.b c.kind c.pos c.c c.fin c.r.wh c.r.ad c.value c.r.val ta c.A.length tc ra rc ab.kd (λP Y=>(hw P Y).2) Z (bs.bl hb);rwa[<-Pm,b7]at e
  have a6:Hid (bb=true->∀Z,Bl wr Z->Calls prog 61 #[.pointer (some ⟨g,0,none⟩),cV c ta tc ra rc,.int .i64 a,.string (js vv)] Z λM w'=>M=.returned (.bool true)/\Bl Z w'):=λck Z hb=>PJ (H.1.bl (fz:=cP) (HB.H hb) λ_ _=>rfl) H.2 bV hl T a9 (kz b7 ck) ta tc ra rc;have ag:Hid (∀Z,Calls prog 62 #[cV c ta tc ra rc] Z λM w'=>M=.returned (.int .i64 0)/\Bl Z w'):=λZ=>Dp c.a c.b c.kind c.pos c.c c.fin c.r.wh c.r.ad _ ta _ tc ra _ rc ab.kd (λP Y=>(hw P Y).1) Z;obtain⟨cl,bv,Hc⟩:=iI bs b7 (And.intro hc (And.intro ab (And.intro hw c2)));obtain⟨oQ,hO⟩:∃oQ,Obj.cells #[Value.int .i64 c.a,.int .i64 c.b,.int .i64 c.kind,.int .i64 c.pos,.string (js c.value),.slice ta c.A.length tc,.int .i64 c.c,.int .i64 c.fin,.int .i64 c.r.wh,.int .i64 c.r.ad,.slice ra c.r.val.length rc] 60=oQ:=⟨_,rfl⟩;obtain⟨W5,bw⟩:∃W5,wr.alloc oQ=W5:=⟨_,rfl⟩;have bA:=(Bl.refl wr).alloc oQ;have y:=ao wr oQ;rw[bw]at bA y;rw[<-hO]at y;obtain⟨HO,c3,a0,ai⟩:=kN hO bw bA y;clear hX y hO bw bA hc a9 ab hw c2 c1 bs b7;go_upto_region 5 with fail;rw[HO.o,c3.o];clear HO c3 d0 d1 d2 d3 d4 d5 d6 d7 d8 d9 bq c7;obtain⟨⟨z0,z1,z2,z3,z4,z5,z6,z7,z8,z9,Q⟩,c4⟩:=oC ai;by_cases c5:c.fin=0
  .have c6:=gN (HB.H a0);clear ac ad a6 ag;go_wp2;exact⟨⟨k+1,by omega,by go_num,c6⟩,by simp[Go.RowKit.intOf];omega⟩
  have ak:=gN (ac c5);clear ac;go_wp2_with fail;refine(ak _ a0).L ?_;rintro M w6⟨rfl,bx⟩;obtain⟨a1,bB⟩:=gO ((bx.heap c4).H ai) (a0.H bx);clear bx z0 z1 z2 z3 z4 z5 z6 z7 z8 z9 Q;obtain⟨⟨z0,z1,z2,z3,z4,z5,z6,z7,z8,z9,Q⟩,be⟩:=oC a1;go_wp2_with fail;refine(ad _ bB).L ?_;rintro M w7⟨rfl,bC⟩;obtain⟨a2,b8⟩:=gO ((bC.heap be).H a1) (bB.H bC);clear bC z0 z1 z2 z3 z4 z5 z6 z7 z8 z9 Q be;obtain⟨⟨z0,z1,z2,z3,z4,z5,z6,z7,z8,z9,Q⟩,bg⟩:=oC a2;go_upto_region 8 with fail;go_cut[9]from 45 to 164 λx wx=>x=.bool true/\Hid (Bl w7 wx)
  case first=>
   cases bb
   .go_wp2_with fail;go_meet;exact⟨rfl,jZ⟩
   have cn:=gN (a6 rfl);clear a6;go_wp2_with fail;refine(cn _ b8).L ?_;rintro M w8⟨rfl,co⟩;go_wp2_with fail;go_meet;exact⟨rfl,co⟩
  case rest=>
   obtain⟨rfl,b9⟩:=hcut;obtain⟨W8,rfl⟩:∃W8,W8=wc:=⟨_,rfl⟩;have a3:=gN ((b9.heap bg).H a2);clear z0 z1 z2 z3 z4 z5 z6 z7 z8 z9 Q bg;obtain⟨⟨z0,z1,z2,z3,z4,z5,z6,z7,z8,z9,Q⟩,bi⟩:=oC a3;go_upto_region 9 with fail;go_cut[10]from 54 to 164 λx wx=>x=.bool true/\Hid (Bl W8 wx)
   case first=>
    have k4:¬c.kind=4:=by have:=Hc.2.1.kd;omega
    go_wp2_with fail;refine(ag _).L ?_;rintro M w9⟨rfl,c8⟩;have aa:=gN c8;clear c8;go_wp2_with fail;go_meet;exact⟨rfl,aa⟩
   case rest=>
    obtain⟨rfl,aa⟩:=hcut;obtain⟨W9,rfl⟩:∃W9,W9=wc:=⟨_,rfl⟩;obtain⟨al,bl,c9⟩:=iI ((aa.heap bi).H a3) (HB.H ((b8.H b9).H aa)) ((b8.H b9).H aa);clear z0 z1 z2 z3 z4 z5 z6 z7 z8 z9 Q bi a6 ag ak ad ai a1 a2 a3 a0 bB b8 b9 aa c4 bX c0;go_wp2;go_loopw[11](λx wx=>∃j:Nat,j<=W.gF.length/\x=.int .i64 j/\Hid (Bl W9 wx)) λx _=>W.gF.length-(Go.RowKit.intOf x).toNat
    case atStart=>exact⟨0,jR,rfl,jZ⟩
    obtain⟨j,ds,rfl,a4⟩:=hrel;have hX:=H.1.bl (fz:=cP) (bl.H a4) λ_ _=>rfl;have c7:=hX.cellAt 7 rfl;have bX:=hX.lt;by_cases cp:j<W.gF.length
    .have dg:(j:Int)<(W.gF.length:Int):=by omega
     obtain⟨o,ho⟩:∃o,W.gF[j]?=some o:=⟨_,ah cp⟩;have am:=aR ho;obtain⟨dt,an,ap,aq,ar,cd,c0,d0,d1,d2,d3,d4,d5,d6,d7,d8,d9,bq,_,au⟩:=hX.ca.cells ho;simp only[aJ,Z0,ZS]at cd;subst cd;obtain⟨oa,ov,ob,aY⟩:∃a vv bb,vG o=(a,vv,bb):=⟨_,_,_,rfl⟩;have bD:=H.2.ca o am;have ba:=λP Y=>R7 T am P Y;have cq:Hid (∀Z,Bl wr Z->Calls prog 60 #[cV o an ap aq ar] Z λM w'=>M=.returned (.tuple #[.int .i64 oa,.string (js ov),.bool ob])/\Bl Z w'):=λZ hb=>by have e:=uI o.a o.b o.kind o.pos o.c o.fin o.r.wh o.r.ad o.value o.r.val an o.A.length ap aq ar bD.kd (λP Y=>(ba P Y).2) Z (au.bl hb);rwa[<-Pm,aY]at e
     have cf:Hid (o.fin≠0->o.fin<c.c->∀Z,Bl wr Z->Calls prog 64 #[cV o an ap aq ar,cV c ta tc ra rc] Z λM w'=>M=.returned (.bool true)/\Bl Z w'):=λe0 e Z hb=>OI o.a o.b o.kind o.pos o.c o.fin o.r.wh o.r.ad o.value o.r.val an o.A.length ap aq ar c.a c.b c.kind c.pos c.c c.fin c.r.wh c.r.ad c.value c.r.val ta c.A.length tc ra rc bD.kd Hc.2.1.kd (λP Y=>(ba P Y).1) (λP Y=>(ba P Y).2) (λP Y=>(Hc.2.2.1 P Y).2) Hc.2.1.po.1 Hc.2.2.2 Z (au.bl hb) (cl.bl ((c9.H a4).H hb)) λk2 cr b1 b2 b3=>T.PQ c (aR Hc.1) o am e0 e k2 cr ⟨b1,b2,b3⟩;have bm:Hid (j≠k->bb=true->ob=true->((a=oa->vv=ov)/\(vv=ov->a=oa))/\¬(c.kind=1/\o.kind=1/\a=oa)):=λe1 e2 e3=>by have e:=T.two k j c o Hc.1 ho (λe=>e1 e.symm) (jf bv.o e2) (jf aY e3);rwa[bv.o,aY]at e
     have ct:Hid (vv≠ov->¬(js vv).toList=(js ov).toList/\((js vv).toList==(js ov).toList)=false/\¬js vv=js ov):=λe=>by have e1:=O0 (H.2.ca c (aR Hc.1));have e2:=O0 (H.2.ca o am);rw[bv.o]at e1;rw[aY]at e2;exact XF e1 e2 e
     obtain⟨O2,bE⟩:∃oQ,Obj.cells #[Value.int .i64 o.a,.int .i64 o.b,.int .i64 o.kind,.int .i64 o.pos,.string (js o.value),.slice an o.A.length ap,.int .i64 o.c,.int .i64 o.fin,.int .i64 o.r.wh,.int .i64 o.r.ad,.slice aq o.r.val.length ar] 60=oQ:=⟨_,rfl⟩;obtain⟨dv,b0⟩:∃W5,wr.alloc O2=W5:=⟨_,rfl⟩;have bA:=(Bl.refl wr).alloc O2;have y:=ao wr O2;rw[b0]at bA y;rw[<-bE]at y;obtain⟨cg,bn,a0,b4⟩:=kN bE b0 bA y;have l9:=(oC al).2;have b5:=gN (((a4.H bA).heap l9).H al);clear hX y bE b0 bA ho am bD ba au aY l9;go_upto_region 16 with fail;rw[cg.o,bn.o];clear cg bn d0 d1 d2 d3 d4 d5 d6 d7 d8 d9 bq c7;obtain⟨⟨y0,y1,y2,y3,y4,y5,y6,y7,y8,y9,ch⟩,ly⟩:=oC b4;have lz:=(oC b5).2;go_wp2_with fail;refine(cq _ a0).L ?_;rintro M ci⟨rfl,a7⟩;obtain⟨cx,cS,a8⟩:=iI ((a7.heap lz).H b5) ((a7.heap ly).H b4) (a0.H a7);clear a7 y0 y1 y2 y3 y4 y5 y6 y7 y8 y9 ch ly lz b5 b4;obtain⟨⟨y0,y1,y2,y3,y4,y5,y6,y7,y8,y9,ch⟩,ly⟩:=oC cS;obtain⟨⟨z0,z1,z2,z3,z4,z5,z6,z7,z8,z9,Q⟩,lz⟩:=oC cx;go_upto_region 17 with fail;go_cut[125]from 99 to 125 λx wx=>x=.bool false/\Hid (wx=ci)
     case first=>
      by_cases bc:j=k
      .have bo:(j:Int)=(k:Int):=by omega
       go_wp2_with fail;go_meet;exact⟨rfl,rfl⟩
      have bo:¬(j:Int)=(k:Int):=by omega
      cases bb
      .go_wp2_with fail;go_meet;exact⟨rfl,rfl⟩
      cases ob
      .go_wp2_with fail;go_meet;exact⟨rfl,rfl⟩
      have Ht:=gN (bm bc rfl rfl);by_cases b6:a=oa
      .have bd:=Ht.1.1 b6;subst b6;subst bd;go_wp2_with fail;go_meet;exact⟨rfl,rfl⟩
      by_cases bd:vv=ov
      .exact absurd (Ht.1.2 bd) b6
      obtain⟨n1,n2,n3⟩:=ct bd;generalize js vv=s1 at*;generalize js ov=s2 at*;go_wp2_with fail;go_meet;exact⟨rfl,rfl⟩
     case rest=>
      obtain⟨rfl,hw⟩:=hcut;have bR:=hw.symm;subst bR;go_upto_region 19 with fail;go_cut[149]from 126 to 149 λx wx=>x=.bool false/\Hid (wx=ci)
      case first=>
       by_cases bc:j=k
       .have dj:((j:Int) !=(k:Int))=false:=by simp;omega
        clear bc;go_wp2_with fail;go_meet;exact⟨rfl,rfl⟩
       have bo:¬(j:Int)=(k:Int):=by omega
       by_cases k1:c.kind=1
       .by_cases k2:o.kind=1
        .have Ht:=gN (bm bc);rw[k1]at z2;rw[k2]at y2;have Hk:=gN (And.intro k1 k2);clear k1 k2
         cases bb
         .go_wp2_with fail;go_meet;exact⟨rfl,rfl⟩
         cases ob
         .go_wp2_with fail;go_meet;exact⟨rfl,rfl⟩
         have b6:¬a=oa:=λe=>(Ht rfl rfl).2 ⟨Hk.1,Hk.2,e⟩;go_wp2_with fail;go_meet;exact⟨mZ b6,rfl⟩
        rw[k1]at z2;clear k1;go_wp2_with fail;go_meet;exact⟨rfl,rfl⟩
       go_wp2_with fail;go_meet;exact⟨rfl,rfl⟩
      case rest=>
       obtain⟨rfl,hw⟩:=hcut;have bR:=hw.symm;subst bR;by_cases da:o.fin=0
       .have a5:=gN (a4.H a8);clear cf;go_wp2;exact⟨⟨j+1,by omega,by go_num,a5⟩,by simp[Go.RowKit.intOf];omega⟩
       by_cases db:o.fin<c.c
       .have dc:=gN (cf da db);go_wp2_with fail;refine(dc _ a8).L ?_;rintro M dw⟨rfl,bp⟩;have a5:=gN (a4.H (a8.H bp));clear bp;go_wp2;exact⟨⟨j+1,by omega,by go_num,a5⟩,by simp[Go.RowKit.intOf];omega⟩
       have a5:=gN (a4.H a8);go_wp2;exact⟨⟨j+1,by omega,by go_num,a5⟩,by simp[Go.RowKit.intOf];omega⟩
    have dl:¬((j:Int)<(W.gF.length:Int)):=by omega
    have a5:=gN (bl.H a4);clear hX;go_wp2;exact⟨⟨k+1,by omega,by go_num,a5⟩,by simp[Go.RowKit.intOf];omega⟩
 have dO:¬((k:Int)<(W.gF.length:Int)):=by omega
 clear hX;go_wp2;go_ret;exact⟨rfl,HB⟩
def Tryz.Xr:(prog.info? 72).map (λi=>(i.zero,i.size,i.bytes))=some (some (.agg #[I 0,.pointer none,I 0,.bool false,.bool false]),5,32):=iu
def Wd.some(n m v ce k:Nat):Wd:=⟨n,m,v,ce,(List.range k).map (Az n m),[],[],[],0,[],[],0⟩
def wY(n m v ce k):(Wd.some n m v ce k).pl.length=k:=by simp[Wd.some]
def Yr(h:(Az n m k).part.of n m v ce (jP n m k))(y:Nd w fz (10+3*k) (11+3*k) (12+3*k) gi n m v ce 0 (Az n m k).part []):Bv w fz n m v ce k gi 0 0 (Az n m k):=by
 have H:(Az n m k).q=[]:=by unfold Az;split<;>rfl
 exact⟨0,jf H y,h,bz,bz⟩
def kM.VQ{pc:Nat}(h:kM w cP g (Wd.some n m v ce k) {V with pv:=gK pa k pc})(hk:k<14)(hN:Bv w cP n m v ce k gi 0 0 (Az n m k)){W1 Y:World}(a0:Bl w W1){gg cp:Nat}(Z:Y.ownsRow 0 72 5 (gK (G gg) (k+1) cp) (k+1) (V.ps++[I (jP n m k),O gi,I 0,.bool true,.bool false]))(y:W1.grownBy Y (gK pa k pc).ownBlock)(a9:(gK pa k pc).ownBlock=some gg\/w.heap.size<=gg):∃tag2,j4 (λs=>s=1\/s=2) w cP (Y.setCell (U g 4) (gK (G gg) (k+1) cp)) tag2/\kM (Y.setCell (U g 4) (gK (G gg) (k+1) cp)) tag2 g (Wd.some n m v ce (k+1)) {V with pv:=gK (G gg) (k+1) cp,ps:=V.ps++[I (jP n m k),O gi,I 0,.bool true,.bool false]}:=by
 have lw:=h.lt;have l2:=a0.lt;have l3:=y.size;have n3:V.tp=8\/V.tp=97:=h.ht;have M:nh w cP 2 72 5 (gK pa k pc) k V.ps:=by have:=h.b.row;rwa[wY]at this
 have tl:=M.cP;have ll:=λb hb=>(M.ij.lt b hb).2;obtain⟨tag2,a6⟩:∃tag2:Nat->Nat,tag2=λb=>if b<w.heap.size then cP b else if b=gg then 2 else 9:=⟨_,rfl⟩
 have Q:∀b,b<w.heap.size->tag2 b=cP b:=λb hb=>by rw[a6];simp[hb]
 have aa:tag2 gg=2:=by
  obtain e|e:=a9
  .rw[Q gg (ll gg e)];exact tl gg e
  rw[a6];dsimp only;rw[az C,aE rfl]
 have oQ:gI (λb=>cP b=1\/cP b=2) w (Y.setCell (U g 4) (gK (G gg) (k+1) cp)):=((gI.D a0).H ((gI.A y).L λb _ e=>.inr (tl b e.symm))).setCell (U g 4) (.inl (.inl h.tg)) _;have kk:j4 (λt=>t=1\/t=2) w cP (Y.setCell (U g 4) (gK (G gg) (k+1) cp)) tag2:=⟨oQ,Q⟩;have a7:Y.heap[g]?=some (ig (Fb (Wd.some n m v ce k) {V with pv:=gK pa k pc}).toArray 66 (0,0)):=by rw[y.block g C λe=>by have:=tl g e.symm;rw[h.tg]at this;omega,a0.heap lw];exact h.hg
 have hl:=M.ij.1;refine⟨tag2,kk,jO 4 _ Y _ a7,(Q g lw).H h.tg,⟨⟨?_,λb hb=>?_⟩,λi P hP=>?_⟩,h.D.A kk C λi _ _=>C,h.ca.A kk C C λi _=>C,h.po.A kk (by show¬(V.tp=1\/V.tp=2);omega) C,h.ha.A kk C,h.ms.A kk C,by rw[wY];omega,h.an,n3⟩
 .rw[wY];exact mW Z λb hb=>Z8 _ _ _ _ λe=>gW Z a7 bT (kz hb e)
 .have e:gg=b:=by simpa [Value.ownBlock]using hb
  rw[<-e];exact aa
 have T:((List.range (k+1)).map (Az n m))[i]?=some P:=hP;have hi:=(aj.1 T).1;simp at hi;rw[aK,cD hi]at T;simp at T;by_cases e:i<k
 .obtain⟨gj,mj,⟨a1,a2,a3,a4,a5⟩,nj⟩:=h.b.pl i P (by show((List.range k).map (Az n m))[i]?=_;rw[aK,cD e];simp[T]);refine⟨gj,mj,⟨?_,?_,?_,?_,?_⟩,nj.A kk C C C⟩
  .rw[aB C];exact a1
  .rw[aB C];exact a2
  .rw[aB C];exact a3
  .rw[aB C];exact a4
  rw[aB C];exact a5
 have e':i=k:=C;subst e';rw[<-T];have a8:(Az n m i).up=true/\(Az n m i).nf=false:=by unfold Az;split<;>exact⟨rfl,rfl⟩
 refine⟨gi,0,⟨?_,?_,?_,?_,?_⟩,hN.A kk C C C⟩
 .rw[aC C,hl];simp[Wd.some]
 .rw[aC C,hl];simp
 .rw[aC C,hl];simp
 .rw[aC C,hl,a8.1];simp
 rw[aC C,hl,a8.2];simp
def VY(S:Cf)(L:k<S.n*S.m+S.v):(Az S.n S.m k).part.of S.n S.m S.v S.ce (jP S.n S.m k)/\(Az S.n S.m k).part.new:=by
 obtain⟨y,H,M,P⟩:=S.A;have Q:=rj y.2 H.2;unfold Az;by_cases h:k<S.n*S.m
 .rw[aE h];have gN:jP S.n S.m k=k:=by unfold jP;rw[aE h]
  refine⟨⟨qD gN,?_⟩,rfl⟩;rw[gN];unfold GF;rw[aE S.ok,az (by have:((k:Nat):Int)<(S.n:Int)*S.m:=(by exact_mod_cast h);omega)];simp
 rw[az h];have gN:jP S.n S.m k=100+k-(S.n*S.m:Nat):=by unfold jP;rw[az h]
 exact⟨⟨qD gN,qD gN⟩,rfl⟩
theorem NK(S:Cf)(w):iU 26 #[cfg S.n S.m S.v S.ce] w λen w'=>∃g,en=gU (.tuple #[O g,.bool true])/\Bl w w'/\∃fz,(∀b,b<w.heap.size->fz b=0)/\Wx w' fz g (Wd.start S.n S.m S.v S.ce):=by
 have al:=gN (K6 S);have am:Hid (∀k,k<S.n*S.m+S.v->(Az S.n S.m k).part.of S.n S.m S.v S.ce (jP S.n S.m k)/\(Az S.n S.m k).part.new):=λk hk=>VY S hk;obtain⟨n,m,v,ce,hf⟩:=S;simp only at al am|-;obtain⟨bb,bc,r0,r1,r2⟩:=fx Tryz.Xr;have s0:=(Cf.mk n m v ce hf).A;simp only at s0;have s7:=rj s0.1.2 s0.2.1.2;have s8:1*1<=n*m:=fF s0.1.1 s0.2.1.1;obtain⟨N,hN⟩:=gG (n*m);have bq:(n:Int)*(m:Int)=(N:Int):=by rw[<-hN];simp
 rw[hN]at s7 s8;obtain⟨W0,a3⟩:=gG (w.alloc (ig #[I n,I m,I v,I ce] 27));obtain⟨W1,a4⟩:=gG (W0.alloc (ig #[I n,I m,I v,I ce,OO,OO,OO,OO,I 0,OO,OO] 66));have b0:Bl w W0:=by rw[<-a3];exact jZ.alloc _
 have b1:Bl W0 W1:=by rw[<-a4];exact jZ.alloc _
 have z0:W0.heap.size=w.heap.size+1:=by rw[<-a3];simp
 have z1:W1.heap.size=W0.heap.size+1:=by rw[<-a4];simp
 have ac:W0.heap[w.heap.size]?=some (ig #[I n,I m,I v,I ce] 27 (0,0)):=by rw[<-a3];exact ao w _
 have an:=(b1.heap (b:=w.heap.size) C).H ac;have ap:W1.heap[W0.heap.size]?=some (ig (Fb (Wd.some n m v ce 0) ⟨OO,OO,OO,OO,OO,OO,[],[],[],[],8⟩).toArray 66 (0,0)):=by rw[<-a4];exact ao W0 _
 obtain⟨Q,a7⟩:∃Q:Nat->Nat,Q=λb=>if b<w.heap.size then 0 else if b=W0.heap.size then 1 else 9:=⟨_,rfl⟩
 have aq:kM W1 Q W0.heap.size (Wd.some n m v ce 0) ⟨OO,OO,OO,OO,OO,OO,[],[],[],[],8⟩:=⟨ap,by rw[a7];dsimp only;rw[az C,aE rfl],⟨nh.nil _ _ _,λi P hP=>by simp[Wd.some]at hP⟩,⟨nh.nil _ _ _,λi A hA=>by simp[Wd.some]at hA⟩,⟨nh.nil _ _ _,λi c hc=>by simp[Wd.some]at hc⟩,tM.nil _,nh.nil _ _ _,nh.nil _ _ _,by simp[Wd.some],by simp[Wd.some],.inl rfl⟩;have ad:=gN aq;have ar:Hid (∀b,b<w.heap.size->Q b=0):=λb hb=>by rw[a7];simp[hb]
 have au:Hid (Q w.heap.size=9):=by unfold Hid;rw[a7];dsimp only;rw[az C,az C]
 obtain⟨av,aw,aY,b3⟩:=kN an (b0.H b1) a3 a4;have bd:=hf;have Hf:=gN hf;obtain⟨⟨s1,s2⟩,⟨s3,s4⟩,⟨s5,s6⟩,_⟩:=s0;obtain⟨x0,x1,x2,x3⟩:=pD ac 0 1 2 3 rfl;have lx:w.heap.size<W0.heap.size:=C;obtain⟨g,hg⟩:=gG (w.heap.size+1);rw[z0,hg]at ad;clear aq ac an ap b0 b1 a3 a4 a7 hf bd;go_enter func26,ntmps26;go_upto_region 1 with fail;rw[aY.o];go_upto_region 2 with fail;rw[b3.o];clear aY b3 x0 x1 x2 x3 z0 z1 lx;go_wp2;go_loopw[5](λi wr=>∃(k:Nat) (fz:Nat->Nat) (pa:Option Addr) (pc:Nat) (ps:List Value),k<=N+v/\i=I k/\Hid (∀b,b<w.heap.size->fz b=0)/\Hid (Bl w wr)/\Hid (kM wr fz g (Wd.some n m v ce k) ⟨gK pa k pc,OO,OO,OO,OO,OO,ps,[],[],[],8⟩)/\Hid (wr.heap[w.heap.size]?=some (ig #[I n,I m,I v,I ce] 27 (0,0))/\fz w.heap.size=9)) λi _=>N+v-(Go.RowKit.intOf i).toNat
 case atStart=>exact⟨0,Q,none,0,[],jR,rfl,ar,aw,ad,av,au⟩
 clear ar aw ad av au Q;obtain⟨k,fz,pa,pc,ps,hk,rfl,HT,a8,HB,HC⟩:=hrel;have lx:w.heap.size<wr.heap.size:=(ae.1 HC.1).1;obtain⟨x0,x1,x2,x3⟩:=pD HC.1 0 1 2 3 rfl;have be:Hid (wr.ownsRow 0 72 5 (gK pa k pc) k ps):=by have:=HB.b.row.ij;rwa[wY]at this
 by_cases jt:k<N+v
 .have bp:(k:Int)<(N:Int)+(v:Int):=C;obtain⟨a0,T⟩:=gG (jP n m k);have HO:Hid (iU 17 #[cfg n m v ce,I a0,OO] wr λe w'=>∃gi,e=gU (.tuple #[O gi,I 0])/\Bl wr w'/\∃Y,(∀b,b<wr.heap.size->Y b=fz b)/\Bv w' Y n m v ce k gi 0 0 (Az n m k)):=by obtain⟨o1,o2⟩:=am k (jf hN jt);rw[T]at o1;refine(N7 o1 o2 Hf fz (10+3*k) (11+3*k) (12+3*k)).L ?_;rintro e w'⟨gi,Y,rfl,e3,e4,e5⟩;exact⟨gi,rfl,e5,Y,e3,Yr (jf T o1) e4⟩
  have aa:Hid ((k:Int)<N->a0=k):=λh=>by rw[<-T];unfold jP;rw[aE C]
  have ab:Hid (¬(k:Int)<N->a0=100+k-N):=λh=>by rw[<-T,<-hN];unfold jP;rw[az C]
  have HK:=gN T;clear T;go_upto_if 31 with fail;go_cut[6]from 31 to 39 λy wx=>y=I a0/\wx=wr
  case first=>
   by_cases b4:(k:Int)<N
   .have b5:¬((N:Int)<=(k:Int)):=C;have ag:=aa;go_wp2_with fail;go_meet;exact⟨by rw[ag.o b4],rfl⟩
   have b5:(N:Int)<=(k:Int):=C;have ag:=ab;go_wp2_with fail;go_meet;exact⟨by rw[ag.o b4],rfl⟩
  obtain⟨rfl,ai⟩:=hcut;have ai:=ai.symm;subst ai;clear aa ab;go_upto_region 9 with(go_at_call 17;refine HO.L ?_;rintro en w2⟨gi,rfl,a9,Y,e1,e3⟩;obtain⟨ak,HE⟩:=gO a9 (And.intro e1 e3);clear a9 e1 e3);have b2:=ak.o;have a1:=(jY b2).jH be λ_ _ e=>e;have a5:=(b2.heap HB.lt).H HB.hg;have y4:w2.cell? (U g 4)=some (gK pa k pc):=ax w2 g 4 _ 66 (0,0) a5;have f4:=aP w2 g 4 _ 66 a5;have b6:g<w2.heap.size:=(ae.1 a5).1;have b7:Hid ((gK pa k pc).ownBlock≠some g):=gW a1 a5 bT;have bg:=gN a1;have bi:Hid (k+1<=maxLen):=nZ;have a9:Hid ((k+1)*32<=140737488355328):=nC;clear a1 a5 b2;go_upto_region 4 with(at_builtin;refine fm _ rfl _ _ 61 rfl 0 72 bb _ 5 32 underlying61 bc r0 r1 r2 rfl bT (gK pa k pc) k ps rfl (bg.alloc _) (U w2.heap.size 0) 1 1 [I a0,O gi,I 0,.bool true,.bool false] rfl rfl (fW (cs:=#[I a0,O gi,I 0,.bool true,.bool false]) (t:=72) (fr:=(0,0)) (ao w2 _)) tx bT bi a9 bz (w2.heap.size+1) bz ?_;intro gg cp w6 Z M a2 b8;have kc:=(C4 ((Bl.refl w2).alloc _) M (o:=4) b6 b7).1.H y4;have kf:=(C4 ((Bl.refl w2).alloc _) M (o:=4) b6 b7).2.H f4;have bs:g<w6.heap.size:=(by have:=M.size;simp at this;omega);have bl:=nJ Z M a2;clear Z M a2 b8);go_wp2;obtain⟨Z,M,a2⟩:=bl.o;obtain⟨tag2,kq,q2⟩:=kM.VQ (V:=⟨gK pa k pc,OO,OO,OO,OO,OO,ps,[],[],[],8⟩) (HB.bl (fz:=Y) ak HE.1) C HE.2 ((Bl.refl w2).alloc (ig #[I a0,O gi,I 0,.bool true,.bool false] 72)) (gg:=gg) (cp:=cp) (jf HK.o Z) M (a2.imp (λe=>e) λe=>C);have kk:j4 (λt=>t=1\/t=2) wr fz _ tag2:=(j4.A ak HE.1).H kq;have q1:=kk.cP;have q3:=kk.only;refine⟨⟨k+1,tag2,G gg,cp,_,C,iq,λb hb=>?_,?_,q2,kk.heap HC.1 HC.2 C⟩,iD⟩
  .rw[q1 b (af hb a8.lt)];exact HT b hb
  refine a8.A q3 λb e=>?_;apply dT;intro a6;have:=HT b a6;omega
 have b5:¬((k:Int)<(N:Int)+(v:Int)):=C;have bm:k=N+v:=C;have b9:=HB.o;have hz:Wd.some n m v ce k=Wd.zero n m v ce:=by rw[bm,<-hN];rfl
 rw[hz]at b9;have bn:=gN (Ai b9 al);go_wp2_with(go_at_call 38;refine bn.L ?_;rintro en w2⟨rfl,tag2,k2,h2⟩;obtain⟨ba,bo⟩:=gO k2 h2;clear k2 h2);go_ret2;refine⟨g,rfl,a8.A ba.only λb e=>?_,tag2,λb hb=>?_,bo⟩
 .apply dT;intro a6;have:=HT b a6;omega
 rw[ba.cP b (af hb a8.lt)];exact HT b hb
def WY(h:W.XK=true):(W.call 1 0 0).round.2=true/\W.Xh.lf.2=true/\(W.UG.call 2 0 0).lf.2=true/\∃a b,W.Oo.gF=[a,b]/\a.r.wh=1/\b.r.wh=8/\b.r.val=kP 0:=by
 unfold Wd.XK at h;simp only[bL]at h;obtain⟨⟨⟨H,L⟩,M⟩,y⟩:=h;refine⟨H,L,M,?_⟩;split at y
 .next a b e=>simp only[bL,ZT]at y;exact⟨a,b,e,y.1.1,y.1.2,y.2⟩
 .exact absurd y bT
theorem NW(h:kM w cP g W V)(hL:Bu S W W 0 0)(hm:W.iP=[])(ha:W.jl<=100)(hc:W.gF=[])(Q:W.XK=true):iU 33 #[O g] w λM w'=>M=gU (.bool true)/\∃fz,j4 (λt=>t≠0) w cP w' fz/\Wx w' fz g W.Oo:=by
 obtain⟨b1,b2,b3,ka,kb,aq,q1,q2,q3⟩:=WY Q;have ad:∀{a c:Nat} {W':Wd},Bu S W W' a c->KZ W'.iP:=λh=>by rw[h.ms,hm];exact wF
 have P:∀{a c:Nat} {W':Wd},Bu S W W' a c->W'.jl<=100+a/\W'.gF.length<=c/\0<W'.ac.length:=λh=>by have:=h.jl;have:=h.cl;rw[hc]at this;exact⟨C,by simpa using this,h.u⟩
 have L1:=hL.call 1 0 0 (.inl rfl);have L2:=KY hL;have L3:=KV hL;have L4:=L3.call 2 0 0 (.inr (.inl rfl));have z0:vZ 0:=by unfold vZ;omega
 have H1:Hid (iU 28 #[O g,I 1,I 0,I 0] w λM w'=>M=gU (.bool true)/\∃fz,j4 (λt=>t≠0) w cP w' fz/\Wx w' fz g (W.call 1 0 0)):=(AX h hL.k (gM (P hL)) (gM (P hL)) 1 0 0 (.inl rfl) z0 z0 (P hL).2.2).L λM w'⟨e,t,k,x⟩=>⟨e,t,k.L λt ht=>by unfold Pc Pg at ht;omega,x⟩;have H2:Hid (∀w' fz Y,kM w' fz g (W.call 1 0 0) Y->iU 37 #[O g] w' λM T=>M=gU (.bool true)/\∃y,j4 (λt=>t≠0) w' fz T y/\Wx T y g W.Xh):=λw' fz Y x=>(Cr x L1.k (gM (P L1)) (gM (P L1)) (ad L1) (P L1).2.2).L λM w'⟨e,t,k,x⟩=>⟨kz e b1,t,k.L λt ht=>by unfold Pr Pw Pg at ht;omega,x⟩;have H3:Hid (∀w' fz Y,kM w' fz g W.Xh Y->iU 30 #[O g] w' λM T=>M=gU (.bool true)/\∃y,j4 (λt=>t≠0) w' fz T y/\Wx T y g W.UG):=λw' fz Y x=>(AL x L2.k (gM (P L2)) (gM (P L2)) (ad L2) (P L2).2.2).L λM w'⟨e,t,k,x⟩=>⟨kz e b2,t,k.L λt ht=>by unfold Pw at ht;omega,x⟩;have H4:Hid (∀w' fz Y,kM w' fz g W.UG Y->iU 28 #[O g,I 2,I 0,I 0] w' λM T=>M=gU (.bool true)/\∃y,j4 (λt=>t≠0) w' fz T y/\Wx T y g (W.UG.call 2 0 0)):=λw' fz Y x=>(AX x L3.k (gM (P L3)) (gM (P L3)) 2 0 0 (.inr (.inl rfl)) z0 z0 (P L3).2.2).L λM w'⟨e,t,k,x⟩=>⟨e,t,k.L λt ht=>by unfold Pc Pg at ht;omega,x⟩;have H5:Hid (∀w' fz Y,kM w' fz g (W.UG.call 2 0 0) Y->iU 30 #[O g] w' λM T=>M=gU (.bool true)/\∃y,j4 (λt=>t≠0) w' fz T y/\Wx T y g W.Oo):=λw' fz Y x=>(AL x L4.k (gM (P L4)) (gM (P L4)) (ad L4) (P L4).2.2).L λM w'⟨e,t,k,x⟩=>⟨kz e b3,t,k.L λt ht=>by unfold Pw at ht;omega,x⟩;have HQ:=oH aq q1 q2 q3;have HV:Hid (∀W,iU 40 #[I 0] W λM w'=>M=gU (.string (js (kP 0)))/\Bl W w'):=λW=>Dd W 0;clear h hL hm ha hc Q b1 b2 b3 aq q1 q2 q3 ad P L1 L2 L3 L4 z0;go_enter func33,ntmps33;go_wp2_with fail;refine H1.L ?_;rintro M w1⟨rfl,t1,k1,V1,x1⟩;obtain⟨ar,au⟩:=gO k1 (H2 _ _ _ x1);clear k1 x1 H1 H2;go_wp2_with fail;refine au.L ?_;rintro M T⟨rfl,t2,k2,V2,x2⟩;obtain⟨aY,b0⟩:=gO (ar.H k2) (H3 _ _ _ x2);clear k2 x2 au H3 ar;go_wp2_with fail;refine b0.L ?_;rintro M w3⟨rfl,t3,k3,V3,x3⟩;obtain⟨b4,b5⟩:=gO (aY.H k3) (H4 _ _ _ x3);clear k3 x3 b0 H4 aY;go_wp2_with fail;refine b5.L ?_;rintro M w4⟨rfl,t4,k4,V4,x4⟩;obtain⟨b7,b8⟩:=gO (b4.H k4) (H5 _ _ _ x4);clear k4 x4 b5 H5 b4;go_wp2_with fail;refine b8.L ?_;rintro M w5⟨rfl,t5,k5,V5,x5⟩;have bi:=gN (b7.H k5);obtain⟨ca,cc,b9⟩:=x5.ca.row.D;obtain⟨pv,av,lv,cv,hv,mv,ps,aw,ls,cs,tp⟩:=V5;simp only at b9;subst b9;obtain⟨e1,e2,e3,e4⟩:=HQ.o;have c7:=x5.cellAt 7 rfl;have ak:=x5.lt;have ag:=x5.ca;have bl:=gN x5;simp only[e1,df,dA]at ag c7;obtain⟨cb,ta,tc,ra,rc,rfl,al,a0,a1,a2,a3,a4,a5,a6,a7,a8,a9,bm,_,_⟩:=qz.cells (k:=0) ag rfl;obtain⟨bw,bn,bo,ba,bb,bc,_,d0,d1,d2,d3,d4,d5,d6,d7,d8,d9,bd,_,am⟩:=qz.cells (k:=1) ag rfl;simp only[aJ,Z0,ZS]at bc;subst bc;rw[e2]at a8;rw[e3]at d8;rw[e4]at bd am;clear a0 a1 a2 a3 a4 a5 a6 a7 a9 bm ag x5 k5 b8 b7 e1 e2 e3 e4 HQ;have Z:=gN am;clear am;obtain⟨oQ,hO⟩:=gG (ig #[I kb.a,I kb.b,I kb.kind,I kb.pos,.string (js kb.value),gK bn kb.A.length bo,I kb.c,I kb.fin,I 8,I kb.r.ad,gK ba (kP 0).length bb] 60);go_upto_region 8 with fail;go_region;obtain⟨W6,ai⟩:=gG ((w5.alloc oQ).drew);rw[ai];have b6:Bl w5 W6:=by rw[<-ai];exact(jZ.alloc oQ).drew
 have aa:W6.heap[w5.heap.size]?=some oQ:=by rw[<-ai];exact ao w5 oQ
 rw[<-hO]at aa;have kc:=mm _ (kP 0) _ (Z.bl b6);have z7:=(b6.cell ak).H c7;have za:=(b6.cell al).H a8;have bp:=af ak b6.lt;have bq:=af al b6.lt;have ab:=gN b6;clear ai b6 hO c7 a8 d0 d1 d2 d3 d4 d5 d6 d7 d8 d9 bd al ak;obtain⟨⟨y0,y1,y2,y3,y4,y5,y6,y7,y8,y9,be⟩,bs⟩:=oC aa;clear aa y0 y1 y2 y3 y4 y5 y6 y7 y9;have Hz:=oH z7 za y8 be;have an:Hid (∀n,(convert 40 9 (gK ba (kP 0).length bb)).run prog (W6.drewN n)=.ok (.string (js (kP 0))) (W6.drewN n)):=λn=>mm _ (kP 0) _ (Z.bl (ab.drewN n));have kd:=an.o;have ke:=mm _ (kP 0) _ (Z.bl ab.drew);obtain⟨sv,ap⟩:=gG (js (kP 0));rw[ap]at kc kd ke HV an;obtain⟨len,ac⟩:=gG ((kP 0).length);rw[ac]at kc kd ke be Hz an;go_upto_region 9 with fail;go_region_with(go_at_call 40;refine gS (HV _) λw7 bg=>?_;have Q:Bl W6 w7:=Bl.H jU bg;have x7:=(Q.cell bp).H Hz.1;have xa:=(Q.cell bq).H Hz.2.1;obtain⟨x8,bx⟩:=Q.D bs Hz.2.2.1 Hz.2.2.2;have xc:=mm _ (kP 0) _ (Z.bl (ab.H Q));have xd:=λn=>mm _ (kP 0) _ (Z.bl ((ab.H Q).drewN n));rw[ap,ac]at xc;simp only[ap,ac]at xd;have bv:=gN Q;clear bg Q);all_goals
  go_wp2;go_ret;have Q:=ab.H bv;exact⟨rfl,t5,bi.H (j4.A Q λ_ _=>rfl),_,bl.bl Q λ_ _=>rfl⟩
structure Pd(S:Cf)(w wr:World)(g q:Nat)(cP:Nat->Nat)(B:List (Nat×Obj))(W:Wd):Prop where
 f:Sf S W
 k:Wk W
 pt:KZ W.iP
 jl:W.jl<=pB*q
 cl:W.gF.length<=q
 aw:Ft W
 an:0<W.ac.length
 t0:∀b,b<w.heap.size->cP b=0
 bl:Bl w wr
 x:Wx wr cP g W
 bx:∀z∈B,cP z.1=0/\wr.heap[z.1]?=some z.2
section
variable{wr w2:World}{q:Nat}{tag2:Nat->Nat}
def Pd.next(h:Pd S w wr g q cP B W){H:Nat}(L:j4 (λt=>t≠0) wr cP w2 tag2)(x:Wx w2 tag2 g W2)(f:Sf S W2)(k:Wk W2)(Q:KZ W2.iP)(T:W2.jl<=pB*H)(Y:W2.gF.length<=H)(Z:W2.R=W.R)(an:W.ac.length<=W2.ac.length):Pd S w w2 g H tag2 B W2:=by
 refine⟨f,k,Q,T,Y,OY Z h.aw,af h.an an,λb M=>?_,?_,x,λz P=>?_⟩
 .rw[L.cP b (af M h.bl.lt)];exact h.t0 b M
 .refine h.bl.A L.only λb e=>?_;apply dT;intro y;exact e (h.t0 b y)
 have:=L.heap (h.bx z P).2 (h.bx z P).1 C;exact⟨this.2,this.1⟩
def Pd.bl'(h:Pd S w wr g q cP B W)(y:Bl wr w2):Pd S w w2 g q cP B W:=by obtain⟨V,H⟩:=h.x;exact h.next (j4.A y λ_ _=>rfl) ⟨V,H.bl y λ_ _=>rfl⟩ h.f h.k h.pt h.jl h.cl rfl jr
def Pd.Rr(h:Pd S w wr g q cP B W)(y:q<=2000):W.jl+pB*80<=3000000000:=by
 have:=h.jl;have H:pB*q<=pB*2000:=gA _ y;have:pB*2000+pB*80<=3000000000:=by unfold pB;omega
 omega
def Pd.call(h:Pd S w wr g q cP B W)(M:q<=2000)(kind a b:Int)(P:kind=1\/kind=2\/kind=5)(Q:vZ a)(T:vZ b):iU 28 #[O g,I kind,I a,I b] wr λy w'=>y=gU (.bool true)/\∃fz,Pd S w w' g (q+1) fz B (W.call kind a b):=by
 obtain⟨V,Y⟩:=h.x;have H:=h.Rr M;have hr:3<=pB:=by unfold pB;omega
 refine(AX Y h.k C (gM h.cl) kind a b P Q T h.an).L ?_;rintro y w'⟨rfl,fz,Z,x'⟩;obtain⟨c1,c2,c3,c4,c5,_,c7⟩:=xj h.k kind a b C;refine⟨rfl,fz,h.next (Z.L λt e=>by unfold Pc Pg at e;omega) x' (h.f.call h.k kind a b C) c1 (by rw[c4];exact h.pt) ?_ (gM h.cl) (Av _ _ _ _) C⟩;have:=h.jl;rw[Nat.mul_succ];omega
def Pd.jK(h:Pd S w wr g q cP B W)(P:q<=2000)(a y t:Int)(Q:vZ a)(T:vZ y):iU 29 #[O g,I a,I y,I t] wr λH w'=>H=gU (.bool true)/\∃fz,Pd S w w' g (q+1) fz B (W.jK a y t):=by
 obtain⟨V,Y⟩:=h.x;have M:=h.Rr P;have hr:3<=pB:=by unfold pB;omega
 refine(GI Y h.k C (gM h.cl) a y t Q T h.an).L ?_;rintro H w'⟨rfl,fz,Z,x'⟩;obtain⟨g1,g2,g3,g4,g5,g6,g7⟩:=wM h.k a y t;refine⟨rfl,fz,h.next (Z.L λt e=>by unfold Pg at e;omega) x' (h.f.jK h.k a y t) g1 (by rw[g4];exact h.pt) ?_ (gM h.cl) (EW _ _ _ _) C⟩;have:=h.jl;rw[Nat.mul_succ];omega
def Bq(W:Wd):W.lf.1.R=W.R:=by
 refine(Bj 300 _).H (sB Wd.jG (λW i=>?_) _ W);unfold Wd.jG;split
 .rfl
 split<;>rfl
def Pd.lf(h:Pd S w wr g q cP B W)(P:q<=2000)(Q:W.lf.2=true):iU 30 #[O g] wr λH w'=>H=gU (.bool true)/\∃fz,Pd S w w' g (q+1) fz B W.lf.1:=by
 obtain⟨V,T⟩:=h.x;have L:=h.Rr P;have Y:pB=136+2422*300:=rfl;have M:=AL T h.k C (gM h.cl) h.pt h.an;rw[Q]at M;refine M.L ?_;rintro H w'⟨rfl,fz,Z,x'⟩;have y:=EA h.k;refine⟨rfl,fz,h.next (Z.L λt e=>by unfold Pw at e;omega) x' (h.f.lf h.k) y.k (by rw[y.ms];exact h.pt) ?_ (by have:=h.cl;rw[y.cl];omega) (Bq _) (cY y.b.symm)⟩;have:=h.jl;have:=y.jl;rw[Nat.mul_succ];omega
theorem Sf.YX(h:Sf S W)(y:Wk W):∀k,Sf S (W.nA k)
 |0=>h
 |k+1=>(Sf.YX h y k).round (Kp.nA y k).k
def Pd.calm(h:Pd S w wr g q cP B W)(P:q<=2000)(Q:∀k,k<80->(W.nA k).round.2=true)(T:∀c∈(W.nA 80).gF,c.fin≠0):iU 35 #[O g] wr λM w'=>M=gU (.bool true)/\∃fz,Pd S w w' g (q+80) fz B (W.nA 80):=by
 obtain⟨V,Y⟩:=h.x;have y:=h.Rr P;refine(Ps Y h.k y (gM h.cl) h.pt h.an h.aw Q T).L ?_;rintro M w'⟨rfl,fz,Z,x'⟩;have H:=Kp.nA h.k 80;refine⟨rfl,fz,h.next (Z.L λt e=>by unfold Pr Pw Pg at e;omega) x' (h.f.YX h.k 80) H.k (by rw[H.ms];exact h.pt) ?_ (by have:=h.cl;rw[H.cl];omega) (LU _ 80) (cY H.b.symm)⟩;have:=h.jl;have:=H.jl;rw[Nat.mul_add];omega
def Pd.ks(h:Pd S w wr g q cP B W):iU 38 #[O g] wr λH w'=>H=gU (.bool true)/\∃fz,Pd S w w' g (q+1) fz B W.ks:=by
 obtain⟨V,M⟩:=h.x;refine(Ai M h.k).L ?_;rintro H w'⟨rfl,fz,P,Q⟩;have y:W.ks.jl<=W.jl+1/\W.ks.gF=W.gF/\W.ks.iP=W.iP/\W.ac.length<=W.ks.ac.length:=by unfold Wd.ks;split<;>simp
 refine⟨rfl,fz,h.next (P.L λt e=>C) Q h.f.ks h.k.ks (by rw[y.2.2.1];exact h.pt) ?_ (by have:=h.cl;rw[y.2.1];omega) (IE _) y.2.2.2⟩;have:=h.jl;have T:3<=pB:=by unfold pB;omega
 rw[Nat.mul_succ];omega
def Pd.one(h:Pd S w wr g q cP B W)(L:q<=2000):iU 32 #[O g] wr λM w'=>M=gU (.bool true)/\Bl wr w':=by
 obtain⟨V,P⟩:=h.x;obtain⟨K,F,y,Q⟩:=h.f;have H:=h.Rr L;have T:=h.cl;refine Ug P h.k C C ?_;have:=Xg y h.k Q C;obtain⟨⟨Y,s2⟩,s3,Z⟩:=y.s;rw[Y,Z];exact this
def Pd.start(S:Cf){y:World}(h:Bl w y)(M:∀z∈B,y.heap[z.1]?=some z.2):iU 26 #[cfg S.n S.m S.v S.ce] y λQ w'=>∃g,Q=gU (.tuple #[O g,.bool true])/\∃fz,Pd S w w' g 1 fz B (Wd.start S.n S.m S.v S.ce):=by
 refine(NK S y).L ?_;rintro Q w'⟨g,rfl,T,fz,Y,x⟩;refine⟨g,rfl,fz,GO S,GC S,wF,by show 1<=pB*1;unfold pB;omega,by show 0<=1;omega,λi P hP=>?_,by show 0<1;omega,λb H=>Y b (af H h.lt),h.H T,x,λz Z=>?_⟩
 .have:=(Bk (show(Wd.zero S.n S.m S.v S.ce).pl[i]?=some P from hP)).2;rw[this];unfold Az;split<;>exact .inl rfl
 have hl:=(ae.1 (M z Z)).1;exact⟨Y _ hl,T.heap hl▸M z Z⟩
def Vb(W:Wd):W.Oo.R=W.R:=by unfold Wd.Oo Wd.UG Wd.Xh;rw[Bq,Av,Bq,Cw,Av]
def Pd.sG(h:Pd S w wr g 1 cP B (Wd.start S.n S.m S.v S.ce))(P:(Wd.start S.n S.m S.v S.ce).XK=true):iU 33 #[O g] wr λH w'=>H=gU (.bool true)/\∃fz,Pd S w w' g 10 fz B (Wd.start S.n S.m S.v S.ce).Oo:=by
 obtain⟨V,Q⟩:=h.x;have M:=Cc S;have y:=Lc M;refine(NW Q M rfl (by show 1<=100;omega) rfl P).L ?_;rintro H w'⟨rfl,fz,T,Y⟩;have Z:=y.jl;have hc:=y.cl;refine⟨rfl,fz,h.next T Y y.f y.k (by rw[y.ms];exact wF) ?_ ?_ (Vb _) ?_⟩
 .have:(Wd.start S.n S.m S.v S.ce).jl=1:=rfl;have:pB*10=1360+24220*300:=by unfold pB;omega
  omega
 .have:(Wd.start S.n S.m S.v S.ce).gF.length=0:=rfl;omega
 show 1<=_;exact y.u
end
end Go.Proofs.YtbghhbpacijmmaaGreat
