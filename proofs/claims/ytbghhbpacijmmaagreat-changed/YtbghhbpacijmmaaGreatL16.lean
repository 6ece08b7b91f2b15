import Derived.Deep.DeepCutAuto
import Derived.Deep.CutRange
import Derived.Deep.RegionHeld3
import Derived.Deep.RegionLaw
import Derived.Deep.CutBlock
import Derived.Maps.AppendAt
import Derived.Test.YtbghhbpacijmmaaGreatL15
open Go.Proofs.Tryz
namespace Go.Proofs.YtbghhbpacijmmaaGreat
set_option maxRecDepth 99999
set_option maxHeartbeats 0
set_option linter.defProp false
set_option linter.unusedVariables false
open Go.RowKit Go.Maps
attribute [local go_sem ↓] Go.wp_at_zero Go.wp_at_succ
variable {W W':Wd} {w:World} {gH:Nat->Nat} {g i a j n:Nat} {V:WV} {S:Cf} {A:Ac} {K K':Kn} {F F':Nat->Nat->Fl} {P:Pl} {c:Kl} {ls:List Value} {ds:List Int} {iA:List Le}
theorem Wk.lD(h:Wk W)(i)(up):Wk (W.lD i up):=by
 refine⟨h.n1,h.m1,h.v1,h.v2,h.c1,by show(W.pl.modify i _).length=_;rw[cy];exact h.pl,λj P Y=>?_,h.a,λj A M=>⟨(h.ac j A M).x,(h.ac j A M).nm⟩,h.po,h.b,h.nw,h.cl,λc H=>⟨(h.ca c H).ac,(h.ca c H).kd,(h.ca c H).po,(h.ca c H).vl,(h.ca c H).tk,(h.ca c H).bg,(h.ca c H).fi,(h.ca c H).r,(h.ca c H).fw⟩,h.hd,h.ms⟩;have y:(W.pl.modify i λP=>{P with up:=up})[j]?=some P:=Y;rw[bS]at y
 cases L:W.pl[j]? with
 |none=>rw[L]at y;simp at y
 |some Q=>rw[L]at y;have T:=h.pk j Q L;simp at y;subst y;split;all_goals exact⟨T.part,T.q⟩
def rK{α:Type}{l:List α}{x:α}(h:l[i]?=some x)(f):l.modify i f=l.set i (f x):=by
 refine bJ λj=>?_;rw[bS];by_cases e:i=j
 .subst e;rw[h,aQ (aj.1 h).1];simp
 simp_all
def jG.Ui{pb N pc:Nat}(h:jG w gH g W V)(M:V.pv=gN (G pb) N pc)(Q:W.pl.length=N)(H:W.pl[i]?=some P)(up):jG (w.setCell (U pb (i*5+3)) (.bool up)) gH g (W.lD i up) {V with ps:=V.ps.set (i*5+3) (.bool up)}:=by
 obtain⟨gi,mk,y,L⟩:=h.a.pl i P H;have T:=h.a.row.ie.1;have Y:=(aj.1 H).1;have:=h.Uj M Q (o:=3) C H (p':={P with up:=up}) (.bool up) (gi:=gi) (mk:=mk) (by
  refine⟨?_,?_,?_,?_,?_⟩
  .rw[aH C];exact y.1
  .rw[aH C];exact y.2.1
  .rw[aH C];exact y.2.2.1
  .rw[aQ C]
  .rw[aH C];exact y.2.2.2.2) L
 unfold Wd.lD;rw[rK H];exact this
def ze(W:Wd)(kind a b):W.call kind a b=W\/(∃A,W.ac[iL a W.ac.length]?=some A/\A.up=true/\W.call kind a b=W.ni.js)\/∃A,W.ac[iL a W.ac.length]?=some A/\A.up=true/\A.X.a.length≠8/\W.call kind a b=(W.ni.js.nF kind b (iL a W.ac.length) A).js:=by
 unfold Wd.call;split
 .exact .inl rfl
 rename_i A h;split
 .rename_i y;split
  .exact .inr (.inl ⟨A,h,y,rfl⟩)
  rename_i H;exact .inr (.inr ⟨A,h,y,H,rfl⟩)
 exact .inl rfl
def JV(h:Wk W)(kind a b)(T:kind=1\/kind=2\/kind=3\/kind=4\/kind=5):Wk (W.call kind a b)/\(W.call kind a b).iN<=W.iN+2/\(W.call kind a b).gK.length<=W.gK.length+1/\(W.call kind a b).jT=W.jT/\(W.call kind a b).ac.length=W.ac.length/\(W.call kind a b).iA=W.iA/\(W.call kind a b).pl=W.pl:=by
 have hn:=h.nw;have y:Wk W.ni.js:=Wk.js (W:=W.ni) h.D (by show W.a+1<=4*((W.iN+1:Nat):Int);omega);have Y:W.ni.js.gK.length=W.gK.length:=by show(W.gK.map _).length=_;rw[ay]
 obtain e|⟨A,M,Z,e⟩|⟨A,M,Z,h8,e⟩:=ze W kind a b
 .rw[e];exact⟨h,C,C,rfl,rfl,rfl,rfl⟩
 .rw[e];exact⟨y,by show W.iN+1<=_;omega,C,rfl,rfl,rfl,rfl⟩
 have Q:W.ni.js.ac[iL a W.ac.length]?=some A:=M;have h9:=(y.ac _ A Q).x.pl;have hc:=xM y Q C kind b T;have H:(W.ni.js.nF kind b (iL a W.ac.length) A).gK.length=W.ni.js.gK.length+1:=by show(W.ni.js.gK++[_]).length=_;rw[aO];rfl
 have L:=hc.js (by show W.a+1+1<=4*((W.iN+1+1:Nat):Int);omega);rw[e];refine⟨L,by show W.iN+1+1<=_;omega,?_,rfl,cy ..,rfl,rfl⟩;show((W.ni.js.nF kind b (iL a W.ac.length) A).gK.map _).length<=_;rw[ay,H,Y];exact jl
def Wk.oz(h:Wk W){Q:Pl}(Y:W.pl[i]?=some P)(Z:Q.part=P.part/\Q.q=P.q)(hj:j<P.part.hl):Wk (W.oz i Q j):=by
 have y:=h.D;have hk:GG (W.A 0) W.n W.m W.v i Q:=⟨by rw[Z.1];exact(h.pk i P Y).part,by rw[Z.2];exact(h.pk i P Y).q⟩;have T:=sW W {W with iN:=W.iN+1} 0 0 oC jl;refine⟨y.n1,y.m1,y.v1,y.v2,y.c1,by show(W.pl.set i _).length=_;rw[bK];exact h.pl,λk R hR=>?_,y.a,λk A hA=>⟨(y.ac k A hA).x,(y.ac k A hA).nm⟩,y.po,y.b,y.nw,y.cl,λc H=>⟨(y.ca c H).ac,(y.ca c H).kd,(y.ca c H).po,(y.ca c H).vl,(y.ca c H).tk,(y.ca c H).bg,(y.ca c H).fi,(y.ca c H).r,(y.ca c H).fw⟩,y.hd,y.ms⟩;have M:(W.pl.set i _)[k]?=some R:=hR;by_cases e:i=k
 .subst e;rw[aQ (aj.1 Y).1]at M;obtain rfl:Q.px j=R:=iU M;exact (hk.px (j:=j) (jk Z.1 hj)).L T
 rw[aH e]at M;exact(h.pk k R M).L T
def Wk.kS(h:Wk W):Wk W.kS:=by
 unfold Wd.kS;split
 .exact h
 rename_i h8;have y:=h.D;have h0:=Xe W W.ac.length;have T:∀c∈W.gK,c.a<W.ac.length:=λc M=>by obtain⟨B,b1,_⟩:=(h.ca c M).ac;exact(aj.1 b1).1
 refine⟨y.n1,y.m1,y.v1,y.v2,y.c1,y.pl,y.pk,by show(W.ac++[_]).length<=8;rw[aO];show W.ac.length+1<=8;omega,λk A Z=>?_,y.po,y.b,y.nw,y.cl,λc M=>?_,y.hd,y.ms⟩
 .have H:(W.ac++[⟨Cx.new W.n W.m W.v W.ce (kg W.ac.length),true⟩])[k]?=some A:=Z;by_cases L:k<W.ac.length
  .rw[aB L]at H;exact⟨(y.ac k A H).x,(y.ac k A H).nm⟩
  have Y:=(aj.1 H).1;rw[aO]at Y;have Q:k=W.ac.length:=by have:k<W.ac.length+1:=Y;omega
  subst Q;rw[aC jl,dR]at H;obtain rfl:(⟨Cx.new W.n W.m W.v W.ce (kg W.ac.length),true⟩:Ac)=A:=iU H;refine⟨Xk.new h.n1 h.m1 h.v1 h.v2 h.c1 ?_ ?_ ⟨rfl,⟨rfl,rfl⟩,rfl,rfl,rfl⟩,?_⟩
  .unfold kg;omega
  .exact⟨by show(0:Int)<=((W.iN+1:Nat):Int);omega,by show(0:Int)<=200*((W.iN+1:Nat):Int);omega,by show(0:Int)<=20*((W.iN+1:Nat):Int);omega,by show(0:Int)<=(W.gK.length:Int);omega⟩
  show(W.gK.filter λc=>c.a==W.ac.length).map (·.b)=List.range 0;rw[List.filter_eq_nil_iff.2 λc M=>by have:=T c M;simp;omega];rfl
 have L:=y.ca c M;obtain⟨B,b1,b2⟩:=L.ac;exact⟨⟨B,by show(W.ac++[_])[c.a]?=_;rw[aB (T c M)];exact b1,b2⟩,L.kd,L.po,L.vl,L.tk,L.bg,L.fi,L.r,L.fw⟩
def Wd.B(W:Wd):List Bool:=W.ac.map (·.up)
def wX(W:Wd):Prop:=W.B[0]?=some true
structure Dk(W W':Wd):Prop where
 k:Wk W'
 u:wX W'
 iN:W'.iN<=W.iN+14532
 cl:W'.gK.length<=W.gK.length+1
 ms:W'.jT=W.jT
section
variable{o o' c':Kl}
def Kn.TJ(K:Kn)(t:Ct):Kn:={K with Fu:=λx=>K.Fu x\/x=t}
def Kn.Se(K:Kn)(m:Int):Kn:={K with e:=λx=>K.e x\/x=m}
def K4(t):kZ S K (K.TJ t):=⟨⟨[],by simp[Kn.TJ]⟩,λ_=>rb.refl ..,λ_ _=>yj.refl _,λ_ _ _ h=>h,λ_ _ _ h=>.inl h,λ_ _ _ h=>h,λ_ _=>⟨rfl,rfl⟩,λ_ _ _ h=>h,λ_ h=>h,λ_ h=>.inl h⟩
def KZ(m):kZ S K (K.Se m):=⟨⟨[],by simp[Kn.Se]⟩,λ_=>rb.refl ..,λ_ _=>yj.refl _,λ_ _ _ h=>h,λ_ _ _ h=>.inl h,λ_ _ _ h=>h,λ_ _=>⟨rfl,rfl⟩,λ_ _ _ h=>h,λ_ h=>.inl h,λ_ h=>h⟩
def Rs(t)(h:Kw S K):Kw S (K.TJ t):=by have y:kZ S K _:=K4 t;exact⟨⟨h.l0,h.ls,h.lc,h.a,h.au,h.av,h.pu,h.T9⟩,λu H=>(h.sd u H).L y,λq M=>(h.vd q M).L y,h.va⟩
def TK(m)(h:Kw S K):Kw S (K.Se m):=by have y:kZ S K _:=KZ m;exact⟨⟨h.l0,h.ls,h.lc,h.a,h.au,h.av,h.pu,.inl h.T9⟩,λu H=>(h.sd u H).L y,λq M=>(h.vd q M).L y,h.va⟩
def MP{X:Cx}(y:∀c∈X.a,∀r,X.c[c.gU]?=some r->r.wh=0)(n)(t):∀(k:Nat) (r:Rz),X.c[k]?=some r->r.wh≠0->(X.ld n t).c[k]?=some r:=λk r H M=>by
 unfold Cx.ld Cx.dO;split
 .omega
 rename_i c Q;have T:k≠c.gU:=λe=>M (y c (bu Q) r (jJ e H));have h:∀(L:Rz),(X.c.set c.gU L)[k]?=some r:=λL=>by rw[aH (λe=>T e.symm)];exact H
 dsimp only;repeat' split
 all_goals first|exact H|exact h _
def S0(X:Cx)(n)(t):(X.ld n t).id=X.id:=by
 unfold Cx.ld Cx.dO;dsimp only;repeat' split
 all_goals rfl
def zb(i n:Nat)(t:Int)(c:Kl):Kl:=if c.a=i/\c.b=n then{c with c:=c.c++[t]}else c
def wu(i n)(t)(c):Ic c (zb i n t c)/\(zb i n t c).fin=c.fin/\(zb i n t c).r=c.r:=by
 unfold zb;split
 .exact⟨⟨⟨rfl,rfl,rfl,rfl,rfl,rfl⟩,λa h=>dG _ h,λ_=>⟨rfl,rfl⟩⟩,rfl,rfl⟩
 exact⟨Ic.refl c,rfl,rfl⟩
def SI.oy(h:SI S K F W)(hw:Wk W)(hA:W.ac[i]?=some A)(aa:A.up=true)(hn:n∈A.X.jA)(t):∃K',SI S K' F (W.oy i A n t):=by
 obtain⟨⟨s1,s2⟩,s3,s4⟩:=h.s;obtain⟨y,ab,rfl⟩:=aD.1 hn;let⟨a4,T⟩:=aU.1 ab;have Z:y.kind=1:=by unfold Cx.ml at T;simp only[bL,ZT]at T;exact T.1
 obtain⟨q,hq,q1,q2,q3,q4,q5,q6,q7⟩:=((hw.ac i A hA).x.d y a4).st;let⟨W1,H⟩:=gJ ((({W with iN:=W.iN+1}:Wd).Cg i y.gU t):Wd);have ec:W1.gK=W.gK.map (zb i y.gU t):=by rw[<-H];rfl
 have ea:W1.ac=W.ac:=by rw[<-H];rfl
 have ep:W1.pl=W.pl/\W1.iA=W.iA/\(W1.n=W.n/\W1.m=W.m)/\W1.v=W.v/\W1.ce=W.ce:=by rw[<-H];exact⟨rfl,rfl,⟨rfl,rfl⟩,rfl,rfl⟩
 have hg:D7 W.gK W1.gK:=λo ho=>⟨_,by rw[ec];exact aD.2 ⟨o,ho,rfl⟩,(wu i y.gU t o).1⟩;have a0:zb i y.gU t q∈W1.gK:=by rw[ec];exact aD.2 ⟨q,hq,rfl⟩
 have M:zb i y.gU t q={q with c:=q.c++[t]}:=by unfold zb;rw[aE ⟨q1,q2⟩]
 have Y:y.ie=(zb i y.gU t q).ie:=by rw[M,q4];unfold Kl.ie;show _=(⟨if q.kind=1 then 8 else if q.kind=3 then 9 else 0,kg q.a,q.b,q.value⟩:Ct);rw[q1,q2,q3]
 have a5:(zb i y.gU t q).kind=1:=by rw[M];exact q3.H Z
 have a1:t∈(zb i y.gU t q).c:=by rw[M];exact cM _ (cw.2 rfl)
 have a2:=(h.cl i A hA).1;have a6:A.X.pD t=true↔Ok S t:=by unfold Cx.pD Ok;rw[a2.b.n,a2.b.c];simp
 obtain⟨Q,kl,kw,e1,e2,e3,e4,e5⟩:∃Q,kZ S K Q/\Kw S Q/\Q.P0=K.P0/\Q.b=K.b/\Q.D=K.D/\(Q.c=K.c/\Q.d=K.d/\Q.e=K.e)/\(∀x,Q.Fu x->K.Fu x\/(x=y.ie/\¬Ok S t))/\(A.X.pD t=false->Q.Fu y.ie):=by
  by_cases a7:Ok S t
  .exact⟨K,kZ.refl ..,h.k,rfl,rfl,rfl,⟨rfl,rfl,rfl⟩,λx e=>.inl e,λe=>by rw[a6.2 a7]at e;exact absurd e gF⟩
  exact⟨K.TJ y.ie,K4 _,Rs _ h.k,rfl,rfl,rfl,⟨rfl,rfl,rfl⟩,λx e=>e.imp (λe=>e) λe=>⟨e,a7⟩,λ_=>.inr rfl⟩
 have a8:∀(i:Nat) (A:Ac),W.ac[i]?=some A->∃A',W.ac[i]?=some A'/\Qg A.X A'.X/\∀c∈A.X.a,F i c.gU=F i c.gU:=λi A hA=>⟨A,hA,Qg.refl _,λ_ _=>rfl⟩;have h1:SI S Q F W1:=h.UA kl kw e1 e2 (λm x=>.inl (jJ e4.2.2 x)) (λx hx=>(e5.1 x hx).imp (λe=>e) λ⟨e,ac⟩=>⟨_,a0,e.H Y,a5,t,a1,ac⟩) ⟨ep.2.2.1,ep.2.2.2⟩ (by rw[ep.1];exact λj P hP=>(h.nd j P hP).go (W:=W) (W':=W) kl (mf e3) (mf e4.1) (λe b x=>jJ e4.2.1 x) h.k h.cl.mv a8) (by rw[ep.2.1];exact λl hl=>(h.po l hl).L kl h.cl.mv) ea hg (λc' a9=>by
  rw[ec]at a9
  obtain⟨d,hd,rfl⟩:=aD.1 a9
  let⟨g1,g2,g3⟩:=wu i y.gU t d
  exact .inr ⟨d,hd,g1,g2,g3,rfl⟩) λj B hB=>⟨λ_ _=>rfl,λc hc=>(hw.ac j B hB).x.a.lt c hc⟩
 have a3:W1.ac[i]?=some A:=jk ea hA;have ad:=NL (t:=t) (h1.cl i A a3).1 kw a4 T ⟨_,a0,jk M q1,jk M q2,jk M q3,jk M q4,λ_=>.inr a1,λe=>pS Z e,λe=>pS Z e⟩ e5.2;obtain⟨K2,_,k2,_⟩:=h1.act (W':=W.oy i A y.gU t) a3 ad (λt' a⟨g1,g2,g3⟩=>⟨_,a0,jk g1 Y,.inl ⟨a5,jk g2 a1⟩⟩) (S0 ..) (MP a2.f y.gU t) (λc hc e hf=>by
  rw[ec]at hc
  obtain⟨d,hd,rfl⟩:=aD.1 hc
  let⟨g1,g2,g3⟩:=wu i y.gU t d
  rw[g2]at hf
  rw[g1.s.1]at e
  rw[g1.s.2.1,g3]
  exact Ge hw hA aa d hd e hf) (by unfold Wd.oy;rw[H];exact⟨⟨rfl,rfl⟩,rfl,rfl⟩) (by unfold Wd.oy;rw[H];rfl) (by unfold Wd.oy;rw[H];rfl) (by unfold Wd.oy;rw[H];rfl) (λj=>by
   unfold Wd.oy
   rw[H]
   exact vJ a3 _ j)
 exact⟨K2,k2⟩
def Ff(X:Cx)(kind pos)(value)(k)(L:k<X.c.length):(X.nT kind pos value).c[k]?=X.c[k]?:=by
 have y:∀(Y:Cx) (c:jz),(Y.dO c).c=Y.c:=λY c=>by
  unfold Cx.dO;repeat' split
  all_goals rfl
 have H:∀c:jz,(X.je c).c[k]?=X.c[k]?:=λc=>aB L;have h:∀(c:jz),c.gU=X.c.length->((X.je c).kE c).c[k]?=X.c[k]?:=λc M=>by
  unfold Cx.kE;repeat' split
  all_goals first|exact H c|(show((X.je c).c.set c.gU _)[k]?=_;rw[aH C];exact H c)
 unfold Cx.nT;split
 .exact H _
 split
 .unfold Cx.D2;dsimp only;rw[y];exact H _
 split
 .unfold Cx.fill;dsimp only;rw[y];exact H _
 split
 .unfold Cx.uU;dsimp only;rw[y];exact H _
 unfold Cx.change;dsimp only;split
 .rw[rU];exact h _ rfl
 exact h _ rfl
def MH(X:Cx)(kind pos)(value):(X.nT kind pos value).id=X.id:=by
 unfold Cx.nT Cx.append Cx.D2 Cx.fill Cx.uU Cx.change Cx.dO Cx.kE;dsimp only;repeat' split
 all_goals rfl
def SI.nF(h:SI S K F W)(hw:Wk W)(hv:qv W)(hA:W.ac[i]?=some A)(a6:A.up=true)(kind b)(hk:kind=1\/kind=2\/kind=3\/kind=4\/kind=5):(∃K' F',SI S K' F' (W.nF kind b i A))/\qv (W.nF kind b i A):=by
 obtain⟨⟨s1,s2⟩,s3,s4⟩:=h.s;let⟨p1,p2,p3,p4,p5⟩:=zF hw kind b hk;have a2:=sF hw hA;have ja:∀d∈A.X.a,d.gU<A.X.c.length:=λd hd=>(hw.ac i A hA).x.a.lt d hd;let⟨N,hN⟩:=gJ ((⟨i,W.nQ i,kind,W.j6 kind b,W.mx kind,[],W.a,0,Rz.zero⟩:Kl):Kl);have n1:N.a=i/\N.b=A.X.c.length/\N.kind=kind/\N.pos=W.j6 kind b/\N.value=W.mx kind/\N.fin=0:=by rw[<-hN];exact⟨rfl,a2,rfl,rfl,rfl,rfl⟩
 let⟨n1,n2,n3,n4,n5,n6⟩:=n1;let⟨W1,Y⟩:=gJ (({W with gK:=W.gK++[N]}:Wd):Wd);have ec:W1.gK=W.gK++[N]:=by rw[<-Y]
 have ea:W1.ac=W.ac:=by rw[<-Y]
 have ep:W1.pl=W.pl/\W1.iA=W.iA/\(W1.n=W.n/\W1.m=W.m)/\W1.v=W.v/\W1.ce=W.ce:=by rw[<-Y];exact⟨rfl,rfl,⟨rfl,rfl⟩,rfl,rfl⟩
 have Q:kind≠1->W.mx kind=[]:=λe=>by unfold Wd.mx;rw[az e]
 have a7:qv W1:=λk c hc=>by
  rw[ec]at hc;by_cases hk:k<W.gK.length
  .rw[aB hk]at hc;exact hv k c hc
  rw[aC C]at hc;have a8:=(aj.1 hc).1;simp at a8;have a3:k=W.gK.length:=C;rw[a3]at hc;simp at hc;rw[<-hc,n5,n3,a3];rfl
 have y:W.nF kind b i A=W1.qi i (A.X.nT kind (W.j6 kind b) (W.mx kind)):=by rw[<-Y,<-hN];rfl
 refine⟨?_,jk y a7⟩;have hg:D7 W.gK W1.gK:=λo ho=>⟨o,by rw[ec];exact dG _ ho,Ic.refl o⟩;have a4:N∈W1.gK:=by rw[ec];exact cM _ (cw.2 rfl)
 obtain⟨T,kl,kw,e1,e2,e3,e4,e5⟩:∃T,kZ S K T/\Kw S T/\T.P0=K.P0/\T.b=K.b/\T.D=K.D/\(T.c=K.c/\T.d=K.d/\T.Fu=K.Fu)/\(∀x,T.e x->K.e x\/(kind=4/\x=W.j6 kind b))/\(kind=4->T.e (W.j6 kind b)):=by
  by_cases h4:kind=4
  .exact⟨K.Se (W.j6 kind b),KZ _,TK _ h.k,rfl,rfl,rfl,⟨rfl,rfl,rfl⟩,λx e=>e.imp (λe=>e) λe=>⟨h4,e⟩,λ_=>.inr rfl⟩
  exact⟨K,kZ.refl ..,h.k,rfl,rfl,rfl,⟨rfl,rfl,rfl⟩,λx e=>.inl e,λe=>absurd e h4⟩
 obtain⟨Z,a5⟩:∃Z:Nat->Nat->Fl,Z=λa k=>if a=i/\k=A.X.c.length then K.D else F a k:=⟨_,rfl⟩
 have f1:Z i A.X.c.length=K.D:=by rw[a5];exact aE ⟨rfl,rfl⟩
 have f2:∀(j:Nat) (B:Ac),W.ac[j]?=some B->∀k,k<B.X.c.length->Z j k=F j k:=λj B M k hk=>by rw[a5];refine az ?_;rintro⟨q1,q2⟩;rw[q1,hA]at M;simp at M;subst M;omega
 have a0:∀(j:Nat) (B:Ac),W.ac[j]?=some B->∃A',W.ac[j]?=some A'/\Qg B.X A'.X/\∀c∈B.X.a,Z j c.gU=F j c.gU:=λj B M=>⟨B,M,Qg.refl _,λc hc=>f2 j B M _ ((hw.ac j B M).x.a.lt c hc)⟩;have h1:SI S T Z W1:=h.UA kl kw e1 e2 (λm x=>(e5.1 m x).imp (λe=>e) λ⟨q1,q2⟩=>.inr ⟨N,a4,n3.H q1,by rw[n4,q2];exact iK⟩) (λt x=>.inl (jJ e4.2.2 x)) ⟨ep.2.2.1,ep.2.2.2⟩ (by rw[ep.1];exact λj P hP=>(h.nd j P hP).go (W:=W) (W':=W) kl (mf e3) (mf e4.1) (λe b x=>jJ e4.2.1 x) h.k h.cl.mv a0) (by rw[ep.2.1];exact λl hl=>(h.po l hl).go kl h.cl.mv a0) ea hg (λc' hc'=>by
  rw[ec]at hc'
  obtain hc'|hc':=aT.1 hc'
  .right
   obtain⟨B,M,b1,_⟩:=(hw.ca c' hc').ac
   exact⟨c',hc',Ic.refl _,rfl,rfl,f2 _ B M _ b1⟩
  .simp at hc'
   subst hc'
   left
   exact⟨n6,by rw[n1,n2,e3];exact f1⟩) λj B M=>⟨f2 j B M,λc hc=>(hw.ac j B M).x.a.lt c hc⟩
 have a1:W1.ac[i]?=some A:=jk ea hA;obtain⟨x1,x2⟩:=h1.cl i A a1;have L:Rg S T (Z i) A.X:=⟨jS f1 e3,λt a e x=>by
  rw[e1]at x
  rintro⟨q1,q2⟩
  obtain⟨o,ho,o1,_⟩:=h.p0 t a e x
  rw[o1]at q1 q2
  obtain⟨B,M,b1,_⟩:=(hw.ca o ho).ac
  have a9:o.a=i:=qK (by rw[<-x2,<-q1];rfl)
  rw[a9,hA]at M
  simp at M
  subst M
  have:(o.b:Int)=A.X.c.length:=q2
  omega⟩
 have hJ:∀un ad:Int,(kind=1->ad=0)->(kind=2\/kind=3\/kind=4->ad=W.j6 kind b)->(kind=5->un=W.j6 kind b)->W1.J i A.X.c.length kind ⟨if kind=1 then 8 else if kind=3 then 9 else 0,A.X.id,A.X.c.length,W.mx kind⟩ un ad:=λun ad q1 q2 q3=>⟨N,a4,n1,n2,n3,jS n5 x2,λe=>.inl (q1 e),λe=>by rw[n4];exact q2 e,λe=>by rw[n4];exact q3 e⟩;have aa:Dq S T (Z i) (W1.J i) G0 A.X (A.X.nT kind (W.j6 kind b) (W.mx kind)):=by
  unfold Cx.nT;obtain e|e|e|e|e:=hk
  .rw[aE e];have H:=hJ 0 0 (λ_=>rfl) (λq=>pS e q) λq=>pS e q;rw[aE e]at H;rw[e]at H|-;exact IV x1 kw L ja H
  .rw[az (mG e),aE e];have H:=hJ 0 (W.j6 kind b) (λq=>pS e q) (λ_=>rfl) λq=>pS e q;rw[az (mG e),az (mG e),Q (mG e)]at H;have hp:=p3 (.inl e);rw[e]at H hp|-;exact QY x1 kw L ja ⟨by rwa[e]at p1,by rw[<-s1,<-s4];exact hp⟩ H
  .rw[az (mG e),az (mG e),aE e];have H:=hJ 0 (W.j6 kind b) (λq=>pS e q) (λ_=>rfl) λq=>pS e q;rw[az (mG e),aE e,Q (mG e)]at H;have hp:=p3 (.inr e);rw[e]at H hp|-;exact Qc x1 kw L ja ⟨by rwa[e]at p1,by rw[<-s1,<-s4];exact hp⟩ H
  .rw[az (mG e),az (mG e),az (mG e),aE e];have H:=hJ 0 (W.j6 kind b) (λq=>pS e q) (λ_=>rfl) λq=>pS e q;rw[az (mG e),az (mG e),Q (mG e)]at H;have hm:=e5.2 e;rw[e]at H hm|-;exact Oz x1 kw L ja hm H
  rw[az (mG e),az (mG e),az (mG e),az (mG e)];have H:=hJ (W.j6 kind b) 0 (λ_=>rfl) (λq=>pS e q) λ_=>rfl;rw[az (mG e),az (mG e),Q (mG e)]at H;rw[e]at H|-;exact Ju x1 kw L ja H
 obtain⟨K2,_,k2,_⟩:=h1.act (W':=W.nF kind b i A) a1 aa (λ_ _ e=>e.elim) (MH ..) (λk r hr _=>by rw[Ff _ _ _ _ _ (aj.1 hr).1];exact hr) (λc hc e hf=>by
  rw[ec]at hc
  obtain hc|hc:=aT.1 hc
  .exact Ge hw hA a6 c hc e hf
  .simp at hc
   rw[hc]at hf
   exact absurd n6 hf) (by rw[y];exact⟨⟨rfl,rfl⟩,rfl,rfl⟩) (by rw[y]<;>rfl) (by rw[y]<;>rfl) (by rw[y]<;>rfl) (λj=>by
   rw[y]
   exact vJ a1 _ j)
 exact⟨K2,Z,k2⟩
end
def Sf.of(h:SI S K F W)(y:qv W):Sf S W:=⟨K,F,h,y⟩
def JZ(W:Wd)(k):(W.kU k).gK=W.gK:=by
 unfold Wd.kU;repeat' split
 all_goals rfl
theorem SI.D(h:SI S K F W)(y:Wk W):∀k,∃K',SI S K' F (W.D k)/\(∀l,wH S K F W.ac l->wH S K' F (W.D k).ac l)/\(W.D k).gK=W.gK
 |0=>⟨K,h.plain ⟨⟨rfl,rfl⟩,rfl,rfl⟩ h.nd (by simp[Wd.D]) rfl rfl,λ_ e=>e,rfl⟩
 |k+1=>by let⟨K',L,M,Q⟩:=SI.D h y k;let⟨T,_⟩:=uA y k;obtain⟨Y,Z,q2⟩:=L.kU T k;rw[pZ];exact⟨Y,Z,λl e=>q2 l (M l e),(JZ _ k).H Q⟩
theorem SI.mJ:∀(ls:List Le) {K:Kn} {W:Wd},SI S K F W->Wk W->qv W->(∀l∈ls,wH S K F W.ac l/\uH (W.A 0) W.n W.m W.v l)->∃K',SI S K' F (W.mJ ls)/\qv (W.mJ ls)
 |[],K,W,h,_,y,_=>⟨K,h,y⟩
 |l::ls,K,W,h,L,y,H=>by let⟨l1,l2⟩:=H l (aN ..);obtain⟨K',Q,T,Y⟩:=h.lS L y l1 l2;let⟨Z,_⟩:=uK W l;exact SI.mJ ls Q (L.lS l2) T λx M=>⟨Y x (H x (aX _ M)).1,Z.le (H x (aX _ M)).2⟩
def Sf.step(h:Sf S W)(M:Wk W):Sf S W.step:=by let⟨K,F,h,Q⟩:=h;obtain⟨T,H,Y,Z⟩:=h.D M _;let⟨w1,w2,w3⟩:=xE M;have h4:SI S T F ({W.jL with iA:=W.iA}:Wd):=H.plain ⟨⟨rfl,rfl⟩,rfl,rfl⟩ H.nd (λl y=>Y l (h.po l y)) rfl rfl;have L:qv _:=Q.B Z;let⟨K2,q1,q2⟩:=SI.mJ W.jL.iA h4 w1 L λl y=>⟨H.po l y,by rw[w2.n,w2.m,w2.v];exact w3 l y⟩;exact⟨K2,F,q1,q2⟩
theorem Sf.qz:∀(k:Nat) {W:Wd},Sf S W->Wk W->Sf S (W.qz k).1
 |0,W,h,_=>h
 |k+1,W,h,y=>by
  show Sf S (if W.jL.iA.length=0 then(W.step,true)else W.step.qz k).1;split
  .exact h.step y
  exact Sf.qz k (h.step y) (uC y).1
def Sf.js(h:Sf S W)(y:Wk W):Sf S W.js:=by let⟨K,F,h,H⟩:=h;obtain⟨L,w2⟩:=h.js y H;exact⟨K,F,L,w2⟩
def Sf.plain(h:Sf S W)(H:(W'.n=W.n/\W'.m=W.m)/\W'.v=W.v/\W'.ce=W.ce)(L:W'.pl=W.pl)(M:∀l∈W'.iA,l∈W.iA)(y:W'.gK=W.gK)(Q:W'.ac=W.ac):Sf S W':=by let⟨K,F,h,T⟩:=h;exact⟨K,F,h.plain H (by rw[L];exact h.nd) (λl Y=>h.po l (M l Y)) y Q,T.B y⟩
def Sf.kO(h:Sf S W)(y:Wk W)(i):Sf S (W.kO i):=by let⟨K,F,h,H⟩:=h;obtain⟨K',_,L⟩:=h.kO y i;exact⟨K',F,L,H.B (sf y i).2.2.2.2.2⟩
def Sf.oy(h:Sf S W)(H:Wk W)(L:W.ac[i]?=some A)(y:A.up=true)(M:n∈A.X.jA)(t):Sf S (W.oy i A n t):=by let⟨K,F,h,Q⟩:=h;obtain⟨K',T⟩:=h.oy H L y M t;refine⟨K',F,T,Q.map (λd=>?_) rfl⟩;let⟨g,_⟩:=wu i n t d;exact⟨g.s.2.2.1,g.s.2.2.2.2.1⟩
def Sf.ld(h:Sf S W)(y:Wk W)(a which t):Sf S (W.ld a which t):=by
 obtain e|⟨A,n,H,M,L,e⟩:=sK W a which t
 .simp_all
 rw[e];exact(h.oy y H M L t).js (CP y H L t)
def Sf.call(h:Sf S W)(H:Wk W)(kind a b)(M:kind=1\/kind=2\/kind=3\/kind=4\/kind=5):Sf S (W.call kind a b):=by
 have hn:=H.nw;have Q:Sf S W.ni.js:=(h.plain (W':=W.ni) ⟨⟨rfl,rfl⟩,rfl,rfl⟩ rfl (λ_ e=>e) rfl rfl).js H.D;have T:Wk W.ni.js:=H.D.js (by show W.a+1<=4*((W.iN+1):Int);omega);unfold Wd.call;split
 .omega
 rename_i A Y;split
 .rename_i L;split
  .exact Q
  rename_i h8;have y:W.ni.js.ac[iL a W.ac.length]?=some A:=Y;have Z:=(H.ac _ A Y).x.pl;obtain⟨K,F,s,hv⟩:=id Q;obtain⟨⟨K',F',k1⟩,k2⟩:=s.nF T hv y L kind b M;exact(Sf.of k1 k2).js (xM T y C kind b M)
 exact h
def Sf.kS(h:Sf S W):Sf S W.kS:=by let⟨K,F,h,y⟩:=h;refine⟨K,F,h.kS,y.B ?_⟩;unfold Wd.kS;split<;>rfl
def Sf.oz(h:Sf S W){Q:Pl}(H:W.pl[i]?=some P)(L:Q.part=P.part/\Q.q=P.q)(M:j<P.part.hl):Sf S (W.oz i Q j):=by
 let⟨K,F,h,T⟩:=h;refine⟨K,F,h.plain ⟨⟨rfl,rfl⟩,rfl,rfl⟩ (λk R Y=>?_) h.po rfl rfl,T⟩;have y:(W.pl.set i _)[k]?=some R:=Y;by_cases e:k=i
 .subst e;rw[aQ (aj.1 H).1]at y;simp at y;subst y;exact((h.nd k P H).flag L).px (jk L.1 M)
 rw[aH (λe'=>e e'.symm)]at y;exact h.nd k R y
theorem Sf.lD(h:Sf S W)(i)(up):Sf S (W.lD i up):=by
 let⟨K,F,h,H⟩:=h;refine⟨K,F,h.plain ⟨⟨rfl,rfl⟩,rfl,rfl⟩ (λk R L=>?_) h.po rfl rfl,H⟩;have y:(W.pl.modify i λP=>{P with up:=up})[k]?=some R:=L;rw[bS]at y
 cases e:W.pl[k]? with
 |none=>rw[e]at y;simp at y
 |some P=>rw[e]at y;simp at y;rw[<-y];refine(h.nd k P e).flag ?_;split<;>exact⟨rfl,rfl⟩
def tB(c:Kl):Int×List Int×Bool:=if c.fin=0 then(0,[],false)else if c.kind=1 then(if c.r.wh=1 then(c.r.ad,c.value,true)else(0,[],false))else if c.kind=2\/c.kind=3 then(if c.r.wh=8 then(c.pos,c.r.val,true)else if c.r.wh=9 then(c.pos,[],true)else(0,[],false))else(0,[],false)
def JY(c:Kl):Int:=if c.fin=0 then 0 else if c.kind=4 then c.pos else if c.kind≠1/\c.kind≠5/\c.r.wh=4 then c.pos+1 else 0
def Xy(o c:Kl):Prop:=¬((tB c).2.2=true/\(tB c).1<JY o/\c.kind=1)/\((c.kind=2\/c.kind=3)->c.fin≠0->(c.pos<JY o->c.r.wh=4)/\¬((tB o).2.2=true/\(tB o).1=c.pos/\c.r.wh=3))
structure KC(T:Int)(cs:List Kl):Prop where
 Xu:∀c∈cs,c.fin≠0->c.kind=1->c.r.val=[]/\((c.r.wh=1/\c.r.ad∈c.c/\0<=c.r.ad/\c.r.ad<T)\/(c.r.wh=7/\c.r.ad=0/\∃t∈c.c,t<0\/T<=t))
 Xq:∀c∈cs,c.fin≠0->c.kind≠1->c.r.ad=0/\(c.r.val=[]\/c.r.wh=8)/\((c.kind=2/\(c.r.wh=8\/c.r.wh=9\/c.r.wh=3\/c.r.wh=4))\/(c.kind=3/\(c.r.wh=8\/c.r.wh=9\/c.r.wh=4))\/(c.kind=4/\c.r.wh=1)\/(c.kind=5/\(c.r.wh=1\/c.r.wh=6)))
 uq:∀(i j:Nat) (c o:Kl),cs[i]?=some c->cs[j]?=some o->c.kind=1->o.kind=1->c.value=o.value->i=j
 XF:∀c∈cs,∀a,tB c=(a,[],true)->∃o∈cs,o.kind=3/\o.pos=a/\o.d<c.fin
 Yi:∀c∈cs,∀a v,v≠[]->tB c=(a,v,true)->∃o∈cs,o.kind=1/\o.value=v/\o.d<c.fin/\a∈o.c/\(o.fin=0\/(o.r.wh=1/\o.r.ad=a))
 Yo:∀c∈cs,c.kind≠4->JY c≠0->∃o∈cs,o.kind=4/\c.pos<o.pos/\o.d<c.fin
 two:∀(i j:Nat) (c o:Kl),cs[i]?=some c->cs[j]?=some o->i≠j->(tB c).2.2=true->(tB o).2.2=true->(((tB c).1=(tB o).1->(tB c).2.1=(tB o).2.1)/\((tB c).2.1≠[]->(tB c).2.1=(tB o).2.1->(tB c).1=(tB o).1))/\¬(c.kind=1/\o.kind=1/\(tB c).1=(tB o).1)
 Od:∀c∈cs,∀o∈cs,o.fin≠0->o.fin<c.d->Xy o c
def E8(y:i<4294967296)(H:j<4294967296)(h:j4 i=j4 j):i=j:=by simp[j4]at h;omega
def Jz(i):j4 i≠[]:=by simp[j4]
section
variable{o:Kl}
def JJ(h:(tB c).2.2=true):c.fin≠0/\UL c/\((c.kind=1/\tB c=(c.r.ad,c.value,true))\/(c.kind≠1/\((c.r.wh=8/\tB c=(c.pos,c.r.val,true))\/(c.r.wh=9/\tB c=(c.pos,[],true))))):=by
 unfold tB at h|-;by_cases Q:c.fin=0
 .simp_all
 rw[az Q]at h|-;refine⟨Q,?_⟩;by_cases H:c.kind=1
 .rw[aE H]at h|-;by_cases y:c.r.wh=1
  .rw[aE y];exact⟨.inl ⟨H,y⟩,.inl ⟨H,rfl⟩⟩
  simp_all
 rw[az H]at h|-;by_cases y:c.kind=2\/c.kind=3
 .rw[aE y]at h|-;by_cases L:c.r.wh=8
  .rw[aE L];exact⟨.inr ⟨y,.inl L⟩,.inr ⟨H,.inl ⟨L,rfl⟩⟩⟩
  rw[az L]at h|-;by_cases M:c.r.wh=9
  .rw[aE M];exact⟨.inr ⟨y,.inr M⟩,.inr ⟨H,.inr ⟨M,rfl⟩⟩⟩
  rw[az M]at h;exact absurd h gF
 rw[az y]at h;exact absurd h gF
def Uc(M:c.kind=1\/c.kind=2\/c.kind=3\/c.kind=4\/c.kind=5)(h:JY c≠0):c.fin≠0/\VJ c (JY c):=by
 unfold JY at h|-;by_cases H:c.fin=0
 .omega
 rw[az H]at h|-;refine⟨H,?_⟩;by_cases y:c.kind=4
 .rw[aE y];exact .inl ⟨y,rfl⟩
 rw[az y]at h|-;by_cases L:c.kind≠1/\c.kind≠5/\c.r.wh=4
 .rw[aE L];exact .inr ⟨C,L.2.2,rfl⟩
 omega
structure Wy(S:Cf)(K:Kn)(W:Wd)(c:Kl)(t:Ct)(a:Int):Prop where
 ad:(tB c).1=a
 v:(tB c).2.1=t.val
 f:BQ S K a t
 u:c.kind≠1->t.kd=8->xk S K a t
 o:∃o∈W.gK,o.d<c.fin/\A9 o t a
 w:c.kind=1->t=c.ie
def uz(H:qv W)(L:o∈W.gK){t:Ct}{a:Int}(h:A9 o t a):(t.kd=8/\o.kind=1/\t.val=o.value/\t.val≠[])\/(t.kd=9/\o.kind=3/\t.val=[]/\a=o.pos):=by
 let⟨M,y⟩:=h;rw[M];obtain⟨y,_⟩|⟨y,Q⟩:=y
 .left;refine⟨by unfold Kl.ie;rw[y];rfl,y,rfl,?_⟩;show o.value≠[];obtain⟨i,T,e⟩:=aV.1 L;have:=H i o (by rw[<-e];exact ah T);rw[aE y]at this;rw[this];exact Jz i
 right;exact⟨by unfold Kl.ie;rw[y];rfl,y,H.nil L (mG y),Q⟩
def SX(h:SI S K F W)(hv:qv W)(hc:c∈W.gK)(hb:(tB c).2.2=true):∃t a,Wy S K W c t a:=by
 let⟨h0,hB,y⟩:=JJ hb;obtain⟨t,a,o,⟨b1,Y,Z⟩,M,o2,Q⟩:=(h.ca c hc h0).m hB;have a1:=uz hv M Q;refine⟨t,a,?_⟩;obtain⟨k1,k2,H,k4⟩|⟨k1,k2,H,k4⟩:=b1
 .obtain⟨_,e⟩|⟨e,_⟩:=y
  .exact⟨jS e k4,by rw[e,H];rfl,Y,Z,⟨o,M,o2,Q⟩,λ_=>H⟩
  exact absurd k1 e
 have L:c.kind≠1:=by obtain e|e:=k1<;>rw[e]<;>decide
 obtain⟨e,_⟩|⟨_,e⟩:=y
 .omega
 have a0:c.r.wh=t.kd/\c.r.val=t.val:=by rw[k2];exact⟨rfl,rfl⟩
 obtain⟨e1,T⟩|⟨e1,T⟩:=e
 .exact⟨jS T H,jk T a0.2,Y,Z,⟨o,M,o2,Q⟩,λe=>absurd e L⟩
 refine⟨jS T H,?_,Y,Z,⟨o,M,o2,Q⟩,λe=>absurd e L⟩;simp_all
def xB(h:SI S K F W)(Z:Wk W)(T:c∈W.gK)(hf:c.fin≠0):∃y L,((c.kind=2\/c.kind=3\/c.kind=4)->L=c.pos)/\NS S K (F c.a c.b) c.kind c.ie y L c.r:=by
 obtain⟨kind,ie,y,L,⟨q,hq,q1,q2,M,q4,q5,q6,q7⟩,z2,Y⟩:=(h.ca c T hf).r;have Q:q=c:=tQ Z hq T q1 q2;subst Q;have H:ie=q.ie:=by unfold Kl.ie;rw[q4,M]
 rw[<-M,H]at Y;exact⟨y,L,λe=>q6 (jJ M e),Y⟩
def AA(y:Wk W)(H:c∈W.gK)(L:o∈W.gK)(h:c.ie=o.ie):c=o:=by have M:kg c.a=kg o.a:=Z5 Ct.cl h;have Q:(c.b:Int)=o.b:=Z5 Ct.ca h;exact tQ y H L (qK M) C
def Ki(h:SI S K F W)(Q:Wk W)(ho:o∈W.gK)(H:o.kind=1):∃x,(∀a,a≠x->Gu S K o.ie a)/\(o.fin≠0->o.r.wh=1->o.r.ad=x)/\(o.fin≠0->o.r.wh≠1->∀a,Gu S K o.ie a):=by
 by_cases L:o.fin≠0
 .let⟨T,ij,_,hr⟩:=xB h Q ho L;obtain⟨_,_,z|z⟩|⟨z,_⟩|⟨z,_⟩|⟨z,_⟩:=hr
  .exact⟨ij,z.2.2.2,λ_ _=>mf z.1,λ_ e=>absurd (mf z.1) e⟩
  .exact⟨0,λa _=>z.2.2 a,λ_ e=>pS z.1 e,λ_ _=>z.2.2⟩
  .rw[H]at z;exact absurd z gF
  .rw[H]at z;exact absurd z gF
  rw[H]at z;exact absurd z gF
 obtain⟨A,hA,ja,_⟩:=(Q.ca o ho).ac;obtain⟨x1,x2⟩:=h.cl _ A hA;have a1:=(Q.ac _ A hA).x;let⟨r,hr⟩:=mm ja;by_cases Y:r.wh=0
 .obtain⟨cl,a2,Z⟩:=(a1.f _ r hr).1 Y;have a0:=x1.d cl a2 trivial;obtain⟨q,hq,q1,q2,q3,q4,_⟩:=a0.st;have M:q=o:=tQ Q hq ho q1 (q2.H Z);subst M;have y:cl.ie=q.ie:=by unfold Kl.ie;rw[q4,q3,q2,q1]
  have a3:cl.kind=1:=q3.symm.H H;exact⟨cl.ij,λa ha=>by rw[<-y];exact a0.gu a3 a ha,λe=>absurd e L,λe=>absurd e L⟩
 obtain⟨kind,ie,T,ij,⟨q,hq,q1,q2,q3,q4,_⟩,z2,z3⟩:=x1.c _ r hr Y;have M:q=o:=tQ Q hq ho q1 q2;subst M;have y:ie=q.ie:=by unfold Kl.ie;rw[q4,q3]
 rw[<-q3,y]at z3;obtain⟨_,_,z|z⟩|⟨z,_⟩|⟨z,_⟩|⟨z,_⟩:=z3
 .exact⟨ij,z.2.2.2,λe=>absurd e L,λe=>absurd e L⟩
 .exact⟨0,λa _=>z.2.2 a,λe=>absurd e L,λe=>absurd e L⟩
 .rw[H]at z;exact absurd z gF
 .rw[H]at z;exact absurd z gF
 rw[H]at z;exact absurd z gF
def QN(h:Wk W)(y:o∈W.gK){a:Int}(H:0<=a)(L:a<JY o):o.fin≠0/\VJ o (JY o):=Uc (h.ca o y).kd C
def UN(h:SI S K F W)(hw:Wk W)(hv:qv W)(hn:W.gK.length<4294967296):KC (S.n*S.ce) W.gK:=by
 have kv:=h.k.toKv;have ac:∀(i j:Nat) (c o:Kl),W.gK[i]?=some c->W.gK[j]?=some o->c.kind=1->o.kind=1->c.value=o.value->i=j:=λi j c o hi hj k1 k2 e=>by have e1:=hv i c hi;have e2:=hv j o hj;rw[aE k1]at e1;rw[aE k2]at e2;have l1:=(aj.1 hi).1;have l2:=(aj.1 hj).1;exact E8 C C (by rw[<-e1,<-e2];exact e)
 have ai:∀c∈W.gK,∀o∈W.gK,c.kind=1->o.kind=1->c.value=o.value->c=o:=λc M o Q k1 k2 e=>by
  obtain⟨i,hi,ei⟩:=aV.1 M;obtain⟨j,hj,ej⟩:=aV.1 Q;have h1:W.gK[i]?=some c:=by rw[<-ei];exact ah hi
  have h2:W.gK[j]?=some o:=by rw[<-ej];exact ah hj
  have:=ac i j c o h1 h2 k1 k2 e;subst this;rw[h1]at h2;simpa using h2
 have a6:∀c∈W.gK,∀t a,Wy S K W c t a->t.kd=8->∀o∈W.gK,A9 o t a->∀x,(∀a,a≠x->Gu S K o.ie a)->(o.fin≠0->o.r.wh=1->o.r.ad=x)->(tB c).2.2=true->a=x:=λc M t a Z h8 o Q a2 x au av hb=>by
  refine bk λa7=>?_;have hg:=au a a7;rw[<-a2.1]at hg;by_cases y:c.kind=1
  .have a0:c=o:=AA hw M Q (by rw[<-Z.w y];exact a2.1);let⟨h0,_,T⟩:=JJ hb;obtain⟨_,e⟩|⟨e,_⟩:=T
   .have a1:c.r.wh=1:=by refine bk λq=>?_;unfold tB at hb;rw[az h0,aE y,az q]at hb;exact absurd hb gF
    have:=Z.ad;rw[e]at this;have ad:c.r.ad=a:=this;subst a0;exact a7 (ad.symm.H (av h0 a1))
   exact e y
  exact hg.no h.k (Z.u y h8)
 refine⟨λc M hf y=>?_,λc M hf y=>?_,ac,λc M a hb=>?_,λc M a v aw hb=>?_,λc M h4 ht=>?_,λi j c o hi hj aY ak al=>?_,λc M o Q hf ja=>⟨?_,λy am=>⟨λY=>?_,?_⟩⟩⟩
 .let⟨a4,ij,_,hr⟩:=xB h hw M hf;obtain⟨_,_,z|z⟩|⟨z,_⟩|⟨z,_⟩|⟨z,_⟩:=hr
  .have an:=z.2.1.1.2;obtain⟨o,Q,a2⟩:=h.Ny z.2.1;have a0:c=o:=AA hw M Q a2.1;subst a0;rw[z.1];refine⟨rfl,.inl ⟨rfl,?_,an.1,an.2⟩⟩;obtain q|q:=a2.2
   .exact q.2
   rw[y]at q;exact absurd q.1 gF
  .obtain⟨o,Q,o1,o2,a,o3,o4⟩:=h.fu _ z.2.1;have a0:c=o:=AA hw M Q o1;subst a0;rw[z.1];refine⟨rfl,.inr ⟨rfl,rfl,a,o3,?_⟩⟩;unfold Ok at o4;omega
  .rw[y]at z;exact absurd z gF
  .rw[y]at z;exact absurd z gF
  rw[y]at z;exact absurd z gF
 .let⟨a4,ij,_,hr⟩:=xB h hw M hf;obtain⟨z,_⟩|⟨z,_,L|L|L|L⟩|⟨z,L,_⟩|⟨z,L|L⟩:=hr
  .exact absurd z y
  .let⟨t,t1,t2,_⟩:=L;obtain⟨o,Q,a2⟩:=h.Ny (t2.fix kv);rw[t1];refine⟨rfl,?_,?_⟩
   .show t.val=[]\/t.kd=8;obtain q|q:=uz hv Q a2
    .exact .inr q.1
    exact .inl q.2.2.1
   have:t.kd=8\/t.kd=9:=IB a2;show(c.kind=2/\(t.kd=8\/t.kd=9\/t.kd=3\/t.kd=4))\/(c.kind=3/\(t.kd=8\/t.kd=9\/t.kd=4))\/_;omega
  .rw[L.2.1];exact⟨rfl,.inl rfl,.inl ⟨L.1,.inr (.inr (.inl rfl))⟩⟩
  .rw[L.1];refine⟨rfl,.inl rfl,?_⟩;obtain z|z:=z
   .exact .inl ⟨z,.inr (.inr (.inr rfl))⟩
   exact .inr (.inl ⟨z,.inr (.inr rfl)⟩)
  .rw[L.2.1];exact⟨rfl,.inl rfl,.inr (.inl ⟨L.1,.inr (.inl rfl)⟩)⟩
  .rw[L];exact⟨rfl,.inl rfl,.inr (.inr (.inl ⟨z,rfl⟩))⟩
  .rw[L.1];exact⟨rfl,.inl rfl,.inr (.inr (.inr ⟨z,.inl rfl⟩))⟩
  rw[L.1];exact⟨rfl,.inl rfl,.inr (.inr (.inr ⟨z,.inr rfl⟩))⟩
 .let⟨t,a',Z⟩:=SX h hv M (mf hb);have e1:=Z.ad;have e2:=Z.v;rw[hb]at e1 e2;have ag:a=a':=e1;have a9:[]=t.val:=e2;obtain⟨o,Q,o1,o2⟩:=Z.o;obtain q|q:=uz hv Q o2
  .exact absurd a9.symm q.2.2.2
  exact⟨o,Q,q.2.1,jS ag q.2.2.2,o1⟩
 .let⟨t,a',Z⟩:=SX h hv M (mf hb);have e1:=Z.ad;have e2:=Z.v;rw[hb]at e1 e2;have ag:a=a':=e1;have a9:v=t.val:=e2;subst ag;obtain⟨o,Q,o1,o2⟩:=Z.o;obtain q|q:=uz hv Q o2
  .refine⟨o,Q,q.2.1,jS a9 q.2.2.1,o1,?_,?_⟩
   .obtain z|z:=o2.2
    .exact z.2
    rw[q.2.1]at z;exact absurd z.1 gF
   by_cases hf:o.fin=0
   .exact .inl hf
   right;let⟨x,x1,x2,x3⟩:=Ki h hw Q q.2.1;have b0:=a6 c M t a Z q.1 o Q o2 x x1 x2 (mf hb);by_cases a1:o.r.wh=1
   .exact⟨a1,(x2 hf a1).H b0.symm⟩
   exfalso;have hg:=x3 hf a1 a;rw[<-o2.1]at hg;by_cases y:c.kind=1
   .have a0:c=o:=AA hw M Q (by rw[<-Z.w y];exact o2.1);subst a0;unfold tB at hb;rw[az hf,aE y,az a1]at hb;simp at hb
   exact hg.no h.k (Z.u y q.1)
  exact absurd (a9.H q.2.2.1) aw
 .let⟨t1,t2⟩:=Uc (hw.ca c M).kd ht;obtain⟨t2,_⟩|⟨t2,t3,_⟩:=t2
  .exact absurd t2 h4
  exact(h.ca c M t1).t t2 t3
 .have M:=aR hi;have Q:=aR hj;let⟨t,a,Z⟩:=SX h hv M ak;let⟨t',a',a5⟩:=SX h hv Q al;have ap:a=a'->t=t':=λe=>by have h2:=a5.f;rw[<-e]at h2;exact Z.f.eq kv h2
  rw[Z.ad,a5.ad,Z.v,a5.v];refine⟨⟨λe=>by rw[ap e],λa7 e=>?_⟩,?_⟩
  .obtain⟨q,hq,_,q2⟩:=Z.o;obtain⟨q',aq,_,ar⟩:=a5.o;obtain z|z:=uz hv hq q2
   .obtain z'|z':=uz hv aq ar
    .have b3:q=q':=ai q hq q' aq z.2.1 z'.2.1 (by rw[<-z.2.2.1,<-z'.2.2.1];exact e);subst b3;let⟨x,x1,x2,_⟩:=Ki h hw hq z.2.1;rw[a6 c M t a Z z.1 q hq q2 x x1 x2 ak,a6 o Q t' a' a5 z'.1 q hq ar x x1 x2 al]
    rw[z'.2.2.1]at e;exact absurd e a7
   exact absurd z.2.2.1 a7
  rintro⟨k1,k2,e⟩;have h1:=Z.w k1;have h2:=a5.w k2;have h3:=ap e;rw[h1,h2]at h3;have a0:c=o:=AA hw M Q h3;subst a0;exact aY (ac i j c c hi hj k1 k1 rfl)
 .rintro⟨hb,Y,y⟩;have hA:=h.fl o Q c M hf ja;let⟨h0,hB,T⟩:=JJ hb;let⟨a4,ij,_,hr⟩:=xB h hw M h0;have a1:c.r.wh=1:=by
   obtain q|q:=hB
   .exact q.2
   rw[y]at q;exact absurd q.1 gF
  obtain⟨_,_,z|z⟩|⟨z,_⟩|⟨z,_⟩|⟨z,_⟩:=hr
  .obtain⟨_,e⟩|⟨e,_⟩:=T
   .rw[e]at Y;have aa:c.r.ad<JY o:=Y;rw[z.1]at aa;have ab:ij<JY o:=aa;exact z.2.2.1.no kv (hA.t _ (QN hw Q z.2.1.1.2.1 ab).2) ab
   exact e y
  .rw[z.1]at a1;exact absurd a1 gF
  .rw[y]at z;exact absurd z gF
  .rw[y]at z;exact absurd z gF
  rw[y]at z;exact absurd z gF
 .have hA:=h.fl o Q c M hf ja;have b4:=(hw.ca c M).po.1;have hT:=hA.t _ (QN hw Q b4 Y).2;let⟨a4,ij,a8,hr⟩:=xB h hw M am;have a3:ij=c.pos:=a8 (by obtain e|e:=y<;>simp[e]);rw[a3]at hr;obtain⟨z,_⟩|⟨_,_,L|L|L|L⟩|⟨z,_⟩|⟨z,_⟩:=hr
  .rw[z]at y;exact absurd y gF
  .let⟨t,t1,t2,t3⟩:=L;exact(t3.no kv hT Y).elim
  .exact((L.2.2.nb kv).no kv hT Y).elim
  .rw[L.1]
  .exact(L.2.2.2.no kv hT Y).elim
  .rw[z]at y;exact absurd y gF
  rw[z]at y;exact absurd y gF
 rintro⟨hb,ha,h3⟩;have hA:=h.fl o Q c M hf ja;let⟨h0,hB,T⟩:=JJ hb;obtain⟨t,a,b1,b2⟩:=hA.b hB;have b5:a=c.pos:=by
  rw[<-ha];obtain⟨k1,k2,k3,k4⟩|⟨k1,k2,k3,k4⟩:=b1
  .obtain⟨_,e⟩|⟨e,_⟩:=T
   .rw[e];exact k4
   exact absurd k1 e
  obtain⟨e,_⟩|⟨_,e|e⟩:=T
  .rw[e]at k1;exact absurd k1 gF
  .rw[e.2];exact k3
  rw[e.2];exact k3
 rw[b5]at b2;let⟨a4,ij,a8,hr⟩:=xB h hw M am;have a3:ij=c.pos:=a8 (by obtain e|e:=y<;>simp[e]);rw[a3]at hr;obtain⟨z,_⟩|⟨_,_,L|L|L|L⟩|⟨z,_⟩|⟨z,_⟩:=hr
 .rw[z]at y;exact absurd y gF
 .let⟨t',t1,t2,t3⟩:=L;obtain⟨q,hq,q2⟩:=h.Ny (t2.fix kv);have:=IB q2;rw[t1]at h3;have b6:t'.kd=3:=h3;omega
 .exact L.2.2.no kv b2
 .rw[L.1]at h3;exact absurd h3 gF
 .rw[L.2.1]at h3;exact absurd h3 gF
 .rw[z]at y;exact absurd y gF
 rw[z]at y;exact absurd y gF
end
def CG(n m:Nat)(i:Nat):Pl:=if i<n*m then⟨.unit ((i/m:Nat):Int) St.first [St.first],[],true,false⟩else⟨.voter VS.first [VS.first],[],true,false⟩
def Wd.zero(n m v ce:Nat):Wd:=⟨n,m,v,ce,(List.range (n*m+v)).map (CG n m),[],[],[],0,[],[],0⟩
def Wd.start(n m v ce:Nat):Wd:=(Wd.zero n m v ce).kS
def Eg{m v ce:Nat}(h:(Wd.zero n m v ce).pl[i]?=some P):i<n*m+v/\P=CG n m i:=by have y:((List.range (n*m+v)).map (CG n m))[i]?=some P:=h;have H:=(aj.1 y).1;simp at H;rw[aK,cD H]at y;simp at y;exact⟨H,y.symm⟩
def KG(S:Cf):Wk (Wd.zero S.n S.m S.v S.ce):=by
 let⟨H,L,M,Q⟩:=S.A;have T:S.v%2=1:=by have:=S.ok;simp[nB]at this;omega
 refine⟨H,L,M,T,Q,by simp[Wd.zero],λi P Y=>?_,by simp[Wd.zero],by simp[Wd.zero],by simp[Wd.zero],by simp[Wd.zero],by simp[Wd.zero],by simp[Wd.zero],by simp[Wd.zero],by simp[Wd.zero],by simp[Wd.zero]⟩;obtain⟨Z,rfl⟩:=Eg Y;unfold CG;split
 .rename_i y;refine⟨⟨y,rfl,gG,λx h=>?_⟩,Io.nil⟩;simp at h;subst h;exact⟨⟨gF,by show(0:Int)<=0+1;decide⟩,gF,λi=>Xf (b:=(Wd.zero S.n S.m S.v S.ce).A 0) (by show(0:Int)<=0;decide),λi e=>absurd rfl e⟩
 rename_i y;refine⟨⟨by show S.n*S.m<=i;omega,Z,gG,λx h=>?_⟩,Io.nil⟩;simp at h;subst h;exact⟨λe=>⟨by show(0:Int)<=0;decide,by show(0:Int)<=200*0;decide⟩,λe=>⟨by show(0:Int)<=0;decide,by show(0:Int)<=200*0;decide⟩,λe=>by simp[VS.first,UE],λe=>by simp[VS.first,UE,mR],⟨gF,by show(0:Int)<=0+1;decide⟩⟩
def OL(S:Cf):Wk (Wd.start S.n S.m S.v S.ce):=(KG S).kS
def K0(S:Cf):Kn:=⟨[jD S.n S.m],λ_=>St.first,λ_=>VS.first,λ_ _ _=>False,λ_ _ _=>False,λ_=>0,λ_=>[],λ_ _ _=>False,λm=>m=0,λ_=>False⟩
def Oc(S):Kw S (K0 S):=by
 refine⟨⟨rfl,λe R L M y=>?_,λe M y=>?_,λ_ _ _ h=>h.elim,λ_ _ _ _ h=>h.elim,λ_ _ _ h=>h.elim,λ_ _ _ _ _ _ h=>h.elim,rfl⟩,λu T=>⟨by show(0:Int)<=0;decide,by show(0:Int)<=1;decide,rfl,λ_ _=>rfl,λa Y h=>absurd rfl h⟩,λq Q=>⟨λe=>by show(0:Int)<=0;decide,λe=>by show(0:Int)<=0;decide,λe h=>absurd (show(0:Int)<0 from h) gF,by show(0:Int)<=1;decide⟩,λq e Q h=>absurd (show(0:Int)<0 from h) gF⟩
 .have:e+1<[jD S.n S.m].length:=(aj.1 y).1;simp at this
 have H:e<[jD S.n S.m].length:=y;simp at H;omega
def Qb(S):Sf S (Wd.start S.n S.m S.v S.ce):=by
 have Y:Sf S (Wd.zero S.n S.m S.v S.ce):=by
  refine⟨K0 S,λ_ _ _=>St.first,⟨⟨⟨rfl,rfl⟩,rfl,rfl⟩,Oc S,λi P Z=>?_,λi A M=>by simp[Wd.zero]at M,λi A M=>by simp[Wd.zero]at M,λl hl=>by simp[Wd.zero]at hl,λ_ _ _ h=>h.elim,λm h=>.inl (by have:m=0:=h;omega),λ_ h=>h.elim,λ_ _ _ h=>h.elim,λc Q=>by simp[Wd.zero]at Q,λo ho=>by simp[Wd.zero]at ho⟩,λi c Q=>by simp[Wd.zero]at Q⟩;obtain⟨hi,rfl⟩:=Eg Z;unfold CG;split
  .rename_i T;have y:nL S.n S.m (i:Int):=⟨C,by exact_mod_cast T⟩;exact⟨⟨by norm_cast,y⟩,⟨[],rfl⟩,rfl,gG,λx H=>by simp at H;subst H;exact(Oc S).sd i y,gG⟩
  rename_i T;have gP:jZ S.n S.m i=100+i-(S.n*S.m:Nat):=by unfold jZ;rw[az T]
  have L:oj S.v (jZ S.n S.m i):=by rw[gP];unfold oj;omega
  exact⟨L,⟨[],rfl⟩,rfl,gG,λx H=>by simp at H;subst H;exact(Oc S).vd _ L,gG⟩
 exact Y.kS
theorem CZ:∀(k:Nat) {W:Wd},Wk W->Kp (2422*k) W (W.qz k).1
 |0,W,h=>(Kp.refl h).L C
 |k+1,W,h=>by
  let⟨H,y,Q,_⟩:=uC h;have M:Kp 2422 W W.step:=⟨H,Q,y.ca,y.ms,y.ac,y.n,y.m,y.v,y.ce⟩;show Kp _ W (if W.jL.iA.length=0 then(W.step,true)else W.step.qz k).1;split
  .exact M.L C
  exact(M.H (CZ k H)).L C
theorem Sf.oP(h:Sf S W)(y:Wk W)(i):∀k,Sf S (W.oP i k)
 |0=>h
 |k+1=>(h.oP y i k).ld (Kp.oP y i k).k _ _ _
def Sf.nH(h:Sf S W)(L:Wk W)(i):Sf S (W.nH i):=by
 unfold Wd.nH;split
 .exact h
 rename_i A M;split
 .rename_i H;have y:=h.kO L i;unfold Wd.kO at y;rw[M]at y;dsimp only at y;rw[aE H]at y;exact y.oP (Kp.nM L M).k i _
 exact h
theorem Sf.j0(h:Sf S W)(y:Wk W):∀k,Sf S (W.j0 k)
 |0=>h
 |k+1=>by rw[qy];exact(h.j0 y k).nH (Kp.j0 y k).k k
def Sf.round(h:Sf S W)(y:Wk W):Sf S W.round.1:=Sf.qz 300 (h.j0 y _) (Kp.j0 y _).k
def Wd.VL(W:Wd):Wd:=(W.call 1 0 0).round.1
def Wd.Um(W:Wd):Wd:=W.VL.sE.1
def Wd.VH(W:Wd):Wd:=(W.Um.call 2 0 0).sE.1
def Wd.UF(W:Wd):Bool:=(W.call 1 0 0).round.2&&W.VL.sE.2&&(W.Um.call 2 0 0).sE.2&&(match W.VH.gK with
 |[a,b]=>a.r.wh==1&&b.r.wh==8&&b.r.val==j4 0
 |_=>false)
structure yH(S:Cf)(W W':Wd)(a c:Nat):Prop where
 f:Sf S W'
 k:Wk W'
 u:wX W'
 iN:W'.iN<=W.iN+a
 cl:W'.gK.length<=W.gK.length+c
 ms:W'.jT=W.jT
end Go.Proofs.YtbghhbpacijmmaaGreat
