import Derived.Test.YtbghhbpacijmmaaGreatL13
open Go.Proofs.Tryz
namespace Go.Proofs.YtbghhbpacijmmaaGreat
set_option maxRecDepth 99999
set_option maxHeartbeats 0
set_option linter.defProp false
variable {X Y X' X2:Cx} {W:Wd} {i j k n ce m:Nat} {c c':jn} {z:Int×Rq} {l:Le} {ls:List Le} {P:Pl} {Q:Ep->Prop} {r:Rq} {v:List Int} {e u:Int} {p:kC} {b:Bd} {s:VS}
def Wd.D(W:Wd)(ls:List Le)(id:Int):List Le:=ls.filter λl=>l.tt==id&& !W.j6 l.fr l.tt
def Pl.D(n m v ce:Nat)(P:Pl)(ls:List Le):Pl:=ls.foldl (λP l=>P.recv n m v ce l.fr l.pk) P
def Cx.D(X:Cx)(ls:List Le):Cx:=ls.foldl (λX l=>X.recv l.fr l.pk) X
def Pl.A(n m v ce:Nat)(P:Pl)(ls:List Le):Pl:=if P.up then P.D n m v ce ls else P
def Ac.A(A:Ac)(ls:List Le):Ac:=if A.up then{A with X:=A.X.D ls}else A
section
variable{W':Wd}
theorem UN(n m v ce:Nat)(P:Pl)(fr:Int)(p:Pk):(P.recv n m v ce fr p).up=P.up/\(P.recv n m v ce fr p).nf=P.nf:=by
 unfold Pl.recv
 grind
def GJ(W:Wd)(l:Le):(W.mQ l).j6=W.j6:=by have h:=(qR W l).1;unfold Wd.j6;rw[h.ms,h.ac]
theorem SC(W:Wd)(l:Le)(j:Nat):(W.mQ l).pl[j]?=(W.pl[j]?).map λ(P:Pl)=>P.A W.n W.m W.v W.ce (W.D [l] (jP W.n W.m j)):=by
 unfold Wd.mQ Wd.D;by_cases y:W.j6 l.fr l.tt=true
 .rw[aE y];have:([l].filter λl=>l.tt==jP W.n W.m j&& !W.j6 l.fr l.tt)=[]:=mZ y;rw[this]
  cases W.pl[j]? with
  |none=>rfl
  |some P=>simp[Pl.A,Pl.D]
 rw[az y];show(W.qp l W.pl.length)[j]?=_;rw[pf]
 cases F:W.pl[j]? with
 |none=>rfl
 |some P=>
  simp only[((aj.1 F).1)];by_cases e:l.tt=jP W.n W.m j
  .by_cases H:P.up=true
   .have A:W.j6 l.fr (jP W.n W.m j)=false:=by rw[<-e];simpa using y
    simp[e,A,Pl.A,Pl.D]
   simp[H,Pl.A]
  have e':¬jP W.n W.m j=l.tt:=λh=>e h.symm;simp[e,e',Pl.A,Pl.D]
theorem Te(W:Wd)(l:Le)(i:Nat):(W.mQ l).ac[i]?=(W.ac[i]?).map λ(A:Ac)=>A.A (W.D [l] (ja i)):=by
 unfold Wd.mQ Wd.D;by_cases y:W.j6 l.fr l.tt=true
 .rw[aE y];have:([l].filter λl=>l.tt==ja i&& !W.j6 l.fr l.tt)=[]:=mZ y;rw[this]
  cases W.ac[i]? with
  |none=>rfl
  |some A=>simp[Ac.A,Cx.D]
 rw[az y];show(W.sA l W.ac.length)[i]?=_;rw[oV]
 cases H:W.ac[i]? with
 |none=>rfl
 |some A=>
  simp only[((aj.1 H).1)];by_cases e:l.tt=ja i
  .by_cases L:A.up=true
   .have F:W.j6 l.fr (ja i)=false:=by rw[<-e];simpa using y
    simp[e,F,Ac.A,Cx.D]
   simp[L,Ac.A]
  have e':¬ja i=l.tt:=λh=>e h.symm;simp[e,e',Ac.A,Cx.D]
theorem Cq(W:Wd)(l:Le)(ls:List Le)(id:Int):W.D (l::ls) id=W.D [l] id++W.D ls id:=by
 unfold Wd.D
 grind
theorem Fg(n m v ce:Nat):∀(ls:List Le) (P:Pl),(P.D n m v ce ls).up=P.up
 |[],_=>rfl
 |l::ls,P=>(Fg n m v ce ls _).H (UN n m v ce P l.fr l.pk).1
theorem Oi(n m v ce:Nat)(P:Pl)(a b:List Le):P.A n m v ce (a++b)=(P.A n m v ce a).A n m v ce b:=by
 unfold Pl.A;by_cases h:P.up=true
 .rw[aE h,aE h,aE (by rw[Fg];exact h)];unfold Pl.D
  grind
 grind
theorem MO(A:Ac)(a b:List Le):A.A (a++b)=(A.A a).A b:=by
 unfold Ac.A;by_cases h:A.up=true
 .unfold Cx.D
  grind
 grind
theorem Dc:∀(ls:List Le) (W:Wd),(∀j:Nat,(W.lU ls).pl[j]?=(W.pl[j]?).map λ(P:Pl)=>P.A W.n W.m W.v W.ce (W.D ls (jP W.n W.m j)))/\∀i:Nat,(W.lU ls).ac[i]?=(W.ac[i]?).map λ(A:Ac)=>A.A (W.D ls (ja i))
 |[],W=>by
  refine⟨λj=>?_,λi=>?_⟩
  .show W.pl[j]?=_
   cases W.pl[j]? with
   |none=>rfl
   |some P=>simp[Wd.D,Pl.A,Pl.D]
  show W.ac[i]?=_
  cases W.ac[i]? with
  |none=>rfl
  |some P=>simp[Wd.D,Ac.A,Cx.D]
 |l::ls,W=>by
  obtain⟨F,H⟩:=Dc ls _;have h:=(qR W l).1;have y:∀id,(W.mQ l).D ls id=W.D ls id:=λid=>by unfold Wd.D;rw[GJ]
  refine⟨λj=>?_,λi=>?_⟩
  .show((W.mQ l).lU ls).pl[j]?=_;rw[F j,SC,h.n,h.m,h.v,h.ce,y,Option.map_map];congr 1;funext P;rw[Cq W l ls,Oi];rfl
  show((W.mQ l).lU ls).ac[i]?=_;rw[H i,Te,y,Option.map_map];congr 1;funext P;rw[Cq W l ls,MO];rfl
def Wd.ET(W:Wd)(i:Nat):List Le:=match W.pl[i]? with
 |none=>[]
 |some P=>if P.up then P.q.map λe=>⟨jP W.n W.m i,e.cl,e.pk⟩else []
def Wd.uk(W:Wd)(i:Nat):List Le:=match W.ac[i]? with
 |none=>[]
 |some A=>if A.up then A.X.iH.map λz=>⟨ja i,z.1,.req z.2⟩else []
def Wd.vF(W:Wd):List Le:=(List.range W.pl.length).flatMap W.ET
def Wd.mV(W:Wd):List Le:=(List.range W.ac.length).flatMap W.uk
theorem zJ(W:Wd):∀k,(∀j:Nat,(W.T k).pl[j]?=(W.pl[j]?).map λ(P:Pl)=>if j<k then P.rest else P)/\(∀i:Nat,(W.T k).ac[i]?=(W.ac[i]?).map λ(A:Ac)=>if i+W.pl.length<k then A.gone else A)/\(W.T k).iN=(List.range (min k W.pl.length)).flatMap W.ET++(List.range (k-W.pl.length)).flatMap W.uk/\oI W (W.T k)/\(W.T k).gF=W.gF/\(W.T k).a=W.a
 |0=>by
  refine⟨λj=>?_,λi=>?_,by simp[Wd.T],⟨rfl,rfl,rfl,rfl,rfl,rfl,rfl,rfl,rfl,jr,iG⟩,rfl,rfl⟩
  .show W.pl[j]?=_
   cases W.pl[j]?<;>simp
  show W.ac[i]?=_
  cases W.ac[i]?<;>simp
 |k+1=>by
  obtain⟨h1,h2,H,T,h5,h6⟩:=zJ W k;rw[qt];obtain⟨V,hV⟩:=gG (W.T k);rw[hV]at h1 h2 H T h5 h6|-;obtain⟨s1,s2,s3⟩:=zR V k;have Z:=T.pl;have a0:(V.lM k).gF=V.gF:=by unfold Wd.lM;(repeat' split)<;>rfl
  refine⟨λj=>?_,λi=>?_,?_,T.H s1,a0.H h5,s3.H h6⟩
  .have M:(V.lM k).pl[j]?=(V.pl[j]?).map λ(P:Pl)=>if j=k then P.rest else P:=by
    unfold Wd.lM;by_cases F:k<V.pl.length
    .rw[aE F];obtain⟨P,hP⟩:=nS F;rw[hP];dsimp only;by_cases h:P.up=true
     .rw[aE h];show(V.pl.set k P.jE)[j]?=_;by_cases e:k=j
      .subst e;rw[aQ F,hP];simp[Pl.rest,h]
      rw[aH e]
      cases V.pl[j]?<;>simp[Ne.symm e]
     rw[az h]
     cases hj:V.pl[j]? with
     |none=>rfl
     |some R=>
      by_cases e:j=k
      .subst e;rw[hP]at hj;cases hj;simp[Pl.rest,h]
      simp[e]
    rw[az F];have:∀S:Wd,S.pl=V.pl->S.pl[j]?=(V.pl[j]?).map λ(P:Pl)=>if j=k then P.rest else P:=λS hU=>by
     rw[hU]
     cases hj:V.pl[j]? with
     |none=>rfl
     |some R=>have:=(aj.1 hj).1;simp[show¬j=k by omega]
    split
    .exact this _ rfl
    split
    .exact this _ rfl
    exact this _ rfl
   rw[M,h1 j,Option.map_map];congr 1;funext P;simp only[Function.comp];by_cases e:j=k
   .subst e;simp
   by_cases L:j<k
   .simp[e,L,Nat.lt_succ_of_lt L]
   simp[e,L,show¬j<k+1 by omega]
  .have M:(V.lM k).ac[i]?=(V.ac[i]?).map λ(A:Ac)=>if i+V.pl.length=k then A.gone else A:=by
    unfold Wd.lM;have gN:∀S:Wd,S.ac=V.ac->¬i+V.pl.length=k->S.ac[i]?=(V.ac[i]?).map λ(A:Ac)=>if i+V.pl.length=k then A.gone else A:=λS hU hn=>by
     rw[hU]
     cases V.ac[i]?<;>simp[hn]
    by_cases F:k<V.pl.length
    .rw[aE F];split
     .exact gN _ rfl C
     split
     .exact gN _ rfl C
     exact gN _ rfl C
    rw[az F];by_cases e:i+V.pl.length=k
    .have L:k-V.pl.length=i:=C;rw[L]
     cases hA:V.ac[i]? with
     |none=>simpa using hA
     |some A=>
      have hl:=(aj.1 hA).1;dsimp only;by_cases h:A.up=true
      .rw[aE h];show(V.ac.set i _)[i]?=_;rw[aQ hl];simp[e,Ac.gone,h]
      rw[az h,hA];simp[e,Ac.gone,h]
    have hf:=gN V rfl e;simp only[e,if_false]at hf|-;split
    .exact hf
    rename_i A hA;split
    .show(V.ac.set _ _)[i]?=_;rw[aH C];exact hf
    exact hf
   rw[M,h2 i,Option.map_map,Z];congr 1;funext P;simp only[Function.comp];by_cases e:i+W.pl.length=k
   .rw[aE e,az C,aE C]
   by_cases L:i+W.pl.length<k
   .rw[az e,aE L,aE C]
   rw[az e,az L,az C]
  unfold Wd.lM;by_cases F:k<V.pl.length
  .rw[aE F,show min (k+1) W.pl.length=k+1 by omega,dp,eZ,show k+1-W.pl.length=0 by omega];rw[show min k W.pl.length=k by omega,show k-W.pl.length=0 by omega]at H;simp only[List.range_zero,List.flatMap_nil,cF]at H|-;have y:=h1 k;simp only[fQ,if_false,Option.map_id']at y;simp only[dP,List.flatMap_nil,cF];unfold Wd.ET at H|-;rw[y]
   cases hP:W.pl[k]? with
   |none=>simp[H]
   |some P=>
    dsimp only;by_cases h:P.up=true
    .rw[aE h,aE h,<-H,T.n,T.m]
    rw[az h,az h,cF];exact H
  rw[az F,show min (k+1) W.pl.length=W.pl.length by omega,show k+1-W.pl.length=(k-W.pl.length)+1 by omega,dp,eZ];rw[show min k W.pl.length=W.pl.length by omega]at H;simp only[dP,List.flatMap_nil,cF];rw[<-eJ,<-H,Z];have y:=h2 (k-W.pl.length);rw[show k-W.pl.length+W.pl.length=k by omega]at y;simp only[fQ,if_false,Option.map_id']at y;unfold Wd.uk;rw[y]
  cases hA:W.ac[k-W.pl.length]? with
  |none=>simp
  |some A=>
   dsimp only;by_cases h:A.up=true
   .rw[aE h,aE h]
   rw[az h,az h,cF]
theorem qw(W:Wd):(∀j:Nat,W.iH.pl[j]?=(W.pl[j]?).map Pl.rest)/\(∀i:Nat,W.iH.ac[i]?=(W.ac[i]?).map Ac.gone)/\W.iH.iN=W.vF++W.mV/\oI W W.iH/\W.iH.gF=W.gF/\W.iH.a=W.a:=by
 obtain⟨A,F,h,y⟩:=zJ W _;rw[Ds];refine⟨λj=>?_,λi=>?_,?_,y⟩
 .grind
 .grind
 rw[h,show min (W.pl.length+W.ac.length) W.pl.length=W.pl.length by omega,show W.pl.length+W.ac.length-W.pl.length=W.ac.length by omega];rfl
theorem Ib(W:Wd):(∀j:Nat,W.step.pl[j]?=(W.pl[j]?).map λ(P:Pl)=>P.rest.A W.n W.m W.v W.ce (W.D (W.vF++W.mV) (jP W.n W.m j)))/\(∀i:Nat,W.step.ac[i]?=(W.ac[i]?).map λ(A:Ac)=>A.gone.A (W.D (W.vF++W.mV) (ja i))):=by
 obtain⟨y,M,F,h,_⟩:=qw W;unfold Wd.step;obtain⟨H,S⟩:=Dc W.iH.iN _;have L:∀id,({W.iH with iN:=W.iN}:Wd).D W.iH.iN id=W.D _ id:=λid=>by unfold Wd.D Wd.j6;rw[F,h.ms,h.ac]
 refine⟨λj=>?_,λi=>?_⟩
 .rw[H j,L];rw[y j,Option.map_map,h.n,h.m,h.v,h.ce];rfl
 grind
end
def Xt(c:jn):Prop:=c.q.nodes≠[]->c.q.A.ln=c.a
structure mA(X:Cx):Prop where
 c:∀c∈X.a,Xt c
 p:X.c.nodes≠[]->X.c.A.ln=8
 s:X.mv.a.nodes≠[]->X.mv.a.A.ln=9
 v:X.mv.A.nodes≠[]->X.mv.A.A.ln=9
def mA.put(h:mA X)(F:Xt c):mA (X.put c):=⟨λd y=>by
 obtain⟨e,A,rfl⟩:=aD.1 (show d∈X.a.map λd=>if d.gL=c.gL then c else d from y)
 split
 .omega
 .exact h.c e A,h.p,h.s,h.v⟩
def mA.mK(h:mA X)(nodes:List Int)(kd pl:Int)(t:Ct):mA (X.mK c nodes kd pl t):=
 mA.put ⟨h.c,h.p,h.s,h.v⟩ λ_=>rfl
def mA.fin(h:mA X)(r:Rz):mA (X.fin c r):=⟨λd y=>h.c d (aU.1 (show d∈X.a.filter λd=>d.gL !=c.gL from y)).1,h.p,h.s,h.v⟩
def mA.kg(h:mA X):mA (X.kg c):=by
 unfold Cx.kg;repeat' split
 .exact h.mK ..
 exact h.fin _
def mA.oe(h:mA X)(y:Xt c)(A:An):mA (X.oe c A):=by
 have F:∀c:jn,Xt {c with q:=Qn.zero}:=λ_ e=>absurd rfl e;unfold Cx.oe Cx.nV Cx.oy Cx.pO;repeat' split
 all_goals first|exact h.mK .. |exact h.fin _|exact h.kg|exact h.put y|exact h.put (F c)
def mA.dO(h:mA X):mA (X.dO c):=by
 unfold Cx.dO;repeat' split
 all_goals first|exact h.mK .. |exact h
def mA.kA(h:mA X):mA (X.kA c):=by
 unfold Cx.kA Cx.ku;repeat' split
 all_goals first|exact h.fin _|exact h|exact h.dO
theorem mA.yz:∀(l:List jn) {X:Cx},mA X->mA (l.foldl Cx.kA X)
 |[],_,h=>h
 |_::l,_,h=>mA.yz l h.kA
def mA.kh(h:mA X)(kd pl:Int)(val:List Int):mA (X.kh kd pl val):=⟨h.c,h.p,h.s,λ_=>rfl⟩
def mA.iB(h:mA X):mA X.iB:=by refine mA.kh ?_ _ _ _;exact⟨h.c,h.p,λe=>absurd rfl e,λe=>absurd rfl e⟩
def mA.gR(h:mA X)(e:Int):mA (X.gR e):=by
 unfold Cx.gR;repeat' split
 .omega
 .exact mA.iB ⟨h.c,h.p,h.s,h.v⟩
 exact⟨h.c,h.p,h.s,h.v⟩
def mA.jS(h:mA X):mA X.jS:=by
 unfold Cx.jS;split
 .omega
 refine mA.kh ?_ _ _ _;exact⟨h.c,h.p,h.s,h.v⟩
def mA.jM(h:mA X):mA X.jM:=by
 unfold Cx.jM;split
 .exact⟨h.c,h.p,h.s,h.v⟩
 refine mA.jS ?_;split
 .exact⟨h.c,h.p,h.s,h.v⟩
 exact⟨h.c,h.p,λ_=>rfl,h.v⟩
def mA.kX(h:mA X)(v:List Int):mA (X.kX v):=by
 unfold Cx.kX;split
 .exact⟨h.c,h.p,λe=>absurd rfl e,λe=>absurd rfl e⟩
 dsimp only;rename_i l _;have:=mA.yz X.a (X:={X with b:=X.mv.b,lay:=l,mv:=Mv.zero,wb:=false,wl:=false}) ⟨h.c,h.p,λe=>absurd rfl e,λe=>absurd rfl e⟩;split
 .exact this.iB
 omega
def mA.jB(h:mA X):mA X.jB:=by
 unfold Cx.jB;dsimp only;split
 .omega
 refine mA.kh ?_ _ _ _;exact⟨h.c,h.p,h.s,h.v⟩
def mA.kx(h:mA X):mA X.kx:=by
 unfold Cx.kx;split
 .exact h.kX _
 omega
def mA.kr(h:mA X):mA X.kr:=by
 unfold Cx.kr;dsimp only;repeat' split
 all_goals first|exact h.kX _|exact h.jM|exact h
def mA.ld(h:mA X):mA X.ld:=by
 unfold Cx.ld;repeat' split
 all_goals first|exact h.jS|exact h.jB|exact h
def mA.kK(h:mA X)(fr L y:Int)(v:Vo):mA (X.kK fr L y v):=by
 unfold Cx.kK;split
 .dsimp only;have F:=h.gR y;split
  .have H:∀B,mA {X.gR y with mv:={(X.gR y).mv with A:=(X.gR y).mv.A.add fr v,D:=B}}:=λB=>⟨F.c,F.p,F.s,F.v⟩;generalize (if(X.gR y).mv.A.A.kd=7/\(X.gR y).mv.D≠[]then(X.gR y).mv.A.D++[_]else(X.gR y).mv.D)=B;repeat' split
   all_goals first|exact(H B).kr|exact(H B).jB|exact(H B).kx|exact H B
  exact F
 exact h
def mA.jJ(h:mA X)(fr F:Int)(A:An):mA (X.jJ fr F A):=by
 unfold Cx.jJ;repeat' split
 .exact h.gR _
 .exact⟨h.c,h.p,h.s,h.v⟩
 .exact h.gR _
 .refine mA.ld ?_;exact⟨h.c,h.p,h.s,h.v⟩
 .omega
 .exact h.gR _
 rename_i c H _;have y:Xt {c with q:=c.q.add fr A}:=h.c c (bu H);exact(h.put y).oe y A
def mA.recv(h:mA X)(fr:Int)(p:Pk):mA (X.recv fr p):=by
 unfold Cx.recv;split
 .exact h.jJ ..
 .exact h.kK ..
 omega
theorem mA.kG(h:mA X):mA X.kG:=by
 unfold Cx.kG;dsimp only;have y:mA {X with wl:=X.wb,A:=0,mv:=Mv.zero,a:=X.a.map λ(c:jn)=>{c with q:={c.q with mi:=true}}}:=⟨λc F=>by
  obtain⟨d,H,rfl⟩:=aD.1 F
  exact h.c d H,h.p,λe=>absurd rfl e,λe=>absurd rfl e⟩
 have L:∀{Y:Cx},mA Y->mA Y.jX:=λh=>⟨h.c,λ_=>rfl,h.s,h.v⟩;repeat' split
 .exact(L y).iB
 .grind
 .exact y.iB
 omega
def mA.jE(h:mA X):mA X.jE:=⟨λc y=>by
 obtain⟨d,A,rfl⟩:=aD.1 (show c∈X.a.map λ(c:jn)=>{c with q:=c.q.jE}from y)
 exact h.c d A,h.p,h.s,h.v⟩
def mA.jb(h:mA X)(y:Xt c):mA (X.jb c):=⟨λd hd=>by
 obtain hd|hd:=aT.1 (show d∈X.a++[c]from hd)
 .exact h.c d hd
 .rw[cw.1 hd];exact y,h.p,h.s,h.v⟩
def mA.jK(h:mA X)(k:Nat)(t:Int):mA (X.jK k t):=by
 unfold Cx.jK;split
 .omega
 rename_i c y;split
 .exact(h.put (c:={c with iA:=t}) (h.c c (bu y))).dO
 exact h.fin _
def kC.mK(n m v ce:Nat)(p:kC)(r:Rq):Pk×kC:=match p with
 | .unit ch s=>(.rep r.nr (mh n m v ce ch s r).1,.unit ch (mh n m v ce ch s r).2)
 | .voter s=>(.vot r.nr (nL s r).2.lt (nL s r).1,.voter (nL s r).2)
def kC.N(n m v ce:Nat)(p:kC):List (Int×Rq)->List Qe×kC
 |[]=>([],p)
 |z::rs=>(⟨z.1,z.2.ln,z.2.nr,(p.mK n m v ce z.2).1⟩::((p.mK n m v ce z.2).2.N n m v ce rs).1,((p.mK n m v ce z.2).2.N n m v ce rs).2)
def QN(n m v ce:Nat)(P:Pl)(fr:Int)(r:Rq):P.recv n m v ce fr (.req r)={P with part:=(P.part.mK n m v ce r).2,q:=uU P.q ⟨fr,r.ln,r.nr,(P.part.mK n m v ce r).1⟩}:=by
 obtain⟨part,q,h,y⟩:=P
 cases part<;>rfl
def Ty(z:Int×Rq):Int×Int:=(z.1,z.2.ln)
def Qe.kk(e:Qe):Int×Int:=(e.cl,e.ln)
theorem PO{q:List Qe}{a:Qe}(h:a.kk∉q.map Qe.kk):uU q a=q++[a]:=by
 unfold uU;have:q.find? (λb=>b.is a.cl a.ln)=none:=by rw[bU];intro b A y;unfold Qe.is at y;simp at y;exact h (aD.2 ⟨b,A,by unfold Qe.kk;rw[y.1,y.2]⟩)
 grind
def Va(tt:Int)(z:Int×Rq):Le:=⟨z.1,tt,.req z.2⟩
theorem Cp(n m v ce:Nat)(tt:Int):∀(rs:List (Int×Rq)) (P:Pl),(P.q.map Qe.kk++rs.map Ty).Nodup->P.D n m v ce (rs.map (Va tt))={P with part:=(P.part.N n m v ce rs).2,q:=P.q++(P.part.N n m v ce rs).1}
 |[],P,_=>by simp[Pl.D,kC.N]
 |z::rs,P,h=>by
  have y:=Cp n m v ce tt rs (P.recv n m v ce z.1 (.req z.2));show(P.recv n m v ce z.1 (.req z.2)).D n m v ce _=_;have A:Ty z∉P.q.map Qe.kk:=λe=>by grind
  have F:uU P.q ⟨z.1,z.2.ln,z.2.nr,(P.part.mK n m v ce z.2).1⟩=P.q++[⟨z.1,z.2.ln,z.2.nr,(P.part.mK n m v ce z.2).1⟩]:=PO A;rw[QN,F]at y|-;rw[y (by simp at h|-;exact h)];simp[kC.N]
def Wd.reqs(W:Wd)(j:Nat):List (Int×Rq):=((W.D W.mV (jP W.n W.m j)).filterMap λl=>match l.pk with
 | .req r=>some (l.fr,r)
 |_=>none)
def Wd.N(W:Wd):List Le:=(List.range W.pl.length).flatMap λj=>match W.pl[j]? with
 |none=>[]
 |some P=>(P.part.N W.n W.m W.v W.ce (W.reqs j)).1.map λe=>⟨jP W.n W.m j,e.cl,e.pk⟩
structure Up(W:Wd):Prop where
 p:∀P∈W.pl,P.up=true
 a:∀A∈W.ac,A.up=true
 q:∀P∈W.pl,P.q=[]
 ln:∀A∈W.ac,mA A.X
theorem Dh(h:l∈W.mV):∃(i:Nat) (A:Ac) (z:Int×Rq),W.ac[i]?=some A/\A.up=true/\z∈A.X.iH/\l=⟨ja i,z.1,.req z.2⟩:=by
 obtain⟨i,_,y⟩:=eB.1 h;unfold Wd.uk at y
 grind
theorem Pb(F:Wk W)(h:l∈W.mV):l.tt<1000:=by obtain⟨i,A,z,H,_,L,rfl⟩:=Dh h;have y:=(F.ac i A H).x;have S:=rj y.n1.2 y.m1.2;have T:=y.v1;rcases(y.iH).1 z L with⟨⟨_,M⟩,_⟩|⟨⟨_,M⟩,_⟩;all_goals grind
def LN(i:Nat):1000<=ja i:=by unfold ja;omega
theorem S3(h:Wk W)(i:Nat):W.D W.mV (ja i)=[]:=by
 unfold Wd.D;rw[List.filter_eq_nil_iff];intro l y;have:=Pb h y;have:=LN i
 grind
theorem Ml(W:Wd)(j:Nat):W.D W.mV (jP W.n W.m j)=(W.reqs j).map (Va (jP W.n W.m j)):=by
 unfold Wd.reqs;have H:∀ls:List Le,(∀l∈ls,l.tt=jP W.n W.m j/\∃r,l.pk=.req r)->ls=(ls.filterMap λl=>match l.pk with
  | .req r=>some (l.fr,r)
  |_=>none).map (Va (jP W.n W.m j)):=λls=>by
  induction ls with
  |nil=>intro _;rfl
  |cons l ls L=>intro h;obtain⟨F,r,y⟩:=h l (aN ..);have:=L λx M=>h x (aX _ M);obtain⟨fr,tt,pk⟩:=l;simp only at F y;subst F y;simp only[List.filterMap_cons,bj,Va];rw[<-this]
 refine H _ λl S=>?_;obtain⟨F,y⟩:=aU.1 S;simp only[bL,ZT]at y;obtain⟨i,A,z,_,_,_,rfl⟩:=Dh F;exact⟨y.1,z.2,rfl⟩
def Wd.pL(W:Wd)(j i:Nat):List (Int×Rq):=match W.ac[i]? with
 |none=>[]
 |some A=>(A.X.iH.filter λz=>z.1==jP W.n W.m j&& !W.j6 (ja i) z.1).map λz=>(ja i,z.2)
theorem uh{α β γ:Type}(f:α->List β)(g:β->Option γ):∀l:List α,(l.flatMap f).filterMap g=l.flatMap λa=>(f a).filterMap g
 |[]=>rfl
 |a::l=>by rw[dP,dP,List.filterMap_append,uh f g l]
theorem rR{α β:Type}(f:α->List β)(g:β->Bool):∀l:List α,(l.flatMap f).filter g=l.flatMap λa=>(f a).filter g
 |[]=>rfl
 |a::l=>by rw[dP,dP,cz,rR f g l]
theorem vy{α β:Type}{f g:α->List β}{l:List α}(h:∀a∈l,f a=g a):l.flatMap f=l.flatMap g:=by
 induction l with
 |nil=>rfl
 |cons a l y=>rw[dP,dP,h a (aN ..),y λb A=>h b (aX _ A)]
theorem zl(y:∀A∈W.ac,A.up=true)(j:Nat):W.reqs j=(List.range W.ac.length).flatMap (W.pL j):=by
 unfold Wd.reqs Wd.D Wd.mV;rw[rR,uh];refine vy λi L=>?_;unfold Wd.uk Wd.pL
 cases F:W.ac[i]? with
 |none=>rfl
 |some A=>
  dsimp only;rw[aE (y A (aR F)),dZ,List.filterMap_map];generalize h:A.X.iH.filter (λz=>z.1==jP W.n W.m j&& !W.j6 _ z.1)=l;have:A.X.iH.filter ((λl:Le=>l.tt==jP W.n W.m j&& !W.j6 l.fr l.tt)∘λz=>(⟨ja i,z.1,.req z.2⟩:Le))=l:=by rw[<-h];rfl
  rw[this];clear h this;induction l with
  |nil=>rfl
  |cons z l H=>simp;rw[<-H]
theorem uo{α:Type}{q:Qn α}(A:q.nodes.Nodup)(h:Int):(q.iH.filter λz=>z.1==h)=[]\/((q.iH.filter λz=>z.1==h)=[(h,q.A)]/\h∈q.nodes/\q.mi=true):=by
 unfold Qn.iH;split
 .rw[dZ,List.filter_filter];have y:∀l:List Int,l.Nodup->l.filter (λa=>((λz:Int×Rq=>z.1==h)∘λh=>(h,q.A)) a&& !q.T a)=[]\/(l.filter (λa=>((λz:Int×Rq=>z.1==h)∘λh=>(h,q.A)) a&& !q.T a)=[h]/\h∈l):=λl=>by
   induction l with
   |nil=>intro _;exact .inl rfl
   |cons x l F=>grind
  grind
 simp
theorem UH(y:Xk b X)(H:mA X)(A:Int):((X.iH.filter λz=>z.1==A).map λz=>z.2.ln).Nodup:=by
 have h9:(X.n:Int)*X.m<=9:=by exact_mod_cast rj y.n1.2 y.m1.2
 have M:∀{α:Type} {q:Qn α} (L:Int),q.nodes.Nodup->(q.nodes≠[]->q.A.ln=L)->((q.iH.filter λz=>z.1==A).map λz=>z.2.ln).Sublist [L]:=fun{α} {q} L S V=>by
  obtain h|⟨h,Z,_⟩:=uo S A
  .rw[h];exact fp _
  rw[h];show [q.A.ln].Sublist [L];rw[V (bM Z)];exact dy _
 have k1:∀l:List jn,(∀c∈l,c.q.nodes.Nodup/\Xt c)->(((l.flatMap λc=>c.q.iH).filter λz=>z.1==A).map λz=>z.2.ln).Sublist (l.map λc=>(c.a:Int)):=λl=>by
  induction l with
  |nil=>intro _;exact fp _
  |cons c l ih=>intro h;have S:=h c (aN ..);rw[dP,cz,aZ,bj];exact(M (c.a:Int) S.1 S.2).append (ih λd hd=>h d (aX _ hd))
 have hp:=k1 X.a λc T=>⟨(y.f c T).q.nd,H.c c T⟩;have V:=M 8 y.pr.nd H.p;have h3:=M 9 y.sl.nd H.s;have h4:=M 9 y.vt.nd H.v;unfold Cx.iH;rw[cz,cz,cz,aZ,aZ,aZ];have a0:((X.mv.a.iH.filter λz=>z.1==A).map λz=>z.2.ln)=[]\/((X.mv.A.iH.filter λz=>z.1==A).map λz=>z.2.ln)=[]:=by
  obtain h|⟨_,Z,_⟩:=uo y.sl.nd A
  .left;rw[h];rfl
  obtain h|⟨_,a1,_⟩:=uo y.vt.nd A
  .right;rw[h];rfl
  have:=(y.sl.id A Z).2;have:=(y.vt.id A a1).1;omega
 have hs:(((X.mv.a.iH.filter λz=>z.1==A).map λz=>z.2.ln)++((X.mv.A.iH.filter λz=>z.1==A).map λz=>z.2.ln)).Sublist [9]:=by
  obtain e|e:=a0
  .rw[e];exact h4
  rw[e,cF];exact h3
 have F:=((hp.append V).append hs);rw[eJ (_++_)];refine List.Nodup.sublist F ?_;rw[eJ,cX];refine⟨?_,bT,λa ha b hb=>?_⟩
 .unfold List.Nodup;rw[cj];exact y.a.a.imp λh e=>h C
 obtain⟨c,T,rfl⟩:=aD.1 ha;have:=y.a.A c T;simp at hb;omega
theorem IS{α β:Type}{f:α->List β}:∀{l:List α},(∀a∈l,(f a).Nodup)->l.Pairwise (λa b=>∀x∈f a,∀y∈f b,x≠y)->(l.flatMap f).Nodup
 |[],_,_=>fH
 |a::l,h,A=>by
  obtain⟨F,H⟩:=cI.1 A
  grind
def Nz(hW:Wk W)(V:Up W)(j:Nat):((W.reqs j).map Ty).Nodup:=by
 rw[zl V.a,List.map_flatMap];refine IS (λi _=>?_) ?_
 .unfold Wd.pL;split
  .exact fH
  rename_i A Z;have M:=UH (hW.ac i A Z).x (V.ln A (aR Z)) (jP W.n W.m j);have F:(A.X.iH.filter λz=>z.1==jP W.n W.m j&& !W.j6 (ja i) z.1).Sublist (A.X.iH.filter λz=>z.1==jP W.n W.m j):=by
   have:(A.X.iH.filter λz=>z.1==jP W.n W.m j&& !W.j6 (ja i) z.1)=(A.X.iH.filter λz=>z.1==jP W.n W.m j).filter λz=> !W.j6 (ja i) z.1:=by rw[List.filter_filter];congr 1;funext z;exact Bool.and_comm ..
   rw[this];exact cE
  have H:=List.Nodup.sublist (F.map λz=>z.2.ln) M;rw[br];unfold List.Nodup at H|-;rw[cj]at H|-;exact H.imp λh e=>h (Z5 Prod.snd e)
 have hr:(List.range W.ac.length).Pairwise (·<·):=List.pairwise_lt_range;refine hr.imp fun{a b} a0 x T y hy e=>?_;have L:∀i,∀x∈(W.pL j i).map Ty,x.1=ja i:=λi x T=>by
  obtain⟨z,S,rfl⟩:=aD.1 T;unfold Wd.pL at S;split at S
  .simp at S
  obtain⟨y,_,rfl⟩:=aD.1 S;rfl
 have M:=L a x T;have H:=L b y hy;rw[e,H]at M;unfold ja at M;omega
def ux(X:Cx):X.jE.iH=[]:=by
 unfold Cx.iH;have h:(X.jE.a.flatMap λc=>c.q.iH)=[]:=by rw[List.flatMap_eq_nil_iff];intro c y;obtain⟨d,_,rfl⟩:=aD.1 y;rfl
 rw[h];rfl
def xC(X:Cx):X.jE.jE=X.jE:=by unfold Cx.jE;simp only[br];rfl
def Ut(h:Up W)(y:P∈W.pl):P.rest=P:=by unfold Pl.rest;rw[aE (h.p P y)];unfold Pl.jE;rw[<-h.q P y]
def zU(h:Up W):W.vF=[]:=by
 unfold Wd.vF;rw[List.flatMap_eq_nil_iff];intro i _;unfold Wd.ET;split
 .rfl
 rename_i P y;rw[h.q P (aR y)];simp
theorem nt(F:Wk W)(h:Up W):(∀j:Nat,W.step.pl[j]?=(W.pl[j]?).map λ(P:Pl)=>{P with part:=(P.part.N W.n W.m W.v W.ce (W.reqs j)).2,q:=(P.part.N W.n W.m W.v W.ce (W.reqs j)).1})/\∀i:Nat,W.step.ac[i]?=(W.ac[i]?).map λ(A:Ac)=>{A with X:=A.X.jE}:=by
 obtain⟨H,L⟩:=Ib W;rw[zU h,dz]at H L;refine⟨λj=>?_,λi=>?_⟩
 .rw[H j]
  cases M:W.pl[j]? with
  |none=>rfl
  |some P=>have y:=aR M;simp;rw[Ut h y,Ml];unfold Pl.A;rw[aE (h.p P y),Cp _ _ _ _ _ _ _ (by rw[h.q P y];exact Nz F h j),h.q P y,dz]
 rw[L i,S3 F]
 cases S:W.ac[i]? with
 |none=>rfl
 |some A=>simp;have:=h.a A (aR S);unfold Ac.gone Ac.A;rw[aE this,aE this];rfl
theorem As:∀(ls:List Le) (W:Wd),oI W (W.lU ls)
 |[],W=>oI.refl W
 |l::ls,W=>(qR W l).1.H (As ls (W.mQ l))
def px(W:Wd):oI W W.step:=by have h:=(qw W).2.2.2.1;have y:oI W ({W.iH with iN:=W.iN}:Wd):=⟨h.n,h.m,h.v,h.ce,h.pl,h.ac,h.ca,h.hd,h.ms,h.jl,h.a⟩;exact y.H (As W.iH.iN {W.iH with iN:=W.iN})
theorem wK(n m v ce:Nat):∀(rs:List (Int×Rq)) (p:kC),∀e∈(p.N n m v ce rs).1,∃z∈rs,e.cl=z.1/\e.ln=z.2.ln/\e.nr=z.2.nr/\∃p',e.pk=(kC.mK n m v ce p' z.2).1
 |[],_,e,he=>by simp[kC.N]at he
 |z::rs,p,e,he=>by
  obtain rfl|he:=bh.1 (show e∈_::_ from he)
  .exact⟨z,aN ..,rfl,rfl,rfl,p,rfl⟩
  obtain⟨y,A,h⟩:=wK n m v ce rs _ e he
  grind
theorem wZ(y:∀A∈W.ac,A.up=true)(h:z∈W.reqs j):∃(i:Nat) (A:Ac),W.ac[i]?=some A/\z.1=ja i/\(jP W.n W.m j,z.2)∈A.X.iH/\W.j6 (ja i) (jP W.n W.m j)=false:=by
 rw[zl y]at h;obtain⟨i,_,F⟩:=eB.1 h;unfold Wd.pL at F
 grind
theorem KW(F:Wk W)(H:Up W):W.step.iH.iN=W.N/\(∀j:Nat,W.step.step.pl[j]?=(W.pl[j]?).map λ(P:Pl)=>{P with part:=(P.part.N W.n W.m W.v W.ce (W.reqs j)).2,q:=[]})/\∀i:Nat,W.step.step.ac[i]?=(W.ac[i]?).map λ(A:Ac)=>{A with X:=A.X.jE.D (W.D W.N (ja i))}:=by
 obtain⟨a1,a2⟩:=nt F H;have y:=px W;have L:W.step.mV=[]:=by
  unfold Wd.mV;rw[List.flatMap_eq_nil_iff];intro i _;unfold Wd.uk;rw[a2 i]
  cases W.ac[i]? with
  |none=>rfl
  |some A=>simp[ux]
 have M:W.step.vF=W.N:=by
  unfold Wd.vF Wd.N;rw[y.pl];refine vy λj _=>?_;unfold Wd.ET;rw[a1 j,y.n,y.m]
  cases S:W.pl[j]? with
  |none=>rfl
  |some P=>simp only[bG];rw[aE (H.p P (aR S))]
 have T:∀id,W.step.D W.N id=W.D W.N id:=λid=>by unfold Wd.D Wd.j6;rw[y.ms,y.ac]
 obtain⟨Z,h2⟩:=Ib W.step;rw[M,L,cF]at Z h2;refine⟨by rw[(qw W.step).2.2.1,M,L,cF],λj=>?_,λi=>?_⟩
 .rw[Z j,a1 j,T,y.n,y.m]
  cases S:W.pl[j]? with
  |none=>rfl
  |some P=>
   have hj:=(aj.1 S).1;have a0:W.D W.N (jP W.n W.m j)=[]:=by
    unfold Wd.D;rw[List.filter_eq_nil_iff];intro l V;obtain⟨k,hk,V⟩:=eB.1 V;split at V
    .simp at V
    rename_i P S;obtain⟨e,he,rfl⟩:=aD.1 V;obtain⟨z,hz,Z,_⟩:=wK _ _ _ _ _ _ e he;obtain⟨i,A,_,h2,_⟩:=wZ H.a hz;have h3:=LN i;have h9:W.n*W.m<=9:=rj F.n1.2 F.m1.2;have hv:=F.v1;simp only[bL,ZT,not_and];intro e1;exfalso;have:=F.pl;have:jP W.n W.m j<1000:=by unfold jP;split<;>omega
    omega
   have h:=H.p P (aR S);simp only[bG,aJ];rw[a0];unfold Pl.rest Pl.A;rw[aE h];split<;>rfl
 rw[h2 i,a2 i,T]
 cases hA:W.ac[i]? with
 |none=>rfl
 |some A=>have h:=H.a A (aR hA);simp only[bG,aJ];unfold Ac.gone Ac.A;rw[aE h,aE h];simp only[xC]
theorem Ji(T:Wk W)(H:Up W):Up W.step.step:=by
 obtain⟨_,h1,h2⟩:=KW T H;have M:∀P∈W.step.step.pl,∃(j:Nat) (Q:Pl),Q∈W.pl/\P={Q with part:=(Q.part.N W.n W.m W.v W.ce (W.reqs j)).2,q:=[]}:=λP y=>by
  obtain⟨j,V⟩:=List.mem_iff_getElem?.1 y
  grind
 have S:∀A∈W.step.step.ac,∃(i:Nat) (B:Ac),B∈W.ac/\A={B with X:=B.X.jE.D (W.D W.N (ja i))}:=λP y=>by
  obtain⟨j,V⟩:=List.mem_iff_getElem?.1 y
  grind
 refine⟨λP y=>?_,λA L=>?_,λP y=>?_,λA L=>?_⟩
 .obtain⟨j,Q,F,rfl⟩:=M P y;exact H.p Q F
 .obtain⟨j,Q,F,rfl⟩:=S A L;exact H.a Q F
 .obtain⟨j,Q,F,rfl⟩:=M P y;rfl
 obtain⟨j,Q,F,rfl⟩:=S A L;have:∀(ls:List Le) {X:Cx},mA X->mA (X.D ls):=λls=>by
  induction ls with
  |nil=>intro X h;exact h
  |cons l ls Z=>intro X h;exact Z (h.recv ..)
 exact this _ (H.ln Q F).jE
theorem PS(y:Wk W)(h:Up W)(k:Nat):W.lj (k+2)=if W.mV=[]then(W.step,true)else if W.N=[]then(W.step.step,true)else W.step.step.lj k:=by
 obtain⟨A,_,_⟩:=KW y h;have F:W.iH.iN=W.mV:=by rw[(qw W).2.2.1,zU h,dz]
 show(if W.iH.iN.length=0 then(W.step,true)else if W.step.iH.iN.length=0 then(W.step.step,true)else W.step.step.lj k)=_
 grind
def VV(n:Nat)(v:List Int):Prop:=v=kB (lY (iR n 2) 0)\/v=kB (lY (iR n 2) 1)
def cp(c:jn):Nat:=if c.q.nodes=[]then 0 else if c.q.A.kd=4 then 0 else if c.q.A.kd=2 then 4-c.b else 4
def Cx.mp(X:Cx):Nat:=if X.mv.A.nodes=[]then 0 else if X.mv.A.A.kd=7 then(if X.mv.a.nodes=[]then 3 else 2)else if X.mv.A.A.kd=5 then 1 else 0
def Cx.R(X:Cx):Nat:=(if X.b=0 then 60 else 0)+(if X.A<=0 then 5 else 0)+X.mp+(X.a.map cp).sum
structure VD(X:Cx):Prop where
 c:∀c∈X.a,c.q.mi=false
 p:X.c.mi=false
 s:X.mv.a.mi=false
 v:X.mv.A.mi=false
structure Gq(X X':Cx):Prop where
 a:X.gJ<=X'.gJ
 n:X'.gJ=X.gJ->VD X->VD X'
 p:X'.gJ+X'.R<=X.gJ+X.R
structure CK(e:Int)(c:jn):Prop where
 k:c.kind=1\/c.kind=2\/c.kind=5
 r:c.q.A.kd≠4/\c.q.A.ep<=1
 u:c.kind=5->e=0/\(c.unit=0\/c.unit=1)/\c.q.nodes=[]
structure mB(X:Cx):Prop where
 n:1<=X.n/\X.n<=3
 m:X.m=2/\1<=X.vo
 e:X.b=0\/X.b=1
 t:X.A<=1
 l0:X.b=0->X.lay=iR X.n 2
 l1:X.b=1->∃u,(u=0\/u=1)/\X.lay=lY (iR X.n 2) u
 c:∀c∈X.a,CK X.b c
 pr:X.c.A.ep<=1/\X.c.A.kd≠4
 sl:X.mv.a.A.ep<=1/\X.mv.a.A.kd≠4
 mv:X.mv.A.nodes≠[]->X.b=0/\X.mv.b=1/\X.mv.c=false/\X.gT≠[]/\X.mv.A.A.ep=1
 sn:X.mv.a.nodes≠[]->X.mv.A.nodes≠[]
 a:X.gT=[]->X.b=0->X.a=[]/\X.c.nodes=[]
 va:∀z∈X.mv.A.D,0<z.2.ba->VV X.n z.2.val
 bg:∀z∈X.mv.D,0<z.2.ba->VV X.n z.2.val
 k6:X.mv.A.A.kd=6->(VV X.n X.mv.value\/X.mv.value=[])/\X.mv.A.A.ct.val=X.mv.value
def Gq.refl(X:Cx):Gq X X:=⟨iG,λ_ h=>h,iG⟩
def Gq.H(h:Gq X X')(k:Gq X' X2):Gq X X2:=⟨bt h.a k.a,λe y=>by
 have A:=h.a
 have F:=k.a
 exact k.n C (h.n C y),bt k.p h.p⟩
def Gq.mK(h:X.gJ<X'.gJ)(y:X'.gJ+X'.R<=X.gJ+X.R):Gq X X':=⟨C,λe=>C,y⟩
def Gq.nB(h:X'.gJ=X.gJ)(y:VD X->VD X')(A:X'.R<=X.R):Gq X X':=⟨C,λ_=>y,C⟩
theorem L6:∀{l:List jn},l.Pairwise (λc d=>c.gL<d.gL)->c∈l->c'.gL=c.gL->((l.map λd=>if d.gL=c'.gL then c' else d).map cp).sum+cp c=(l.map cp).sum+cp c'
 |[],_,h,_=>absurd h bz
 |d::l,F,h,y=>by
  obtain⟨A,H⟩:=cI.1 F;by_cases e:d.gL=c'.gL
  .have L:d=c:=by
    obtain rfl|h:=bh.1 h
    .rfl
    have:=A c h;omega
   subst L;have T:(l.map λd=>if d.gL=c'.gL then c' else d)=l:=by
    conv=>rhs;rw[<-eI l]
    refine bf λx M=>?_;have:=A x M;rw[az C];rfl
   grind
  have S:c∈l:=by
   obtain rfl|h:=bh.1 h
   .exact absurd y.symm e
   exact h
  have V:=L6 H S y;rw[bj,az e,bj,List.sum_cons,bj,List.sum_cons];omega
theorem zP(f:jn->Bool):∀l:List jn,((l.filter f).map cp).sum<=(l.map cp).sum
 |[]=>jr
 |d::l=>by
  have:=zP f l
  grind
def Y2(c:jn):cp c<=4:=by unfold cp;(repeat' split)<;>omega
theorem Km:∀l:List jn,(l.map cp).sum<=4*l.length
 |[]=>jr
 |d::l=>by
  have:=Km l;have:=Y2 d
  grind
def VL(X:Cx):X.mp<=3:=by unfold Cx.mp;(repeat' split)<;>omega
def Ux(X:Cx):VD X.jE:=⟨λc h=>by
 obtain⟨d,_,rfl⟩:=aD.1 (show c∈X.a.map λ(c:jn)=>{c with q:=c.q.jE}from h)
 rfl,rfl,rfl,rfl⟩
def TJ(h:VD X):X.iH=[]:=by
 have y:∀{α:Type} (q:Qn α),q.mi=false->q.iH=[]:=λq h=>by unfold Qn.iH;rw[h];rfl
 unfold Cx.iH;rw[y _ h.p,y _ h.s,y _ h.v,cF,cF,cF,List.flatMap_eq_nil_iff];exact λc A=>y _ (h.c c A)
theorem nD(F:X.a.Pairwise λc d=>c.gL<d.gL)(H:c∈X.a)(L:c'.gL=c.gL)(Z:c'.kind=c.kind)(h3:c'.unit=c.unit):(X.put c').gT=X.gT:=by
 unfold Cx.gT;show((X.a.map λd=>if d.gL=c'.gL then c' else d).filter λc=>c.kind==5).map (·.unit)=_;have h:∀l:List jn,(∀d∈l,d.gL=c'.gL->d=c)->((l.map λd=>if d.gL=c'.gL then c' else d).filter λc=>c.kind==5).map (·.unit)=(l.filter λc=>c.kind==5).map (·.unit):=λl=>by
  induction l with
  |nil=>intro _;rfl
  |cons d l M=>grind
 refine h X.a λd S e=>?_;have T:∀{l:List jn},l.Pairwise (λc d=>c.gL<d.gL)->∀x∈l,∀y∈l,x.gL=y.gL->x=y:=fun{l}=>by
  induction l with
  |nil=>intro _ x A;simp at A
  |cons a l M=>
   intro V x A y hy e;obtain⟨p1,p2⟩:=cI.1 V
   grind
 exact T F d S c H (e.H L)
theorem mB.put(h:mB X)(F:X.a.Pairwise λc d=>c.gL<d.gL)(H:c∈X.a)(L:c'.gL=c.gL)(M:c'.kind=c.kind)(S:c'.unit=c.unit)(T:CK X.b c'){a:Int}:mB ({X with gJ:=a}.put c'):=by
 have y:=nD (X:={X with gJ:=a}) F H L M S;refine⟨h.n,h.m,h.e,h.t,h.l0,h.l1,λd A=>?_,h.pr,h.sl,λe=>?_,h.sn,λe e'=>?_,h.va,h.bg,h.k6⟩
 .obtain rfl|⟨A,_⟩:=jV A
  .exact T
  exact h.c d A
 .have:=h.mv e;rw[y];exact this
 rw[y]at e;obtain⟨p,_⟩:=h.a e e'
 grind
theorem mB.fin(h:mB X)(M:c∈X.a)(S:c.kind≠5)(T:X.a.Pairwise λc d=>c.gL<d.gL)(r:Rz)(c':jn)(V:c'.gL=c.gL):mB (X.fin c' r):=by
 have A:(X.fin c' r).gT=X.gT:=by
  show((X.a.filter λd=>d.gL !=c'.gL).filter λc=>c.kind==5).map (·.unit)=_;congr 1;rw[List.filter_filter];refine dH λd F=>?_;by_cases e:d.kind=5
  .have:d.gL≠c'.gL:=λZ=>by
    have hu:∀{l:List jn},l.Pairwise (λc d=>c.gL<d.gL)->∀x∈l,∀y∈l,x.gL=y.gL->x=y:=fun{l}=>by
     induction l with
     |nil=>intro _ x H;simp at H
     |cons a l ih=>
      intro L x H y hy e;obtain⟨p1,p2⟩:=cI.1 L
      grind
    grind
   simp[this]
  simp[e]
 refine⟨h.n,h.m,h.e,h.t,h.l0,h.l1,λd F=>h.c d (aU.1 (show d∈X.a.filter λd=>d.gL !=c'.gL from F)).1,h.pr,h.sl,λe=>?_,h.sn,λe e'=>?_,h.va,h.bg,h.k6⟩
 .have:=h.mv e;rw[A];exact this
 rw[A]at e;obtain⟨p,_⟩:=h.a e e'
 grind
abbrev Pq(X X':Cx):Prop:=mB X'/\Gq X X'
def ye(n:Nat)(y:1<=n/\n<=3)(u:Int)(h:u=0\/u=1):within (iR n 2) (kB (lY (iR n 2) u))=some (lY (iR n 2) u)/\∃r,(lY (iR n 2) u).getD 0 []=[1-u]/\lY (iR n 2) u=[1-u]::r:=by have:n=1\/n=2\/n=3:=C;obtain rfl|rfl|rfl:=this<;>obtain rfl|rfl:=h<;>exact⟨rfl,_,bT,rfl⟩
def AP(n:Nat)(h:1<=n/\n<=3):within (iR n 2) []=none:=by have:n=1\/n=2\/n=3:=C;obtain rfl|rfl|rfl:=this<;>decide
def Cg(n:Nat):∀ch∈iR n 2,ch.length<=2:=λch h=>by obtain⟨k,_,rfl⟩:=aD.1 h;simp
theorem mB.chain(h:mB X)(a:Int):(X.chain a).length<=2:=by
 have y:∀ch∈X.lay,ch.length<=2:=by
  obtain e|e:=h.e
  .rw[h.l0 e];exact Cg _
  obtain⟨u,_,y⟩:=h.l1 e;rw[y];intro ch A;obtain⟨d,F,rfl⟩:=aD.1 A;exact aF (bF _ _) (Cg _ d F)
 unfold Cx.chain
 grind
structure Fo(X Z:Cx)(l:List jn):Prop where
 s:Z.n=X.n/\Z.m=X.m/\Z.vo=X.vo
 e:Z.b=1
 ly:Z.lay=X.lay
 t:Z.A=X.A
 p:Z.c=X.c
 mv:Z.mv=X.mv
 a:X.gJ<=Z.gJ/\Z.gJ+l.length<=X.gJ+X.a.length
 pl:Z.a.length<=X.a.length
 nd:Z.gJ=X.gJ->VD X->VD Z
 c:∀d∈Z.a,(d.kind=1\/d.kind=2\/d.kind=5)/\(d.q.A.kd≠4/\d.q.A.ep<=1)/\(d.kind=5->∃c∈l,c.gL=d.gL/\c.kind=5)
def SW{l:List jn}{Z:Cx}(hm:X.m=2)(hl:X.lay.getD 0 []=[1-u])(hc:(c.kind=1\/c.kind=2\/c.kind=5)/\(c.kind=5->c.unit=0\/c.unit=1))(h:Fo X Z (c::l)):Fo X (Z.kA c) l:=by
 have a0:=h.a;simp only[df]at a0;have F:∀r,c.kind=5->Fo X (Z.fin c r) l:=λr y=>by
  refine⟨h.s,h.e,h.ly,h.t,h.p,h.mv,⟨h.a.1,by show Z.gJ+_<=_;omega⟩,aF (bF _ _) h.pl,λe hn=>?_,λd A=>?_⟩
  .have:=h.nd e hn;exact⟨λd A=>this.c d (aU.1 A).1,this.p,this.s,this.v⟩
  obtain⟨A,L⟩:=aU.1 (show d∈Z.a.filter λd=>d.gL !=c.gL from A);obtain⟨h1,h2,h3⟩:=h.c d A;refine⟨h1,h2,λe=>?_⟩;obtain⟨x,hx,S,T⟩:=h3 e;obtain rfl|hx:=bh.1 hx
  .simp at L;exact absurd S.symm L
  exact⟨x,hx,S,T⟩
 have H:∀(c':jn) (nodes:List Int) (kd pl:Int) (t:Ct),c'.gL=c.gL->c'.kind=c.kind->c.kind≠5->kd≠4->Fo X (Z.mK c' nodes kd pl t) l:=λc' nodes kd pl t h1 h2 y h4=>by
  refine⟨h.s,h.e,h.ly,h.t,h.p,h.mv,⟨by show X.gJ<=Z.gJ+1;omega,by show Z.gJ+1+_<=_;omega⟩,by show(Z.a.map _).length<=_;rw[ay];exact h.pl,λe=>by have e':Z.gJ+1=X.gJ:=e;omega,λd A=>?_⟩;obtain rfl|⟨A,L⟩:=jV A
  .exact⟨jf h2 hc.1,⟨h4,by show Z.b<=1;rw[h.e];omega⟩,λe=>absurd (h2.symm.H e) y⟩
  obtain⟨S,T,g3⟩:=h.c d A;refine⟨S,T,λe=>?_⟩;obtain⟨x,hx,y1,V⟩:=g3 e;obtain rfl|hx:=bh.1 hx
  .exact absurd V y
  exact⟨x,hx,y1,V⟩
 have M:c.kind≠5->Fo X Z l:=λy=>⟨h.s,h.e,h.ly,h.t,h.p,h.mv,⟨h.a.1,C⟩,h.pl,h.nd,λd A=>by
  obtain⟨S,T,g3⟩:=h.c d A
  refine⟨S,T,λe=>?_⟩
  obtain⟨x,hx,y1,V⟩:=g3 e
  obtain rfl|hx:=bh.1 hx
  .exact absurd V y
  .exact⟨x,hx,y1,V⟩⟩
 unfold Cx.kA;by_cases y:c.kind=5
 .rw[aE y];have hi:(c.unit/Z.m).toNat=0:=by rw[h.s.2.1,hm];obtain e|e:=hc.2 y<;>rw[e]<;>rfl
  unfold Cx.ku;rw[hi,h.ly,hl];split
  .rw[aE (show [1-u].length=1 from rfl)];exact F _ y
  exact F _ y
 rw[az y];split
 .exact M y
 unfold Cx.dO;obtain e|e|e:=hc.1
 .rw[aE e];exact H _ _ _ _ _ rfl rfl y bT
 .rw[az C,aE e];exact H _ _ _ _ _ rfl rfl y bT
 exact absurd e y
theorem FP(y:X.m=2)(A:X.lay.getD 0 []=[1-u]):∀(l:List jn) {Z:Cx},(∀c∈l,(c.kind=1\/c.kind=2\/c.kind=5)/\(c.kind=5->c.unit=0\/c.unit=1))->Fo X Z l->Fo X (l.foldl Cx.kA Z) []
 |[],_,_,h=>h
 |c::l,_,F,h=>FP y A l (λd H=>F d (aX _ H)) (SW y A (F c (aN ..)) h)
def mB.kX(h:mB X)(a7:X.a.length<=8)(he:X.b=0)(hm:X.mv.b=1)(v:List Int)(hv:VV X.n v\/v=[]):Pq X (X.kX v):=by
 have a5:60<=X.R:=by unfold Cx.R;rw[aE he];omega
 unfold Cx.kX;rw[h.l0 he];obtain hv|rfl:=hv
 .obtain⟨u,hu,rfl⟩:∃u,(u=0\/u=1)/\v=kB (lY (iR X.n 2) u):=by
   obtain e|e:=hv
   .exact⟨0,.inl rfl,e⟩
   exact⟨1,.inr rfl,e⟩
  obtain⟨w1,r,w2,w3⟩:=ye X.n h.n u hu;rw[w1];dsimp only;rw[hm];obtain⟨Y,F⟩:=gG ({X with b:=1,lay:=lY (iR X.n 2) u,mv:=Mv.zero,wb:=false,wl:=false}:Cx);have H:Y.a=X.a:=by rw[<-F]
  have y:=FP (X:=Y) (by rw[<-F];exact h.m.1) (j9 F w2) Y.a (Z:=Y) (λc hc=>by
   rw[H]at hc
   exact⟨(h.c c hc).k,λe=>((h.c c hc).u e).2.1⟩) ⟨⟨rfl,rfl,rfl⟩,by rw[<-F],rfl,rfl,rfl,rfl,⟨iG,iG⟩,jr,λ_ h=>h,λd S=>by
    have M:=S
    rw[H]at M
    exact⟨(h.c d M).k,(h.c d M).r,λe=>⟨d,S,rfl,e⟩⟩⟩
  have a0:∀Z:Cx,Fo Y Z []->Pq X (if(Z.iJ||decide (Z.b<Z.A))=true then Z.iB else Z):= ?_
  .subst F;exact a0 _ y
  clear y;intro Z y;have a1:Z.gT=[]:=by unfold Cx.gT;rw[List.map_eq_nil_iff,List.filter_eq_nil_iff];intro d S e;obtain⟨x,hx,_⟩:=(y.c d S).2.2 (je e);simp at hx
  have T:Y.A=X.A:=by rw[<-F]
  have a2:Y.mv=Mv.zero:=by rw[<-F]
  have V:Y.gJ=X.gJ:=by rw[<-F]
  have a3:¬(Z.iJ||decide (Z.b<Z.A))=true:=by unfold Cx.iJ;rw[a1,y.e,y.t,T];have:=h.t;simp;omega
  rw[az a3];have A:Z.mv=Mv.zero:=y.mv.H a2;have ha:=y.a;simp only[dA,V,H]at ha;have a6:=Km Z.a;have a4:=y.pl;rw[H]at a4;refine⟨⟨by rw[y.s.1,<-F];exact h.n,by rw[y.s.2.1,y.s.2.2,<-F];exact h.m,.inr y.e,by rw[y.t,T];exact h.t,λe=>absurd (y.e.symm.H e) bT,λ_=>⟨u,hu,by rw[y.ly,y.s.1,<-F]⟩,λd S=>?_,by rw[y.p,<-F];exact h.pr,qH A,λe=>absurd (by rw[A];rfl) e,λe=>absurd (by rw[A];rfl) e,λ_ e=>absurd (y.e.symm.H e) bT,λz L=>?_,λz L=>?_,λe=>?_⟩,C,λe hn=>?_,?_⟩
  .obtain⟨g1,g2,g3⟩:=y.c d S;exact⟨g1,g2,λe=>by obtain⟨x,hx,_⟩:=g3 e;simp at hx⟩
  .rw[A]at L;exact absurd L (by simp[Mv.zero,Qn.zero])
  .rw[A]at L;exact absurd L (by simp[Mv.zero])
  .rw[A]at e;exact absurd e bT
  .refine y.nd (e.H V.symm) ?_;rw[<-F];exact⟨hn.c,hn.p,rfl,rfl⟩
  have h1:Z.R<=5+4*Z.a.length:=by unfold Cx.R Cx.mp;rw[A,y.e,az bT,aE (show Mv.zero.A.nodes=[]from rfl)];split<;>omega
  omega
 rw[AP X.n h.n];refine⟨⟨h.n,h.m,h.e,h.t,λ_=>rfl,λe=>absurd (he.symm.H e) bT,h.c,h.pr,(by decide:(0:Int)<=1/\(0:Int)≠4),λe=>absurd rfl e,λe=>absurd rfl e,h.a,λz L=>absurd L (by simp[Mv.zero,Qn.zero]),λz L=>absurd L (by simp[Mv.zero]),λe=>absurd (show(0:Int)=6 from e) bT⟩,Gq.nB rfl (λhn=>⟨hn.c,hn.p,rfl,rfl⟩) ?_⟩;show(if X.b=0 then 60 else 0)+(if X.A<=0 then 5 else 0)+0+(X.a.map cp).sum<=(if X.b=0 then 60 else 0)+(if X.A<=0 then 5 else 0)+X.mp+(X.a.map cp).sum;omega
theorem mB.iB(h:mB X)(F:X.b=0)(H:X.gT≠[]):mB X.iB/\X.iB.gJ=X.gJ+1/\X.iB.R<=X.R+3/\(X.iB.mv.A.A.kd=7/\X.iB.mv.A.nodes=X.kE/\X.iB.mv.a=Qn.zero/\X.iB.mv.D=[]/\X.iB.mv.A.D=[]/\X.iB.mv.b=1):=by
 have M:=h.t;have L:max (X.b+1) (X.A-1)=1:=qD F;have y:=L;refine⟨⟨h.n,h.m,h.e,h.t,h.l0,h.l1,h.c,h.pr,(by decide:(0:Int)<=1/\(0:Int)≠4),λ_=>⟨F,y,?_,H,y⟩,λe=>absurd rfl e,h.a,λz A=>absurd A (by simp[Cx.iB,Cx.kh,Qn.new]),λz A=>absurd A (by simp[Cx.iB,Cx.kh,Mv.zero]),λe=>absurd (show(7:Int)=6 from e) bT⟩,rfl,?_,rfl,rfl,rfl,rfl,rfl,y⟩
 .show decide _=false
  grind
 have:X.iB.mp<=3:=VL _;unfold Cx.R;show(if X.b=0 then 60 else 0)+(if X.A<=0 then 5 else 0)+X.iB.mp+(X.a.map cp).sum<=_;omega
def mB.A(h:mB X)(y:e<=1):mB {X with A:=e}:=⟨h.n,h.m,h.e,y,h.l0,h.l1,h.c,h.pr,h.sl,h.mv,h.sn,h.a,h.va,h.bg,h.k6⟩
theorem mB.gR(h:mB X)(Z:0<=X.A)(T:X.b=0->X.gT≠[])(H:e<=1):Pq X (X.gR e)/\(X.mv.A.nodes≠[]->X.gR e=X\/X.gR e={X with A:=e}):=by
 unfold Cx.gR;by_cases L:e<=X.b\/e<=X.A
 .rw[aE L];exact⟨⟨h,Gq.refl X⟩,λ_=>.inl rfl⟩
 rw[az L];have M:X.b=0:=by obtain e'|e':=h.e<;>omega
 have F:∀Y:Cx,Y.b=X.b->Y.A=e->Y.mp=X.mp->Y.a=X.a->Y.R+5=X.R:=λY y1 y2 y3 y4=>by
  unfold Cx.R
  grind
 have hb:=F {X with A:=e} rfl rfl rfl rfl;by_cases S:X.mv.b<e
 .rw[aE S];obtain⟨V,s2,s3,_⟩:=(h.A H).iB M (T M);refine⟨⟨V,Gq.mK (by grind) ?_⟩,λy=>?_⟩
  .grind
  have:=(h.mv y).2.1;omega
 rw[az S];exact⟨⟨h.A H,Gq.nB rfl (λy=>⟨y.c,y.p,y.s,y.v⟩) C⟩,λ_=>.inr rfl⟩
theorem ti{l:List (Int×Vo)}(h:∀z∈l,0<z.2.ba->VV n z.2.val)(y:0<(jC l).1):VV n (jC l).2:=by obtain e|⟨z,A,e⟩:=oB l;all_goals grind
theorem yH(h:mB X)(H:X.b=0)(V:X.gT≠[])(A:X.jN=some v):VV X.n v:=by
 unfold Cx.jN at A;split at A
 .rename_i L
  cases A;exact ti (λz M=>h.bg z ((pY X _).subset M)) L
 obtain⟨l,y,rfl⟩:=bN.1 A;unfold Cx.next at y;rw[az (by grind)]at y;obtain⟨S,T,y⟩:=wC y;unfold qj at y;split at y
 .cases y;obtain⟨d,F,rfl⟩:=aD.1 T;obtain⟨F,Z⟩:=aU.1 F;have:=((h.c d F).u (by grind)).2.1;rw[h.l0 H];obtain e|e:=this
  .rw[e];exact .inl rfl
  rw[e];exact .inr rfl
 grind
def mB.kE(h:mB X)(F:X.mv.A.nodes≠[])(kd pl b H:Int)(val y:List Int)(L:kd=6->(VV X.n y\/y=[])/\val=y):mB (({X with M:=H,mv:={X.mv with M:=b,value:=y}}:Cx).kh kd pl val):=by obtain⟨S,A,T,V,m5⟩:=h.mv F;exact⟨h.n,h.m,h.e,h.t,h.l0,h.l1,h.c,h.pr,h.sl,λ_=>⟨S,A,T,V,A⟩,λ_=>mI h.m.2,h.a,λz Z=>absurd Z (by simp[Cx.kh,Qn.new]),h.bg,λe=>L e⟩
theorem J5(Y:Cx)(y:Y.b=X.b)(A:Y.A=X.A)(F:Y.a=X.a)(d:Nat)(h:Y.mp+d<=X.mp):Y.R+d<=X.R:=by
 unfold Cx.R
 grind
def Gq.Xf(h:Y.gJ=X.gJ+1)(y:Y.R+1<=X.R):Gq X Y:=Gq.mK C C
theorem Zo(Y:Cx)(h:Y.mv.A.A.kd=5):Y.mp<=1:=by
 unfold Cx.mp
 grind
theorem Zf(Y:Cx)(h:Y.mv.A.A.kd=6):Y.mp=0:=by
 unfold Cx.mp
 grind
theorem Es:∀(l:List (Int×Vo)) (s:Int×List Int),s.1<=(l.foldl (λb z=>pR b z.2) s).1
 |[],s=>iG
 |z::l,s=>by
  refine bt ?_ (Es l (pR s z.2));unfold pR;split
  .rename_i h;simp only[eV,ZX,bL,ZT]at h;show s.1<=z.2.ba;omega
  exact iG
def mB.jS(h:mB X)(y:X.mv.A.nodes≠[])(A:X.mv.a.nodes≠[])(F:X.mv.A.A.kd=7):Pq X X.jS:=by
 unfold Cx.jS;split
 .exact⟨h,Gq.refl X⟩
 refine⟨h.kE y 5 _ _ _ [] X.mv.value λe=>absurd e bz,Gq.Xf rfl ?_⟩;refine J5 _ ?_ ?_ ?_ 1 ?_
 .rfl
 .rfl
 .rfl
 have H:X.mp=2:=by unfold Cx.mp;rw[az y,aE F,az A]
 rw[H];exact Nat.succ_le_succ (Zo _ rfl)
theorem mB.jB(h:mB X)(A:X.mv.A.nodes≠[])(M:X.mv.A.A.kd=5):Pq X X.jB:=by
 obtain⟨S,m2,m3,T,m5⟩:=h.mv A;unfold Cx.jB;dsimp only;split
 .exact⟨h,Gq.refl X⟩
 have F:VV X.n (if(jC (X.lG (kQ X.mv.A.D))).1=0 then X.jN.getD []else(jC (X.lG (kQ X.mv.A.D))).2)\/(if(jC (X.lG (kQ X.mv.A.D))).1=0 then X.jN.getD []else(jC (X.lG (kQ X.mv.A.D))).2)=[]:=by
  split
  .cases V:X.jN with
   |none=>exact .inr rfl
   |some v=>exact .inl (yH h S T V)
  rename_i H;left;have y:∀z∈X.lG (kQ X.mv.A.D),0<z.2.ba->VV X.n z.2.val:=λz L=>h.va z ((aU.1 ((pY X _).subset L)).1);obtain e|⟨z,L,e⟩:=oB _
  .rw[e]at H;exact absurd rfl H
  have:=Es (X.lG (kQ X.mv.A.D)) (0,[]);exact ti y (by show 0<(jC _).1;have h2:0<=(jC _).1:=this;omega)
 generalize (if(jC (X.lG _)).1=0 then X.jN.getD []else(jC _).2)=val at F;refine⟨h.kE A 6 X.mv.M X.mv.M X.M val val λ_=>⟨F,rfl⟩,Gq.Xf rfl ?_⟩;refine J5 (X:=X) _ ?_ ?_ ?_ 1 ?_
 .rfl
 .rfl
 .rfl
 have Z:X.mp=1:=by unfold Cx.mp;rw[az A,az C,aE M]
 rw[Z];exact Nat.succ_le_succ (cY (Zf _ rfl))
def mB.jM(h:mB X)(L:X.mv.A.nodes≠[])(h7:X.mv.A.A.kd=7):Pq X X.jM:=by
 obtain⟨m1,m2,m3,m4,m5⟩:=h.mv L;unfold Cx.jM;have Z:X.iJ=true:=by unfold Cx.iJ;simpa using m4
 rw[az (om Z)];dsimp only;have y:mB {X with wb:=true,mv:={X.mv with D:=X.mv.A.D}}:=⟨h.n,h.m,h.e,h.t,h.l0,h.l1,h.c,h.pr,h.sl,h.mv,h.sn,h.a,h.va,h.va,h.k6⟩;have gY:Gq X {X with wb:=true,mv:={X.mv with D:=X.mv.A.D}}:=Gq.nB rfl (λL=>⟨L.c,L.p,L.s,L.v⟩) jr;split
 .rename_i hs;have M:X.mv.a.nodes≠[]:=by have:X.mv.a.N=true:=hs;unfold Qn.N at this;simpa using this
  obtain⟨p1,p2⟩:=y.jS L M h7;exact⟨p1,gY.H p2⟩
 rename_i hs;have M:X.mv.a.nodes=[]:=by have:¬X.mv.a.N=true:=hs;unfold Qn.N at this;simpa using this
 obtain⟨Y,F⟩:=gG ({X with wb:=true,mv:={X.mv with D:=X.mv.A.D}}:Cx);rw[F]at y gY|-;have A:Y.mv.A.nodes≠[]:=j9 F L;have S:Y.mv.A.A.kd=7:=j9 F h7;have a0:Y.mv.a.nodes=[]:=j9 F M;have T:=(y.mv A);have V:kB Y.lay≠[]:=by
  rw[y.l0 T.1];have:Y.n=1\/Y.n=2\/Y.n=3:=by have:=y.n;omega
  obtain e|e|e:=this<;>rw[e]<;>decide
 have s1:mB Y.oF:=⟨y.n,y.m,y.e,y.t,y.l0,y.l1,y.c,y.pr,⟨by show Y.mv.b<=1;rw[T.2.1];omega,(by decide:(1:Int)≠4)⟩,y.mv,λ_=>A,y.a,y.va,y.bg,y.k6⟩;have g1:Gq Y Y.oF:=by
  refine Gq.mK (by show Y.gJ<Y.gJ+1;omega) ?_;have:=J5 (X:=Y) Y.oF rfl rfl rfl 1 (by
   have e1:Y.mp=3:=by unfold Cx.mp;rw[az A,aE S,aE a0]
   have e2:Y.oF.mp=2:=by unfold Cx.mp;rw[az (show¬Y.oF.mv.A.nodes=[]from A),aE (show Y.oF.mv.A.A.kd=7 from S),az (show¬Y.oF.mv.a.nodes=[]from V)]
   omega)
  show Y.gJ+1+_<=_;omega
 obtain⟨p1,p2⟩:=s1.jS A V S;exact⟨p1,(gY.H g1).H p2⟩
def xJ{l:List (Int×Vo)}(h:∀z∈l,0<z.2.ba->VV n z.2.val)(y:0<(qE l k).1):VV n (qE l k).2:=
 ti (λz A=>h z (aU.1 A).1) y
def mB.kr(h:mB X)(y:X.a.length<=8)(A:X.mv.A.nodes≠[])(F:X.mv.A.A.kd=7):Pq X X.kr:=by
 obtain⟨H,L,M,T,V⟩:=h.mv A;unfold Cx.kr;dsimp only;rw[M];split
 .rename_i S;exact h.kX y H L _ (.inl (xJ h.va S))
 split
 .exact⟨h,Gq.refl X⟩
 exact h.jM A F
def mB.kx(h:mB X)(y:X.a.length<=8)(A:X.mv.A.nodes≠[])(F:X.mv.A.A.kd=6):Pq X X.kx:=by
 obtain⟨H,L,M,S,T⟩:=h.mv A;unfold Cx.kx;split
 .exact h.kX y H L _ (h.k6 F).1
 exact⟨h,Gq.refl X⟩
def mB.ld(h:mB X)(y:X.mv.a.nodes≠[]):Pq X X.ld:=by
 have A:=h.sn y;unfold Cx.ld;split
 .rename_i F;exact h.jS A y F
 split
 .rename_i H;exact h.jB A H
 exact⟨h,Gq.refl X⟩
def mB.kK(h:mB X)(a0:X.a.length<=8)(h0:0<=X.A)(fr nr M:Int)(v:Vo)(hl:M<=1)(hv:0<v.ba->VV X.n v.val):Pq X (X.kK fr nr M v):=by
 unfold Cx.kK;split
 .rename_i ha;have F:X.mv.A.nodes≠[]:=bM (Qn.jL.1 ha).2.1;obtain⟨m1,m2,m3,m4,m5⟩:=h.mv F;obtain⟨⟨b1,b2⟩,b3⟩:=h.gR h0 (λ_=>m4) hl;have y:(X.gR M).mv=X.mv/\(X.gR M).a=X.a/\(X.gR M).n=X.n:=by obtain e|e:=b3 F<;>rw[e]<;>exact⟨rfl,rfl,rfl⟩
  generalize X.gR M=Y at b1 b2 y;dsimp only;rw[aE (jf y.1 ha)];have L:Y.mv.A.nodes≠[]:=jf y.1 F;have S:∀z∈Y.mv.A.D++[(fr,v)],0<z.2.ba->VV Y.n z.2.val:=λz hz=>by
   obtain hz|hz:=aT.1 hz
   .exact b1.va z hz
   rw[cw.1 hz,y.2.2];exact hv
  obtain⟨B,hB⟩:=gG (if Y.mv.A.A.kd=7/\Y.mv.D≠[]then Y.mv.A.D++[(fr,v)]else Y.mv.D);have a1:∀z∈B,0<z.2.ba->VV Y.n z.2.val:=by
   rw[<-hB];split
   .exact S
   exact b1.bg
  rw[hB];have Z:mB {Y with mv:={Y.mv with A:=Y.mv.A.add fr v,D:=B}}:=⟨b1.n,b1.m,b1.e,b1.t,b1.l0,b1.l1,b1.c,b1.pr,b1.sl,b1.mv,b1.sn,b1.a,S,a1,b1.k6⟩;have gZ:Gq X {Y with mv:={Y.mv with A:=Y.mv.A.add fr v,D:=B}}:=b2.H (Gq.nB rfl (λF=>⟨F.c,F.p,F.s,F.v⟩) jr);have H:Y.a.length<=8:=jf y.2.1 a0;split
  .rename_i h7;obtain⟨T,V⟩:=Z.kr H L h7;exact⟨T,gZ.H V⟩
  split
  .rename_i h5;obtain⟨T,V⟩:=Z.jB L h5;exact⟨T,gZ.H V⟩
  split
  .rename_i h6;obtain⟨T,V⟩:=Z.kx H L h6;exact⟨T,gZ.H V⟩
  exact⟨Z,gZ⟩
 exact⟨h,Gq.refl X⟩
theorem EK(h:X.a.Pairwise λc d=>c.gL<d.gL)(c':jn):(X.put c').a.Pairwise λc d=>c.gL<d.gL:=by
 show(X.a.map λd=>if d.gL=c'.gL then c' else d).Pairwise _
 grind
def LH(h:X.a.Pairwise λc d=>c.gL<d.gL)(y:c∈X.a)(A:c'.gL=c.gL)(a:Int):({X with gJ:=a}.put c').R+cp c=X.R+cp c':=by have:=L6 h y A;unfold Cx.R;show(if X.b=0 then 60 else 0)+(if X.A<=0 then 5 else 0)+X.mp+((X.a.map λd=>if d.gL=c'.gL then c' else d).map cp).sum+cp c=_;omega
def mB.mK(h:mB X)(F:X.a.Pairwise λc d=>c.gL<d.gL)(y:c∈X.a)(L:c.kind≠5)(H:c'.gL=c.gL)(A:c'.kind=c.kind)(M:c'.unit=c.unit)(nodes:List Int)(kd pl:Int)(t:Ct)(S:kd≠4)(T:cp {c' with q:=Qn.new nodes ⟨kd,c'.a,X.gJ+1,X.b,pl,t⟩}+1<=cp c):Pq X (X.mK c' nodes kd pl t):=by
 have V:X.b<=1:=by obtain e|e:=h.e<;>rw[e]<;>decide
 refine⟨h.put (c':={c' with q:=Qn.new nodes ⟨kd,c'.a,X.gJ+1,X.b,pl,t⟩}) F y H A M ⟨by show c'.kind=1\/_;rw[A];exact(h.c c y).k,⟨S,V⟩,λe=>absurd (A.symm.H e) L⟩,Gq.Xf rfl ?_⟩;have:=LH F y (c':={c' with q:=Qn.new nodes ⟨kd,c'.a,X.gJ+1,X.b,pl,t⟩}) H (X.gJ+1);show(Cx.put {X with gJ:=X.gJ+1} {c' with q:=Qn.new nodes ⟨kd,c'.a,X.gJ+1,X.b,pl,t⟩}).R+1<=_;omega
def mB.WS(h:mB X)(H:X.a.Pairwise λc d=>c.gL<d.gL)(F:c∈X.a)(L:c'.gL=c.gL)(M:c'.kind=c.kind)(S:c'.unit=c.unit)(T:CK X.b c')(V:c.q.mi=false->c'.q.mi=false)(Z:cp c'<=cp c):Pq X (X.put c'):=by
 refine⟨h.put H F L M S T,Gq.nB rfl (λA=>⟨λd y=>?_,A.p,A.s,A.v⟩) ?_⟩
 .obtain rfl|⟨y,_⟩:=jV y
  .exact V (A.c c F)
  exact A.c d y
 have e:(X.put c').R+cp c=X.R+cp c':=LH H F L X.gJ;omega
def mB.Yf(h:mB X)(A:X.a.Pairwise λc d=>c.gL<d.gL)(F:c∈X.a)(H:c.kind≠5)(L:c'.gL=c.gL)(r:Rz):Pq X (X.fin c' r):=by refine⟨h.fin F H A r c' L,Gq.nB rfl (λy=>⟨λd M=>y.c d (aU.1 M).1,y.p,y.s,y.v⟩) ?_⟩;have:=zP (λd=>d.gL !=c'.gL) X.a;show(if X.b=0 then 60 else 0)+(if X.A<=0 then 5 else 0)+X.mp+((X.a.filter λd=>d.gL !=c'.gL).map cp).sum<=_+_+X.mp+(X.a.map cp).sum;omega
def mB.along(h:mB X)(y:X.a.Pairwise λc d=>c.gL<d.gL)(A:c∈X.a)(F:c.kind≠5)(H:c'.gL=c.gL)(L:c'.kind=c.kind)(M:c'.unit=c.unit)(S:c'.b=c.b)(T:c.q.nodes≠[])(V:c.q.A.kd=2):Pq X (X.kg c'):=by
 unfold Cx.kg;split
 .have hl:=h.chain c'.iA;refine h.mK y A F (c':={c' with b:=c'.b+1}) H L M _ 2 _ _ bz ?_;have Z:cp c=4-c.b:=by unfold cp;rw[az T,az C,aE V]
  rw[Z,<-S];show 4-(c'.b+1)+1<=4-c'.b;omega
 exact h.Yf y A F H _
def mB.oe(h:mB X)(H:X.a.Pairwise λc d=>c.gL<d.gL)(F:c∈X.a)(M:c.q.nodes≠[]){A:An}:Pq X (X.oe c A):=by
 have S:=h.c c F;have L:c.kind≠5:=λe=>M (S.u e).2.2;unfold Cx.oe Cx.nV Cx.oy Cx.pO;have y:=h.WS H F rfl rfl rfl S (λe=>e) jr;split
 .repeat' split
  all_goals first|exact y|exact h.Yf H F L rfl _
 split
 .rename_i T;split
  .exact h.along H F L rfl rfl rfl rfl M T
  split
  .split
   .exact h.WS H F (c':={c with q:=Qn.zero}) rfl rfl rfl ⟨S.k,⟨(by decide:(0:Int)≠4),(by decide:(0:Int)<=1)⟩,λe=>absurd e L⟩ (λ_=>rfl) jR
   exact h.along H F L (c':={c with d:=A.ct}) rfl rfl rfl rfl M T
  exact y
 exact y
def mB.jJ(h:mB X)(hn:X.a.Pairwise λc d=>c.gL<d.gL)(M:0<=X.A)(fr S:Int)(A:An)(T:A.ep<=1):Pq X (X.jJ fr S A):=by
 unfold Cx.jJ;split
 .rename_i H;have y:X.c.nodes≠[]:=bM (Qn.jL.1 H).2.1;split
  .exact(h.gR M (λe e'=>y (h.a e' e).2) T).1
  exact⟨⟨h.n,h.m,h.e,h.t,h.l0,h.l1,h.c,h.pr,h.sl,h.mv,h.sn,h.a,h.va,h.bg,h.k6⟩,Gq.nB rfl (λF=>⟨F.c,F.p,F.s,F.v⟩) jr⟩
 split
 .rename_i H;have y:X.mv.a.nodes≠[]:=bM (Qn.jL.1 H).2.1;split
  .exact(h.gR M (λ_=>(h.mv (h.sn y)).2.2.2.1) T).1
  have hZ:mB {X with mv:={X.mv with a:=X.mv.a.add fr A}}:=⟨h.n,h.m,h.e,h.t,h.l0,h.l1,h.c,h.pr,h.sl,h.mv,h.sn,h.a,h.va,h.bg,h.k6⟩;have gZ:Gq X {X with mv:={X.mv with a:=X.mv.a.add fr A}}:=Gq.nB rfl (λF=>⟨F.c,F.p,F.s,F.v⟩) jr;obtain⟨V,Z⟩:=hZ.ld y;exact⟨V,gZ.H Z⟩
 split
 .exact⟨h,Gq.refl X⟩
 rename_i c hf;have L:=bu hf;have H:c.q.M S fr=true:=cR (p:=λc:jn=>c.q.M S fr) hf;have hq:c.q.nodes≠[]:=bM (Qn.jL.1 H).2.1;split
 .exact(h.gR M (λe e'=>by rw[(h.a e' e).1]at L;simp at L) T).1
 have hk:=h.c c L;obtain⟨V,Z⟩:=h.WS hn L (c':={c with q:=c.q.add fr A}) rfl rfl rfl ⟨hk.k,hk.r,hk.u⟩ (λe=>e) jr;obtain⟨g1,g2⟩:=V.oe (EK hn _) (vx L rfl) hq;exact⟨g1,Z.H g2⟩
def Wz(n:Nat):Pk->Prop
 | .rep _ A=>A.ep<=1
 | .vot _ lt v=>lt<=1/\(0<v.ba->VV n v.val)
 |_=>True
def mB.recv(h:mB X)(H:X.a.Pairwise λc d=>c.gL<d.gL)(y:X.a.length<=8)(F:0<=X.A)(fr:Int)(p:Pk)(A:Wz X.n p):Pq X (X.recv fr p):=by
 unfold Cx.recv;split
 .exact h.jJ H F fr _ _ A
 .exact h.kK y F fr _ _ _ A.1 A.2
 exact⟨h,Gq.refl X⟩
def oq(n:Nat):kC->Prop
 | .unit _ s=>s.ep<=1/\s.mark<=0
 | .voter s=>s.lt<=1/\(0<(s.E 1).ba->VV n (s.E 1).val)
structure rD(W:Wd):Prop where
 c:∀(i:Nat) (A:Ac),W.ac[i]?=some A->mB A.X
 p:∀(j:Nat) (P:Pl),W.pl[j]?=some P->oq W.n P.part
def QX(n:Nat)(p:kC)(r:Rq):Prop:=r.ep<=1/\(match p with
 | .unit .. =>(r.kd=1\/r.kd=2\/r.kd=3)/\0<=r.pl
 | .voter .. =>r.ep=1/\(r.kd=6->VV n r.ct.val\/r.ct.val=[]))
theorem ur{v:Nat}(A:oq n p)(hr:QX n p r):oq n (p.mK n m v ce r).2/\Wz n (p.mK n m v ce r).1/\∀r',QX n p r'->QX n (p.mK n m v ce r).2 r':=by
 obtain⟨M,h2⟩:=hr
 cases p with
 |unit ch s=>
  have z1:(0:Int)<=1:=bT;refine⟨?_,?_,λr' h=>h⟩
  .show(mh n m v ce ch s r).2.ep<=1/\(mh n m v ce ch s r).2.mark<=0;unfold mh rb oP qn;repeat' split
   all_goals first|exact A|exact⟨M,A.2⟩
  show(mh n m v ce ch s r).1.ep<=1;unfold mh rb oP qn;repeat' split
  all_goals first|exact A.1|exact M|exact z1
 |voter s=>
  obtain⟨S,F⟩:=A;have y:max s.lt r.ep<=1:=C;obtain⟨T,H⟩:=h2;have V:∀(z:Ep),(0<z.ba->VV n z.val)->(0<(oh s.E r.ep z 1).ba->VV n (oh s.E r.ep z 1).val):=λz hz=>by unfold oh;rw[aE T.symm];exact hz
  have L:0<(s.E r.ep).ba->VV n (s.E r.ep).val:=jf T F;refine⟨⟨?_,?_⟩,⟨?_,?_⟩,λr' h=>h⟩
  .unfold nL;dsimp only;split
   .exact y
   exact S
  .show 0<((pM s.E r.kd r.ep r.pl r.ct.val).2 1).ba->VV n ((pM s.E r.kd r.ep r.pl r.ct.val).2 1).val;unfold pM;repeat' split
   .exact F
   .exact V _ L
   .exact F
   .rename_i h6 Z;refine V _ λ_=>?_;obtain e|e:=H h6
    .exact e
    exfalso;rw[e]at Z;simp at Z
   exact F
  .unfold nL;dsimp only;split
   .exact y
   exact S
  show 0<(pM s.E r.kd r.ep r.pl r.ct.val).1.ba->VV n (pM s.E r.kd r.ep r.pl r.ct.val).1.val;unfold pM;repeat' split
  .intro h;exact absurd (show(0:Int)<0 from h) bT
  .exact L
  .intro h;exact absurd (show(0:Int)<0 from h) bT
  .intro h;exact absurd (show(0:Int)<0 from h) bT
  exact L
theorem xG{v:Nat}:∀(rs:List (Int×Rq)) {p:kC},oq n p->(∀z∈rs,QX n p z.2)->oq n (p.N n m v ce rs).2/\∀e∈(p.N n m v ce rs).1,Wz n e.pk
 |[],_,h,_=>⟨h,λe he=>absurd he (by simp[kC.N])⟩
 |z::rs,p,h,A=>by
  obtain⟨F,S,H⟩:=ur h (A z (aN ..));obtain⟨L,T⟩:=xG rs F λy M=>H _ (A y (aX _ M));refine⟨L,λe he=>?_⟩;obtain rfl|he:=bh.1 (show e∈_::_ from he)
  .omega
  grind
def mB.iH(h:mB X)(F:Xk b X)(hz:z∈X.iH):z.2.ep<=1/\((nN X.n X.m z.1/\(z.2.kd=1\/z.2.kd=2\/z.2.kd=3)/\0<=z.2.pl)\/(n9 X.vo z.1/\z.2.ep=1/\(z.2.kd=6->VV X.n z.2.ct.val\/z.2.ct.val=[]))):=by
 have y:∀{q:Qn An},QU b X.n X.m q->q.A.ep<=1/\q.A.kd≠4->z∈q.iH->z.2.ep<=1/\((nN X.n X.m z.1/\(z.2.kd=1\/z.2.kd=2\/z.2.kd=3)/\0<=z.2.pl)\/(n9 X.vo z.1/\z.2.ep=1/\(z.2.kd=6->VV X.n z.2.ct.val\/z.2.ct.val=[]))):=fun{q} M T hz=>by obtain⟨A,H⟩:=ni hz;have S:=M.A (bM A);rw[H];exact⟨T.1,.inl ⟨M.id _ A, S.kd,S.pl.1⟩⟩
 unfold Cx.iH at hz;simp only[aT,eB]at hz;obtain ((⟨c,L,hz⟩|hz)|hz)|hz:=hz
 .exact y (F.f c L).q ⟨(h.c c L).r.2,(h.c c L).r.1⟩ hz
 .exact y F.pr h.pr hz
 .exact y F.sl h.sl hz
 obtain⟨A,H⟩:=ni hz;rw[H];refine⟨by rw[(h.mv (bM A)).2.2.2.2];exact iG,.inr ⟨F.vt.id _ A,(h.mv (bM A)).2.2.2.2,λe=>?_⟩⟩;rw[(h.k6 e).2];exact(h.k6 e).1
theorem Eo(L:Wk W)(hu:Up W)(hp:rD W)(hP:W.pl[j]?=some P):∀z∈W.reqs j,QX W.n P.part z.2:=λz hz=>by
 obtain⟨i,A,V,_,hm,_⟩:=wZ hu.a hz;have Z:=(L.ac i A V).x;obtain⟨⟨c1,c2⟩,c3,c4,c5⟩:=Z.d;have y:A.X.n=W.n:=c1;have S:A.X.m=W.m:=c2;have a0:A.X.vo=W.v:=c3;obtain⟨h1,h⟩:=(hp.c i A V).iH Z hm;refine⟨h1,?_⟩;have M:=(L.pk j P hP).part;have h9:W.n*W.m<=9:=rj L.n1.2 L.m1.2
 cases F:P.part with
 |unit ch s=>
  rw[F]at M;obtain⟨_,h⟩|⟨⟨T,_⟩,_⟩:=h
  .exact h
  have:=M.1;have H:100<=jP W.n W.m j:=T;unfold jP at H;rw[aE this]at H;omega
 |voter s=>
  rw[F]at M;obtain⟨⟨_,T⟩,_⟩|⟨_,h⟩:=h
  .have:=M.1;have H:=T;rw[y,S]at H;unfold jP at H;omega
  rw[<-y];exact h
theorem Ir{v:Nat}:∀(ls:List Le) {b:Bd} {X:Cx},Xk b X->(∀l∈ls,ui b n m v l/\Wz X.n l.pk)->mB X->Pq X (X.D ls)/\∃b',Xk b' (X.D ls)/\b'.g=b.g
 |[],b,X,y,_,h=>⟨⟨h,Gq.refl X⟩,b,y,rfl⟩
 |l::ls,b,X,y,F,h=>by obtain⟨M,S⟩:=F l (aN ..);obtain⟨T,V⟩:=M.D b ⟨iG,iG,iG,iG⟩;have A:=y.recv (fr:=l.fr) T V;obtain⟨Z,p2⟩:=h.recv y.a.gL y.pl y.t.1 l.fr l.pk S;obtain⟨⟨q1,q2⟩,b',q3,q4⟩:=Ir ls A (λx H=>⟨(F x (aX _ H)).1.L b.wo.toln,by rw[(A.d.1.1.H y.d.1.1.symm)];exact(F x (aX _ H)).2⟩) Z;exact⟨⟨q1,p2.H q2⟩,b',q3,q4⟩
def wT(h:mB X):mB X.jE/\X.jE.R=X.R/\X.jE.gJ=X.gJ:=by
 have y:X.jE.gT=X.gT:=by unfold Cx.gT Cx.jE;simp only[dZ,br];rfl
 refine⟨⟨h.n,h.m,h.e,h.t,h.l0,h.l1,λc F=>?_,h.pr,h.sl,λe=>by rw[y];exact h.mv e,h.sn,λe e'=>?_,h.va,h.bg,h.k6⟩,?_,rfl⟩
 .obtain⟨d,A,rfl⟩:=aD.1 (show c∈X.a.map λ(c:jn)=>{c with q:=c.q.jE}from F);exact⟨(h.c d A).k,(h.c d A).r,(h.c d A).u⟩
 .rw[y]at e;obtain⟨H,L⟩:=h.a e e';exact⟨by show X.a.map _=[];rw[H];rfl,L⟩
 show(if X.b=0 then 60 else 0)+_+X.mp+((X.a.map λ(c:jn)=>{c with q:=c.q.jE}).map cp).sum=_;rw[br];rfl
theorem Fs(H:Up W){A:Ac}(hA:W.ac[i]?=some A)(L:l∈W.D W.N (ja i)):∃(j:Nat) (P:Pl) (r:Rq) (p:kC),W.pl[j]?=some P/\l.fr=jP W.n W.m j/\(jP W.n W.m j,r)∈A.X.iH/\l.pk=(kC.mK W.n W.m W.v W.ce p r).1:=by
 obtain⟨M,h⟩:=aU.1 L;simp at h;obtain⟨j,_,y⟩:=eB.1 M;split at y
 .grind
 obtain⟨e,S,rfl⟩:=aD.1 y;obtain⟨z,T,V,_,_,p,g2⟩:=wK _ _ _ _ _ _ e S;obtain⟨F,A',Z,g3,g4,_⟩:=wZ H.a T;have h3:e.cl=ja i:=h.1;have:F=i:=by
  have:ja F=ja i:=by rw[<-g3,<-V,h3]
  unfold ja at this;omega
 grind
theorem KX(F:Wk W)(H:Up W)(h:rD W)(L:l∈W.N):Wz W.n l.pk:=by
 obtain⟨j,_,y⟩:=eB.1 L;split at y
 .grind
 rename_i P A;obtain⟨e,M,rfl⟩:=aD.1 y;exact(xG _ (h.p j P A) (Eo F H h A)).2 e M
def Bm(h:Wk W)(y:Up W)(S:rD W){A:Ac}(F:W.ac[i]?=some A):Pq A.X.jE (A.X.jE.D (W.D W.N (ja i))):=by
 obtain⟨Z,o2,o3⟩:=qQ (mN h).1;have H:W.step.ac[i]?=some {A with X:=A.X.jE}:=by rw[(nt h y).2 i,F];rfl
 have M:({W.step.iH with iN:=W.step.iN}:Wd).ac[i]?=some {A with X:=A.X.jE}:=by rw[(qw W.step).2.1 i,H];simp;unfold Ac.gone;rw[aE (y.a A (aR F))];simp only[xC]
 have hn:A.X.jE.n=W.n:=(h.ac i A F).x.d.1.1;refine(Ir (n:=W.step.n) (m:=W.step.m) (v:=W.step.v) _ ((Z.ac i _ M).x) (λl T=>⟨?_,?_⟩) (wT (S.c i A F)).1).1
 .have V:=(aU.1 T).1;rw[<-(KW h y).1]at V;exact(o3 l V).L (sD _ _ 0 i jr jr)
 rw[hn];exact KX h y S (aU.1 T).1
def DH(h:Wk W)(y:Up W)(F:rD W):rD W.step.step:=by
 obtain⟨_,S,T⟩:=KW h y;refine⟨λi A H=>?_,λj P L=>?_⟩
 .rw[T i]at H;obtain⟨B,V,rfl⟩:=bN.1 H;exact(Bm h y F V).1
 rw[S j]at L;obtain⟨Q,M,rfl⟩:=bN.1 L;rw[(px W.step).n,(px W).n];have:=(xG (m:=W.m) (v:=W.v) (ce:=W.ce) _ (F.p j Q M) (Eo h y F M)).1;generalize (Q.part.N W.n W.m W.v W.ce (W.reqs j)).2=p at this
 cases p<;>exact this
theorem JS(h:∀(i:Nat) (A:Ac),W.ac[i]?=some A->A.X.iH=[]):W.mV=[]:=by
 unfold Wd.mV;rw[List.flatMap_eq_nil_iff];unfold Wd.uk
 grind
theorem CF(R:Wd->Prop)(hR:∀W,Wk W->Up W->rD W->R W->R W.step.step)(a0:∀W,Wk W->Up W->rD W->R W->W.mV=[]->R W.step):∀(K:Nat) {W:Wd} (f:Nat),Wk W->Up W->rD W->R W->(∀(i:Nat) (A:Ac),W.ac[i]?=some A->A.X.iH=[]\/A.X.R+1<=K)->2*K+2<=f->(W.lj f).2=true/\Wk (W.lj f).1/\Up (W.lj f).1/\rD (W.lj f).1/\R (W.lj f).1/\oI W (W.lj f).1/\∀(i:Nat) (A:Ac),(W.lj f).1.ac[i]?=some A->A.X.iH=[]
 |K,W,f,M,F,S,hr,hk,hf=>by
  obtain⟨g,rfl⟩:∃g,f=g+2:=⟨f-2,C⟩;rw[PS M F g];obtain⟨w0,w1,w2⟩:=KW M F;have hs:=mN M;by_cases ho:W.mV=[]
  .rw[aE ho];obtain⟨a1,a2⟩:=nt M F;have hq:∀j,W.reqs j=[]:=λj=>by unfold Wd.reqs Wd.D;rw[ho];rfl
   have Z:W.step.pl=W.pl:=bJ λj=>by
    rw[a1 j,hq j]
    cases hP:W.pl[j]? with
    |none=>rfl
    |some P=>have:=F.q P (aR hP);obtain⟨a5,q,up,nf⟩:=P;simp only at this;subst this;rfl
   have T:∀(i:Nat) (A:Ac),W.step.ac[i]?=some A->∃B,W.ac[i]?=some B/\A={B with X:=B.X.jE}:=λi A y=>by rw[a2 i]at y;obtain⟨B,L,rfl⟩:=bN.1 y;exact⟨B,L,rfl⟩
   refine⟨rfl,hs.1,⟨by rw[Z];exact F.p,λA y=>?_,by rw[Z];exact F.q,λA y=>?_⟩,⟨λi A y=>?_,λj P hP=>?_⟩,a0 W M F S hr ho,hs.2.1,λi A y=>?_⟩
   .obtain⟨i,hi⟩:=List.mem_iff_getElem?.1 y;obtain⟨B,L,rfl⟩:=T i A hi;exact F.a B (aR L)
   .obtain⟨i,hi⟩:=List.mem_iff_getElem?.1 y;obtain⟨B,L,rfl⟩:=T i A hi;exact(F.ln B (aR L)).jE
   .obtain⟨B,L,rfl⟩:=T i A y;exact(wT (S.c i B L)).1
   .rw[Z]at hP;rw[hs.2.1.n];exact S.p j P hP
   obtain⟨B,L,rfl⟩:=T i A y;exact ux _
  rw[az ho];have V:=mN hs.1;have hK:K≠0:=λe=>ho (JS λi A y=>by
   obtain h|h:=hk i A y
   .exact h
   .omega)
  have a3:∀(i:Nat) (A:Ac),W.step.step.ac[i]?=some A->A.X.iH=[]\/A.X.R+1<=K-1:=λi A y=>by
   rw[w2 i]at y;obtain⟨B,L,rfl⟩:=bN.1 y;obtain⟨_,s2,s3⟩:=wT (S.c i B L);obtain⟨_,g⟩:=Bm M F S L;obtain h|h:=hk i B L
   .left;have a4:W.D W.N (ja i)=[]:=by rw[List.eq_nil_iff_forall_not_mem];intro l hl;obtain⟨j,P,r,p,_,_,hm,_⟩:=Fs F L hl;rw[h]at hm;simp at hm
    show(B.X.jE.D (W.D W.N (ja i))).iH=[];rw[a4];exact ux _
   by_cases e:(B.X.jE.D (W.D W.N (ja i))).gJ=B.X.jE.gJ
   .exact .inl (TJ (g.n e (Ux _)))
   right;have h1:=g.a;have h2:=g.p;rw[s2]at h2;show(B.X.jE.D (W.D W.N (ja i))).R+1<=K-1;omega
  by_cases hn:W.N=[]
  .rw[aE hn];refine⟨rfl,V.1,Ji M F,DH M F S,hR W M F S hr,hs.2.1.H V.2.1,λi A y=>?_⟩;rw[w2 i]at y;obtain⟨B,L,rfl⟩:=bN.1 y;show(B.X.jE.D (W.D W.N (ja i))).iH=[];rw[hn];exact ux _
  rw[az hn];obtain⟨e1,e2,e3,e4,e5,e6,e7⟩:=CF R hR a0 (K-1) g V.1 (Ji M F) (DH M F S) (hR W M F S hr) a3 C;exact⟨e1,e2,e3,e4,e5,(hs.2.1.H V.2.1).H e6,e7⟩
 termination_by K=>K
def Wd.M(W:Wd)(j i:Nat)(p:kC):kC:=(p.N W.n W.m W.v W.ce ((List.range i).flatMap (W.pL j))).2
def Wd.lets(W:Wd)(j i:Nat):List Le:=match W.pl[j]? with
 |none=>[]
 |some P=>((W.M j i P.part).N W.n W.m W.v W.ce (W.pL j i)).1.map λe=>⟨jP W.n W.m j,e.cl,e.pk⟩
theorem wj(n m v ce:Nat):∀(a b:List (Int×Rq)) (p:kC),p.N n m v ce (a++b)=((p.N n m v ce a).1++((p.N n m v ce a).2.N n m v ce b).1,((p.N n m v ce a).2.N n m v ce b).2)
 |[],_,_=>rfl
 |z::a,b,p=>by have h:=wj n m v ce a b (p.mK n m v ce z.2).2;show(⟨z.1,z.2.ln,z.2.nr,(p.mK n m v ce z.2).1⟩::((p.mK n m v ce z.2).2.N n m v ce (a++b)).1,((p.mK n m v ce z.2).2.N n m v ce (a++b)).2)=_;rw[h];rfl
theorem ED(h:z∈W.pL j i):z.1=ja i:=by
 unfold Wd.pL at h
 grind
def F9(j i N:Nat)(T:i<N)(p:kC):((p.N W.n W.m W.v W.ce ((List.range N).flatMap (W.pL j))).1.filter λe=>e.cl==ja i)=((W.M j i p).N W.n W.m W.v W.ce (W.pL j i)).1:=by
 have F:∀(rs:List (Int×Rq)) (p:kC),(∀z∈rs,z.1≠ja i)->((p.N W.n W.m W.v W.ce rs).1.filter λe=>e.cl==ja i)=[]:=λrs p h=>by rw[List.filter_eq_nil_iff];intro e L;obtain⟨z,A,g,_⟩:=wK _ _ _ _ _ _ e L;simp only[ZT];rw[g];exact h z A
 have H:∀(rs:List (Int×Rq)) (p:kC),(∀z∈rs,z.1=ja i)->((p.N W.n W.m W.v W.ce rs).1.filter λe=>e.cl==ja i)=(p.N W.n W.m W.v W.ce rs).1:=λrs p h=>by rw[eD];intro e L;obtain⟨z,A,g,_⟩:=wK _ _ _ _ _ _ e L;simp only[ZT];rw[g];exact h z A
 obtain⟨d,rfl⟩:∃d,N=i+1+d:=⟨N-i-1,C⟩;have S:List.range (i+1+d)=List.range i++([i]++(List.range d).map (i+1+·)):=by rw[List.range_add,dp,eJ]
 rw[S,eZ,eZ,wj,wj];simp only[cz];rw[F _ p (λz A e=>by
  obtain⟨k,M,A⟩:=eB.1 A
  rw[ED A]at e
  have:=oT e
  have:=di.1 M
  omega),dz]
 rw[F (((List.range d).map (i+1+·)).flatMap (W.pL j)) _ (λz A e=>by
  obtain⟨k,M,A⟩:=eB.1 A
  rw[ED A]at e
  have:=oT e
  obtain⟨y,_,rfl⟩:=aD.1 M
  omega),cF]
 simp only[dP,List.flatMap_nil,cF];exact H _ _ λz A=>ED A
theorem CM(h:Up W)(y:W.iP=[])(A:i<W.ac.length):W.D W.N (ja i)=(List.range W.pl.length).flatMap λj=>W.lets j i:=by
 unfold Wd.D Wd.N;rw[rR];refine vy λj _=>?_;unfold Wd.lets
 cases F:W.pl[j]? with
 |none=>rfl
 |some P=>
  dsimp only;rw[dZ,<-F9 j i W.ac.length A,<-zl h.a];congr 1;refine dH λe _=>?_;have:∀fr tt,W.j6 fr tt=false:=λfr tt=>by unfold Wd.j6;rw[y];rfl
  grind
def qN(X:Cx)(a b:List Le):X.D (a++b)=(X.D a).D b:=by unfold Cx.D;rw[dN]
theorem rM(f:Nat->List Le)(h:Nat->Cx->Prop)(N:Nat)(y:h 0 X)(A:∀j,j<N->∀Y,h j Y->h (j+1) (Y.D (f j))):h N (X.D ((List.range N).flatMap f)):=by
 induction N with
 |zero=>exact y
 |succ N F=>
  rw[dp,eZ,qN]
  grind
structure Ms(X X':Cx):Prop where
 s:(X'.n=X.n/\X'.m=X.m)/\X'.vo=X.vo/\X'.id=X.id
 e:X'.b=X.b/\X'.lay=X.lay
 b:X'.M=X.M
 mv:X'.mv=X.mv
 pr:(X'.c.A=X.c.A/\X'.c.nodes=X.c.nodes)/\X.gJ<=X'.gJ
def Ms.refl(X:Cx):Ms X X:=⟨⟨⟨rfl,rfl⟩,rfl,rfl⟩,⟨rfl,rfl⟩,rfl,rfl,⟨rfl,rfl⟩,iG⟩
def Ms.H(h:Ms X X')(k:Ms X' X2):Ms X X2:=⟨⟨⟨k.s.1.1.H h.s.1.1,k.s.1.2.H h.s.1.2⟩,k.s.2.1.H h.s.2.1,k.s.2.2.H h.s.2.2⟩,⟨k.e.1.H h.e.1,k.e.2.H h.e.2⟩,k.b.H h.b,k.mv.H h.mv,⟨k.pr.1.1.H h.pr.1.1,k.pr.1.2.H h.pr.1.2⟩,bt h.pr.2 k.pr.2⟩
def Ms.kg(X:Cx)(c:jn):Ms X (X.kg c):=by
 unfold Cx.kg;repeat' split
 all_goals first|exact⟨⟨⟨rfl,rfl⟩,rfl,rfl⟩,⟨rfl,rfl⟩,rfl,rfl,⟨rfl,rfl⟩,iG⟩|exact⟨⟨⟨rfl,rfl⟩,rfl,rfl⟩,⟨rfl,rfl⟩,rfl,rfl,⟨rfl,rfl⟩,by show X.gJ<=X.gJ+1;omega⟩
def Ms.oe(X:Cx)(c:jn)(A:An):Ms X (X.oe c A):=by
 unfold Cx.oe Cx.nV Cx.oy Cx.pO;repeat' split
 all_goals first|exact Ms.kg .. |exact⟨⟨⟨rfl,rfl⟩,rfl,rfl⟩,⟨rfl,rfl⟩,rfl,rfl,⟨rfl,rfl⟩,iG⟩|exact⟨⟨⟨rfl,rfl⟩,rfl,rfl⟩,⟨rfl,rfl⟩,rfl,rfl,⟨rfl,rfl⟩,by show X.gJ<=X.gJ+1;omega⟩
def Ms.gR(h:mB X)(F:0<=X.A)(y:X.mv.A.nodes≠[])(H:e<=1):Ms X (X.gR e):=by rcases(h.gR F (λ_=>(h.mv y).2.2.2.1) H).2 y with A|A<;>rw[A]<;>exact⟨⟨⟨rfl,rfl⟩,rfl,rfl⟩,⟨rfl,rfl⟩,rfl,rfl,⟨rfl,rfl⟩,iG⟩
def Ms.jJ(h:mB X)(y:0<=X.A)(F:X.mv.A.nodes≠[])(fr L:Int){A:An}(H:A.ep<=1)(M:X.mv.a.M L fr=true->A.wh=5):Ms X (X.jJ fr L A):=by
 unfold Cx.jJ;split
 .split
  .exact Ms.gR h y F H
  exact⟨⟨⟨rfl,rfl⟩,rfl,rfl⟩,⟨rfl,rfl⟩,rfl,rfl,⟨rfl,rfl⟩,iG⟩
 split
 .rename_i S;rw[aE (M S)];exact Ms.gR h y F H
 split
 .exact Ms.refl X
 split
 .exact Ms.gR h y F H
 exact Ms.H (X':=X.put _) ⟨⟨⟨rfl,rfl⟩,rfl,rfl⟩,⟨rfl,rfl⟩,rfl,rfl,⟨rfl,rfl⟩,iG⟩ (Ms.oe ..)
structure Gd(ls:List Le)(Y:Cx):Prop where
 p:mB Y
 x:∃b n m v,Xk b Y/\∀l∈ls,ui b n m v l
 k:∀l∈ls,Wz Y.n l.pk
def Gd.recv(h:Gd ls Y)(H:l∈ls):Gd ls (Y.recv l.fr l.pk):=by obtain⟨b,n,m,v,y,M⟩:=h.x;obtain⟨S,T⟩:=(M l H).D b ⟨iG,iG,iG,iG⟩;have A:=y.recv (fr:=l.fr) S T;exact⟨(h.p.recv y.a.gL y.pl y.t.1 l.fr l.pk (h.k l H)).1,⟨b.D,n,m,v,A,λx F=>(M x F).L b.wo.toln⟩,λx F=>by rw[(A.d.1.1.H y.d.1.1.symm)];exact h.k x F⟩
def Gd.t0(h:Gd ls Y):0<=Y.A:=by obtain⟨b,n,m,v,y,_⟩:=h.x;exact y.t.1
def Gd.A(h:Gd ls Y):Y.a.length<=8:=by obtain⟨b,n,m,v,y,_⟩:=h.x;exact y.pl
def xE(h:Wk W)(y:Up W)(T:rD W){A:Ac}(F:W.ac[i]?=some A):Gd (W.D W.N (ja i)) A.X.jE:=by
 obtain⟨Z,o2,o3⟩:=qQ (mN h).1;have H:W.step.ac[i]?=some {A with X:=A.X.jE}:=by rw[(nt h y).2 i,F];rfl
 have M:({W.step.iH with iN:=W.step.iN}:Wd).ac[i]?=some {A with X:=A.X.jE}:=by rw[(qw W.step).2.1 i,H];simp;unfold Ac.gone;rw[aE (y.a A (aR F))];simp only[xC]
 have hn:A.X.jE.n=W.n:=(h.ac i A F).x.d.1.1;refine⟨(wT (T.c i A F)).1,⟨_,W.step.n,W.step.m,W.step.v,((Z.ac i _ M).x),λl S=>?_⟩,λl S=>?_⟩
 .have V:=(aU.1 S).1;rw[<-(KW h y).1]at V;exact(o3 l V).L (sD _ _ 0 i jr jr)
 rw[hn];exact KX h y T (aU.1 S).1
theorem oY{v:Nat}(Q:kC->Prop):∀(rs:List (Int×Rq)) (p:kC),Q p->(∀p r,Q p->(∃z∈rs,z.2=r)->Q (p.mK n m v ce r).2)->Q (p.N n m v ce rs).2/\∀e∈(p.N n m v ce rs).1,∃z∈rs,∃p',Q p'/\e=⟨z.1,z.2.ln,z.2.nr,(kC.mK n m v ce p' z.2).1⟩
 |[],p,A,_=>⟨A,λe he=>absurd he (by simp[kC.N])⟩
 |z::rs,p,A,F=>by obtain⟨H,M⟩:=oY Q rs _ (F p z.2 A ⟨z,aN ..,rfl⟩) λp r h⟨y,L,e⟩=>F p r h ⟨y,aX _ L,e⟩;refine⟨H,λe he=>?_⟩;obtain rfl|he:=bh.1 (show e∈_::_ from he);all_goals grind
theorem AM(h:z∈W.pL j i):∃A,W.ac[i]?=some A/\(jP W.n W.m j,z.2)∈A.X.iH/\z.1=ja i:=by
 unfold Wd.pL at h
 grind
theorem uC(L:Wk W)(hp:rD W)(hP:W.pl[j]?=some P)(hz:z∈W.pL j i):QX W.n P.part z.2:=by
 obtain⟨A,V,hm,_⟩:=AM hz;have Z:=(L.ac i A V).x;obtain⟨⟨c1,c2⟩,c3,c4,c5⟩:=Z.d;have y:A.X.n=W.n:=c1;have S:A.X.m=W.m:=c2;obtain⟨h1,h⟩:=(hp.c i A V).iH Z hm;refine⟨h1,?_⟩;have M:=(L.pk j P hP).part;have h9:W.n*W.m<=9:=rj L.n1.2 L.m1.2
 cases F:P.part with
 |unit ch s=>
  rw[F]at M;obtain⟨_,h⟩|⟨⟨T,_⟩,_⟩:=h
  .exact h
  have:=M.1;have H:100<=jP W.n W.m j:=T;unfold jP at H;rw[aE this]at H;omega
 |voter s=>
  rw[F]at M;obtain⟨⟨_,T⟩,_⟩|⟨_,h⟩:=h
  .have:=M.1;have H:=T;rw[y,S]at H;unfold jP at H;omega
  rw[<-y];exact h
def kC.A:kC->kC->Prop
 | .unit ch _,.unit ch' _=>ch'=ch
 | .voter ..,.voter .. =>True
 |_,_=>False
def so(p:kC):p.A p:=by cases p<;>simp[kC.A]
def uj{v:Nat}{p':kC}(h:p.A p')(r:Rq):p.A (p'.mK n m v ce r).2:=by
 cases p<;>cases p'<;>exact h
def zv{p':kC}(h:p.A p')(y:QX n p r):QX n p' r:=by
 cases p<;>cases p'<;>first|exact y|exact h.elim
theorem Px(S:Wk W)(F:rD W)(H:l∈W.lets j i):∃P A r p',W.pl[j]?=some P/\W.ac[i]?=some A/\(jP W.n W.m j,r)∈A.X.iH/\P.part.A p'/\oq W.n p'/\l=⟨jP W.n W.m j,ja i,(kC.mK W.n W.m W.v W.ce p' r).1⟩:=by
 unfold Wd.lets at H;split at H
 .grind
 rename_i P L;obtain⟨e,V,rfl⟩:=aD.1 H;have T:∀(rs:List (Int×Rq)),(∀z∈rs,QX W.n P.part z.2)->∀p r,(P.part.A p/\oq W.n p)->(∃z∈rs,z.2=r)->P.part.A (p.mK W.n W.m W.v W.ce r).2/\oq W.n (p.mK W.n W.m W.v W.ce r).2:=λrs M p r h⟨z,y,Z⟩=>by subst Z;exact⟨uj h.1 _,(ur h.2 (zv h.1 (M z y))).1⟩
 have h1:=(oY _ ((List.range i).flatMap (W.pL j)) P.part ⟨so _,F.p j P L⟩ (T _ λz y=>by
  obtain⟨k,_,y⟩:=eB.1 y
  exact uC S F L y)).1
 obtain⟨z,y,p',a0,rfl⟩:=(oY (n:=W.n) (m:=W.m) (v:=W.v) (ce:=W.ce) (λp=>P.part.A p/\oq W.n p) _ _ h1 (T _ λz y=>uC S F L y)).2 e V;obtain⟨A,hA,hm,hc⟩:=AM y
 grind
def sW(h:j<W.n*W.m):jP W.n W.m j=j:=by unfold jP;rw[aE h]
def Lv:jP W.n W.m (W.n*W.m+k)=100+k:=by unfold jP;rw[az bz];omega
theorem AB(L:Wk W)(M:W.iP=[]){A:Ac}(H:W.ac[i]?=some A):W.pL (W.n*W.m+k) i=(A.X.mv.A.iH.filter λz=>z.1==100+(k:Int)).map λz=>(ja i,z.2):=by
 have y:=(L.ac i A H).x;have h9:(A.X.n:Int)*A.X.m<=9:=by exact_mod_cast rj y.n1.2 y.m1.2
 have F:∀fr tt,W.j6 fr tt=false:=λfr tt=>by unfold Wd.j6;rw[M];rfl
 unfold Wd.pL;rw[H];dsimp only;rw[Lv];have S:(A.X.iH.filter λz=>z.1==100+(k:Int)&& !W.j6 (ja i) z.1)=A.X.iH.filter λz=>z.1==100+(k:Int):=dH λz _=>om F;rw[S];have h:∀{q:Qn An},QU (W.A i) A.X.n A.X.m q->(q.iH.filter λz=>z.1==100+(k:Int))=[]:=fun{q} T=>by
  rw[List.filter_eq_nil_iff];intro z V;have:=(T.id _ (ni V).1).2
  grind
 unfold Cx.iH;rw[cz,cz,cz,h y.pr,h y.sl,rR];have:(A.X.a.flatMap λc=>c.q.iH.filter λz=>z.1==100+(k:Int))=[]:=by rw[List.flatMap_eq_nil_iff];exact λc Z=>h (y.f c Z).q
 grind
theorem yN(F:Wk W)(L:W.iP=[]){A:Ac}(H:W.ac[i]?=some A)(M:k<A.X.vo):(A.X.mv.A.mi=false->W.pL (W.n*W.m+k) i=[])/\(A.X.mv.A.mi=true->A.X.mv.A.nodes=A.X.kE->A.X.mv.A.D=[]->W.pL (W.n*W.m+k) i=[(ja i,A.X.mv.A.A)]):=by
 rw[AB F L H];refine⟨λh=>?_,λh S T=>?_⟩
 .unfold Qn.iH;rw[h];rfl
 obtain e|⟨e,_⟩:=uo ((F.ac i A H).x).vt.nd (100+(k:Int))
 .have y:((100+(k:Int)),A.X.mv.A.A)∈A.X.mv.A.iH:=by unfold Qn.iH;rw[aE h];refine aD.2 ⟨100+(k:Int),aU.2 ⟨?_,by unfold Qn.T;rw[T];rfl⟩,rfl⟩;rw[S];exact aD.2 ⟨k,di.2 M,rfl⟩
  have:=aU (p:=λz:Int×Rq=>z.1==100+(k:Int))|>.2 ⟨y,bz⟩
  grind
 rw[e];rfl
theorem Qx(h:Wk W)(F:k<W.v):∃P s,W.pl[W.n*W.m+k]?=some P/\P.part=.voter s:=by
 have A:W.n*W.m+k<W.pl.length:=by rw[h.pl];omega
 have y:=ah A;have:=(h.pk _ _ y).part
 cases e:W.pl[W.n*W.m+k].part with
 |unit ch s=>rw[e]at this;exact absurd this.1 bz
 |voter s=>exact⟨_,s,y,e⟩
theorem AJ(H:Wk W)(V:W.iP=[]){A:Ac}(L:W.ac[i]?=some A)(M:k<W.v)(Z:A.X.mv.A.mi=true)(hn:A.X.mv.A.nodes=A.X.kE)(ha:A.X.mv.A.D=[]):∃P s s',W.pl[W.n*W.m+k]?=some P/\P.part=.voter s/\W.M (W.n*W.m+k) i P.part=.voter s'/\W.lets (W.n*W.m+k) i=[⟨100+k,ja i,.vot A.X.mv.A.A.nr (nL s' A.X.mv.A.A).2.lt (nL s' A.X.mv.A.A).1⟩]:=by
 obtain⟨P,s,S,T⟩:=Qx H M;have hr:=(yN H V L (k:=k) (by rw[((H.ac i A L).x.d.2.1)];exact M)).2 Z hn ha;have y:P.part.A (W.M (W.n*W.m+k) i P.part):=(oY (n:=W.n) (m:=W.m) (v:=W.v) _ _ P.part (so _) λp r h _=>uj h r).1;obtain⟨s',F⟩:∃s',W.M (W.n*W.m+k) i P.part=.voter s':=by
  rw[T]at y|-
  cases e:W.M (W.n*W.m+k) i _ with
  |unit ch s=>rw[e]at y;exact y.elim
  |voter s'=>exact⟨s',rfl⟩
 refine⟨P,s,s',S,T,F,?_⟩;unfold Wd.lets;rw[S];dsimp only;rw[F,hr,Lv];rfl
def BD(h:Wk W)(F:W.iP=[]){A:Ac}(y:W.ac[i]?=some A)(H:k<W.v)(L:A.X.mv.A.mi=false):W.lets (W.n*W.m+k) i=[]:=by unfold Wd.lets;rw[(yN h F y (by rw[((h.ac i A y).x.d.2.1)];exact H)).1 L];split<;>rfl
def pj(h:Wk W)(y:Up W)(A:W.iP=[])(F:i<W.ac.length):W.D W.N (ja i)=((List.range (W.n*W.m)).flatMap λj=>W.lets j i)++((List.range W.v).flatMap λk=>W.lets (W.n*W.m+k) i):=by rw[CM y A F,h.pl,List.range_add,eZ,List.flatMap_map]
theorem Bi:∀(L:List (List Int)) (d:List Int) {l:List (List Int)},within L d=some l->l.length=L.length
 |[],d,l,h=>by
  unfold within at h;split at h
  .cases h;rfl
  cases h
 |ch::L,d,l,h=>by
  unfold within at h;split at h
  .cases h
  obtain⟨r,y,rfl⟩:=bN.1 h;rw[df,df,Bi L _ y]
theorem KJ{l:List (List Int)}(h:l≠[]):oJ l []=false:=by
 cases l with
 |nil=>exact absurd rfl h
 |cons a l=>simp[oJ]
theorem LA(h:mB X)(H:X.b=0)(Z:X.gT≠[])(L:X.mv.a.D=[]):X.jN=none:=by
 have y:X.jh=[]:=by unfold Cx.jh;rw[L];rfl
 have A:X.lay.length=X.n:=by rw[(h.l0 H)];unfold iR;rw[ay,List.length_range]
 have h1:=h.n.1;have M:∀v,X.sG v=false:=λv=>by
  unfold Cx.sG;split
  .rfl
  rename_i l S;rw[y];refine KJ λe=>?_;have:=Bi _ _ S
  grind
 have T:¬0<(jC (X.lG X.mv.D)).1:=by
  obtain e|⟨z,V,e⟩:=oB _
  .rw[e];decide
  have:=(aU.1 V).2
  grind
 unfold Cx.jN;rw[az T];have:X.next=none:=by
  unfold Cx.next;rw[az (by grind),List.findSome?_eq_none_iff];intro F _;unfold qj;rw[y,KJ (by
   intro e
   have:(lY X.lay F).length=X.lay.length:=ay ..
   rw[e,A]at this
   simp at this
   omega)]
  simp
 rw[this];rfl
def zY(h:X.jN=none):X.jS=X:=by unfold Cx.jS;rw[h]
theorem xV(h:mB X)(y:X.a.length<=8)(A:X.b=0)(H:X.mv.b=1)(F:VV X.n v):(X.kX v).b=1:=by
 rcases(h.kX y A H v (.inl F)).1.e with e|e
 .exfalso;unfold Cx.kX at e;rw[h.l0 A]at e;obtain⟨u,L,rfl⟩:∃u,(u=0\/u=1)/\v=kB (lY (iR X.n 2) u):=by
   obtain e|e:=F
   .grind
   grind
  rw[(ye X.n h.n u L).1]at e;dsimp only at e;have M:∀(l:List jn) (Z:Cx),(l.foldl Cx.kA Z).b=Z.b:=λl=>by
   induction l with
   |nil=>intro Z;rfl
   |cons c l S=>
    intro Z;rw[dF,S];unfold Cx.kA Cx.ku Cx.dO;repeat' split
    all_goals rfl
  split at e
  .have T:(List.foldl Cx.kA {X with b:=X.mv.b,lay:=lY (iR X.n 2) u,mv:=Mv.zero,wb:=false,wl:=false} X.a).b=0:=e
   grind
  grind
 exact e
structure V1(r0:Rq)(f:Nat->Vo)(k:Nat)(Y:Cx):Prop where
 e:Y.b=0
 A:Y.mv.A.A=r0
 nd:Y.mv.A.nodes=Y.kE
 du:Y.mv.A.mi=false
 an:Y.mv.A.D=(List.range k).map λ(q:Nat)=>(100+(q:Int),f q)
 lo:k<Y.mf->Y.mv.a.nodes=[]/\Y.mv.D=[]
 a:Y.c.nodes≠[]->Y.c.A.nr<=Y.gJ
 hi:Y.mf<=k->Y.mv.D=Y.mv.A.D/\Y.mv.a.nodes=kB Y.lay/\Y.mv.a.mi=true/\Y.mv.a.D=[]/\(Y.mv.a.A.kd=1/\Y.mv.a.A.ep=1)/\(Y.c.nodes≠[]->Y.c.A.nr<Y.mv.a.A.nr)
theorem AN{α:Type}{q:Qn α}{h:Int}{y:Nat}{f:Nat->α}(A:q.A.nr=h)(F:q.nodes=(List.range y).map λ(i:Nat)=>100+(i:Int))(L:q.D=(List.range k).map λ(i:Nat)=>(100+(i:Int),f i))(H:k<y):q.M h (100+(k:Int))=true:=by
 refine Qn.jL.2 ⟨A,by rw[F];exact aD.2 ⟨k,di.2 H,rfl⟩,λz M=>?_⟩
 grind
def vP{α:Type}(f:Nat->α)(k:Nat):((List.range k).map λ(q:Nat)=>(100+(q:Int),f q))++[(100+(k:Int),f k)]=(List.range (k+1)).map λ(q:Nat)=>(100+(q:Int),f q):=by rw[dp,aZ];rfl
def V1.step{r0:Rq}{f:Nat->Vo}(hg:Gd ls Y)(h:V1 r0 f k Y)(h7:r0.kd=7)(hk:k<Y.vo){lt:Int}(jt:lt<=1)(hv:0<(f k).ba->VV Y.n (f k).val):(Y.kK (100+k) r0.nr lt (f k)).b=1\/(V1 r0 f (k+1) (Y.kK (100+k) r0.nr lt (f k))/\(Y.kK (100+k) r0.nr lt (f k)).vo=Y.vo):=by
 have aa:=AN (f:=f) (Z5 Rq.nr h.A) h.nd h.an hk;have ab:Y.mv.A.nodes≠[]:=bM (Qn.jL.1 aa).2.1;obtain⟨m1,m2,m3,m4,m5⟩:=hg.p.mv ab;obtain⟨⟨b1,_⟩,b3⟩:=hg.p.gR hg.t0 (λ_=>m4) jt;have av:=hg.A;unfold Cx.kK;rw[aE aa];have hq:(Y.gR lt).mv=Y.mv/\(Y.gR lt).a=Y.a/\(Y.gR lt).n=Y.n/\(Y.gR lt).vo=Y.vo/\(Y.gR lt).b=Y.b/\(Y.gR lt).lay=Y.lay/\(Y.gR lt).c=Y.c/\(Y.gR lt).gJ=Y.gJ:=by obtain e|e:=b3 ab<;>rw[e]<;>exact⟨rfl,rfl,rfl,rfl,rfl,rfl,rfl,rfl⟩
 generalize Y.gR lt=Z at b1 hq;obtain⟨q1,q2,q3,q4,q5,q6,q7,q8⟩:=hq;dsimp only;rw[aE (jf q1 aa)];have al:Z.mf=Y.mf:=by unfold Cx.mf;rw[q4]
 have am:Z.kE=Y.kE:=by unfold Cx.kE;rw[q4]
 have an:Z.mv.A.A.kd=7:=by rw[q1,h.A];exact h7
 have a6:Z.mv.A.D++[(100+(k:Int),f k)]=(List.range (k+1)).map λ(q:Nat)=>(100+(q:Int),f q):=by rw[q1,h.an,vP]
 have ac:∀z∈Z.mv.A.D++[(100+(k:Int),f k)],0<z.2.ba->VV Z.n z.2.val:=λz hz=>by
  obtain hz|hz:=aT.1 hz
  .exact b1.va z hz
  rw[cw.1 hz,q3];exact hv
 have hB:(if Z.mv.A.A.kd=7/\Z.mv.D≠[]then Z.mv.A.D++[(100+(k:Int),f k)]else Z.mv.D)=if Y.mf<=k then Z.mv.A.D++[(100+(k:Int),f k)]else []:=by
  by_cases e:Y.mf<=k
  .rw[aE e,aE];refine⟨an,?_⟩;rw[q1,(h.hi e).1,h.an];intro e2;have:=Z5 List.length e2;simp at this;have:1<=Y.mf:=by unfold Cx.mf;omega
   omega
  have h2:=(h.lo C).2;rw[az e,az (by rw[q1,h2];simp),q1,h2]
 rw[hB];obtain⟨B,ad⟩:=gG (if Y.mf<=k then Z.mv.A.D++[(100+(k:Int),f k)]else []);rw[ad];have ap:∀z∈B,0<z.2.ba->VV Z.n z.2.val:=by
  rw[<-ad];split
  .exact ac
  simp
 obtain⟨V,L⟩:=gG ({Z with mv:={Z.mv with A:=Z.mv.A.add (100+(k:Int)) (f k),D:=B}}:Cx);rw[aE (show(Z.mv.A.add (100+(k:Int)) (f k)).A.kd=7 from an),L];have y:mB V:=by rw[<-L];exact⟨b1.n,b1.m,b1.e,b1.t,b1.l0,b1.l1,b1.c,b1.pr,b1.sl,b1.mv,b1.sn,b1.a,ac,ap,b1.k6⟩
 have M:V.b=0:=by rw[<-L];exact q5.H h.e
 have a1:V.mv.A.A=r0:=by rw[<-L];show Z.mv.A.A=r0;rw[q1];exact h.A
 have a2:V.mv.A.nodes=V.kE:=by rw[<-L];show Z.mv.A.nodes=Z.kE;rw[q1,am];exact h.nd
 have a3:V.mv.A.mi=false:=by rw[<-L];show Z.mv.A.mi=false;rw[q1];exact h.du
 have S:V.mv.A.D=(List.range (k+1)).map λ(q:Nat)=>(100+(q:Int),f q):=j9 L a6;have aq:V.mv.D=B:=by rw[<-L]
 have F:V.mv.a=Y.mv.a:=by rw[<-L];show Z.mv.a=_;rw[q1]
 have H:V.mf=Y.mf:=j9 L al;have a4:V.vo=Y.vo:=j9 L q4;have a5:V.lay=Y.lay:=j9 L q6;have a7:V.c=Y.c:=j9 L q7;have ar:V.gJ=Y.gJ:=j9 L q8;have T:V.c.nodes≠[]->V.c.A.nr<=V.gJ:=by rw[a7,ar];exact h.a
 have au:V.a.length<=8:=by rw[<-L];show Z.a.length<=8;rw[q2];exact av
 have a8:V.mv.A.nodes≠[]:=by rw[<-L];show Z.mv.A.nodes≠[];rw[q1];exact ab
 obtain⟨n1,n2,n3,n4,n5⟩:=y.mv a8;clear L hB ap ac a6 b1 b3;unfold Cx.kr;dsimp only;by_cases ha:0<(qE V.mv.A.D V.mf).1
 .rw[aE ha];exact .inl (xV y au M n2 (xJ y.va ha))
 rw[az ha];have a9:V.mv.A.D.length=k+1:=om S;by_cases a0:V.mv.A.D.length<V.mf
 .rw[aE a0];rw[a9,H]at a0;obtain⟨l1,l2⟩:=h.lo C;exact .inr ⟨⟨M,a1,a2,a3,S,λ_=>⟨jf F l1,by rw[aq,<-ad,az C]⟩,T,λe=>by rw[H]at e;omega⟩,a4⟩
 rw[az a0,n3,az bT];rw[a9,H]at a0;right;unfold Cx.jM;have aw:V.iJ=true:=by unfold Cx.iJ;simpa using n4
 rw[az (om aw)];dsimp only;by_cases aY:k<Y.mf
 .obtain⟨l1,l2⟩:=h.lo aY;have ag:¬V.mv.a.N=true:=by unfold Qn.N;rw[F,l1];simp
  rw[az ag];obtain⟨uQ,hU⟩:=gG (Cx.oF {V with wb:=true,mv:={V.mv with D:=V.mv.A.D}}:Cx);rw[hU];have ai:mB uQ:=by rw[<-hU];exact⟨y.n,y.m,y.e,y.t,y.l0,y.l1,y.c,y.pr,⟨by show V.mv.b<=1;rw[n2];omega,(by decide:(1:Int)≠4)⟩,y.mv,λ_=>a8,y.a,y.va,y.va,y.k6⟩
  have ak:uQ.gT≠[]:=j9 hU n4;rw[zY (LA ai (j9 hU M) ak (by rw[<-hU];rfl)),<-hU];exact⟨⟨M,a1,a2,a3,S,λe=>by have e2:k+1<V.mf:=e;rw[H]at e2;omega,λe=>by have:=T e;show V.c.A.nr<=V.gJ+1;omega,λ_=>⟨rfl,rfl,rfl,rfl,⟨rfl,n2⟩,λe=>by have:=T e;show V.c.A.nr<V.gJ+1;omega⟩⟩,a4⟩
 obtain⟨i1,i2,i3,i4,i5,i6⟩:=h.hi C;have b0:kB Y.lay≠[]:=by
  rw[<-a5,y.l0 M];have:V.n=1\/V.n=2\/V.n=3:=by have:=y.n;omega
  obtain e|e|e:=this<;>rw[e]<;>decide
 have ag:V.mv.a.N=true:=by unfold Qn.N;rw[F,i2];simpa using b0
 rw[aE ag];obtain⟨uQ,hU⟩:=gG ({V with wb:=true,mv:={V.mv with D:=V.mv.A.D}}:Cx);rw[hU];have ai:mB uQ:=by rw[<-hU];exact⟨y.n,y.m,y.e,y.t,y.l0,y.l1,y.c,y.pr,y.sl,y.mv,y.sn,y.a,y.va,y.va,y.k6⟩
 have ak:uQ.gT≠[]:=j9 hU n4;rw[zY (LA ai (j9 hU M) ak (by rw[<-hU];show V.mv.a.D=[];rw[F];exact i4)),<-hU];exact⟨⟨M,a1,a2,a3,S,λe=>by have e2:k+1<V.mf:=e;rw[H]at e2;omega,T,λ_=>⟨rfl,by show V.mv.a.nodes=kB V.lay;rw[F,a5];exact i2,by show V.mv.a.mi=true;rw[F];exact i3,by show V.mv.a.D=[];rw[F];exact i4,by show V.mv.a.A.kd=1/\V.mv.a.A.ep=1;rw[F];exact i5,by show V.c.nodes≠[]->V.c.A.nr<V.mv.a.A.nr;rw[F,a7];exact i6⟩⟩,a4⟩
theorem zS:∀(ms:List Le) {Y:Cx},Gd ls Y->Ms X Y->X.mv.A.nodes≠[]->(∀l∈ms,l∈ls/\∃F A,l.pk=.rep F A/\X.mv.a.M F l.fr=false)->Gd ls (Y.D ms)/\Ms X (Y.D ms)
 |[],Y,y,h,_,_=>⟨y,h⟩
 |l::ms,Y,y,h,H,L=>by obtain⟨M,F,A,T,V⟩:=L l (aN ..);refine zS ms (y.recv M) (h.H ?_) H λx Z=>L x (aX _ Z);have S:=y.k l M;show Ms Y (Y.recv l.fr l.pk);rw[T]at S|-;exact Ms.jJ y.p y.t0 (by rw[h.mv];exact H) _ _ S (λe=>by rw[h.mv,V]at e;cases e)
theorem RM(y:Wk W)(M:rD W)(F:j<W.n*W.m)(S:l∈W.lets j i):∃A r B,W.ac[i]?=some A/\((j:Int),r)∈A.X.iH/\l.fr=j/\l.pk=.rep r.nr B:=by
 obtain⟨P,A,r,p',T,V,H,h,_,rfl⟩:=Px y M S;have L:=(y.pk j P T).part;rw[sW F]at H
 cases e:P.part with
 |voter s=>rw[e]at L;have:=L.1;omega
 |unit ch s=>
  rw[e]at h
  cases p' with
  |voter s=>exact h.elim
  |unit Z s'=>exact⟨A,r,_,V,H,sW F,rfl⟩
theorem Ee(h:Up W)(y:W.iP=[])(A:i<W.ac.length)(F:j<W.pl.length)(H:l∈W.lets j i):l∈W.D W.N (ja i):=by
 rw[CM h y A]
 grind
def Bn(y:Wk W)(H:Up W)(L:rD W)(S:W.iP=[]){A:Ac}(M:W.ac[i]?=some A)(T:A.X.mv.A.nodes≠[])(V:∀Z fr,A.X.mv.a.M Z fr=false):Gd (W.D W.N (ja i)) (A.X.jE.D ((List.range (W.n*W.m)).flatMap λj=>W.lets j i))/\Ms A.X.jE (A.X.jE.D ((List.range (W.n*W.m)).flatMap λj=>W.lets j i)):=by
 refine zS _ (xE y H L M) (Ms.refl _) T λl h=>?_;obtain⟨j,F,h⟩:=eB.1 h;have F:=di.1 F;obtain⟨_,r,B,_,_,_,hk⟩:=RM y L F h;exact⟨Ee H S ((aj.1 M).1) (by rw[y.pl];omega) h,r.nr,B,hk,V _ _⟩
def VP(W:Wd)(Q:Ep->Prop):Prop:=∀(j:Nat) (P:Pl) (s:VS),W.pl[j]?=some P->P.part=.voter s->Q (s.E 1)
theorem CA(L:Wk W)(M:W.iP=[])(F:z∈W.pL (W.n*W.m+k) i):∃A,W.ac[i]?=some A/\z.2=A.X.mv.A.A/\A.X.mv.A.mi=true/\A.X.mv.A.nodes≠[]:=by
 obtain⟨A,H,_⟩:=AM F;rw[AB L M H]at F;obtain⟨y,S,rfl⟩:=aD.1 F;have h:=(aU.1 S).1;obtain⟨T,V⟩:=ni h;refine⟨A,H,V,?_,bM T⟩;unfold Qn.iH at h
 cases e:A.X.mv.A.mi with
 |true=>rfl
 |false=>rw[e]at h;simp at h
def yk(y:Wk W)(A:W.pl[j]?=some P)(F:P.part=.voter s):∃k,j=W.n*W.m+k/\k<W.v:=by have h:=(y.pk j P A).part;rw[F]at h;exact⟨j-W.n*W.m,gM h.1,by have:=h.1;have:=h.2.1;omega⟩
def QP(Q:Ep->Prop)(p:kC):Prop:=∀s,p=.voter s->Q (s.E 1)
theorem QH{v:Nat}(h:QP Q p)(y:∀s:VS,Q (s.E 1)->Q ((nL s r).2.E 1)):QP Q (p.mK n m v ce r).2:=by
 intro s e
 cases p with
 |unit ch s=>cases e
 |voter s'=>
  cases e;exact y s' (h s' rfl)
def Jw(H:Wk W)(L:W.iP=[])(M:QP Q P.part)(S:∀(h:Nat) (A:Ac),h<i->W.ac[h]?=some A->A.X.mv.A.mi=true->A.X.mv.A.nodes≠[]->∀s:VS,Q (s.E 1)->Q ((nL s A.X.mv.A.A).2.E 1)):QP Q (W.M (W.n*W.m+k) i P.part):=by refine(oY _ _ P.part M λp r T⟨z,y,V⟩=>?_).1;subst V;obtain⟨h,F,y⟩:=eB.1 y;obtain⟨A,Z,h1,h2,h3⟩:=CA H L y;rw[h1];exact QH T (S h A (di.1 F) Z h2 h3)
theorem Jn(M:Wk W)(T:Up W)(V:W.iP=[])(Z:VP W Q)(hQ:∀(i:Nat) (A:Ac),W.ac[i]?=some A->A.X.mv.A.mi=true->A.X.mv.A.nodes≠[]->∀s:VS,Q (s.E 1)->Q ((nL s A.X.mv.A.A).2.E 1)):VP W.step.step Q:=by
 intro j P s H h;have y:=mN M;have F:=mN y.1;obtain⟨k,rfl,hk⟩:=yk F.1 H h;rw[F.2.1.n,F.2.1.m,y.2.1.n,y.2.1.m]at H;rw[(KW M T).2.1]at H;obtain⟨P0,S,rfl⟩:=bN.1 H;have hq:QP Q (P0.part.N W.n W.m W.v W.ce (W.reqs (W.n*W.m+k))).2:=by refine(oY (n:=W.n) (m:=W.m) (v:=W.v) (ce:=W.ce) (QP Q) _ P0.part (λs e=>Z _ P0 s S e) λp r hp⟨z,L,er⟩=>?_).1;subst er;rw[zl T.a]at L;obtain⟨i',a0,L⟩:=eB.1 L;obtain⟨A,hA,h1,y,F⟩:=CA M V L;rw[h1];exact QH hp (hQ i' A hA y F)
 dsimp only at h
 cases e:(P0.part.N W.n W.m W.v W.ce (W.reqs (W.n*W.m+k))).2 with
 |unit ch s'=>rw[e]at h;cases h
 |voter s'=>rw[e]at h;cases h;exact hq _ e
def Ko(h:r.kd=7):nL s r=(⟨1,(s.E r.ep).pr,(s.E r.ep).ba,(s.E r.ep).val⟩,s):=by unfold nL pM;simp_all
theorem tQ:∀(l:List (Int×Vo)) (b:Int),b<=l.foldl (λb z=>max b z.2.pr) b/\∀z∈l,z.2.pr<=l.foldl (λb z=>max b z.2.pr) b
 |[],b=>⟨iG,λz h=>absurd h bz⟩
 |y::l,b=>by
  obtain⟨A,F⟩:=tQ l (max b y.2.pr)
  grind
def yc(h:mB Y)(H:Y.b=1)(fr y A:Int)(v:Vo):Y.kK fr y A v=Y:=by
 unfold Cx.kK;split
 .rename_i F;have:=(h.mv (bM (Qn.jL.1 F).2.1)).1;omega
 rfl
structure Vp(X:Cx):Prop where
 e:X.b=0
 k:X.mv.A.A.kd=7
 n:X.mv.A.nodes=X.kE
 d:X.mv.A.mi=true
 a:X.mv.A.D=[]
 s:X.mv.a.nodes=[]
 b:X.mv.D=[]
structure Zh(X:Cx):Prop where
 e:X.b=0
 k:X.mv.A.A.kd=7
 n:X.mv.A.nodes=X.kE
 d:X.mv.A.mi=false
 sn:X.mv.a.nodes=kB X.lay
 sd:X.mv.a.mi=true
 sa:X.mv.a.D=[]
 sr:X.mv.a.A.kd=1/\X.mv.a.A.ep=1
 sp:X.c.nodes≠[]->X.c.A.nr<X.mv.a.A.nr
theorem Yy(S:Wk W)(hu:Up W)(hp:rD W)(hm:W.iP=[])(h7:∀(i:Nat) (A:Ac),W.ac[i]?=some A->A.X.mv.A.mi=true->A.X.mv.A.nodes≠[]->A.X.mv.A.A.kd=7){A:Ac}(hA:W.ac[i]?=some A)(y:Vp A.X)(aa:A.X.c.nodes≠[]->A.X.c.A.nr<=A.X.gJ):(A.X.jE.D (W.D W.N (ja i))).b=1\/(Zh (A.X.jE.D (W.D W.N (ja i)))/\VP W.step.step λz=>z.pr<=j7 (A.X.jE.D (W.D W.N (ja i))).mv.D):=by
 have hi:=(aj.1 hA).1;have a2:=hp.c i A hA;have a3:A.X.vo=W.v:=(S.ac i A hA).x.d.2.1;have hv:A.X.mv.A.nodes≠[]:=by rw[y.n];exact mI a2.m.2
 have ab:A.X.mv.A.A.ep=1:=(a2.mv hv).2.2.2.2;have hs:∀nr fr,A.X.mv.a.M nr fr=false:=λnr fr=>by
  cases e:A.X.mv.a.M nr fr with
  |false=>rfl
  |true=>have:=(Qn.jL.1 e).2.1;rw[y.s]at this;simp at this
 obtain⟨g0,F⟩:=Bn S hu hp hm hA hv hs;rw[pj S hu hm hi,qN];rw[pj S hu hm hi]at g0;generalize ac:((List.range (W.n*W.m)).flatMap λj=>W.lets j i)++((List.range W.v).flatMap λk=>W.lets (W.n*W.m+k) i)=ls at g0;generalize A.X.jE.D ((List.range (W.n*W.m)).flatMap λj=>W.lets j i)=Y0 at g0 F;have V:Y0.vo=W.v:=F.s.2.1.H a3;obtain⟨f,hf⟩:∃f:Nat->Vo,∀k,k<W.v->∃P s M,W.pl[W.n*W.m+k]?=some P/\P.part=.voter s/\f k=⟨1,(s.E 1).pr,(s.E 1).ba,(s.E 1).val⟩/\W.lets (W.n*W.m+k) i=[⟨100+k,ja i,.vot A.X.mv.A.A.nr M (f k)⟩]:=by
  have:∀k,∃x:Vo,k<W.v->∃P s M,W.pl[W.n*W.m+k]?=some P/\P.part=.voter s/\x=⟨1,(s.E 1).pr,(s.E 1).ba,(s.E 1).val⟩/\W.lets (W.n*W.m+k) i=[⟨100+k,ja i,.vot A.X.mv.A.A.nr M x⟩]:=λk=>by
   by_cases H:k<W.v
   .obtain⟨P,s,s',hP,a1,a4,hl⟩:=AJ S hm hA H y.d y.n y.a;rw[Ko y.k,ab]at hl;have hq:=Jw S hm (Q:=λz=>z=s.E 1) (k:=k) (i:=i) (P:=P) (λt e=>by rw[a1]at e;cases e;rfl) (λi' B ai hB hd hn t ht=>by rw[Ko (h7 i' B hB hd hn)];exact ht);have e1:=hq s' a4;have e2:s'.E 1=s.E 1:=e1;rw[e2]at hl;exact⟨_,λ_=>⟨P,s,_,hP,a1,rfl,hl⟩⟩
   exact⟨⟨0,0,0,[]⟩,λh=>absurd h H⟩
  exact⟨λk=>(this k).choose,λk H=>(this k).choose_spec H⟩
 have L:Gd ls (Y0.D ((List.range W.v).flatMap λk=>W.lets (W.n*W.m+k) i))/\((Y0.D ((List.range W.v).flatMap λk=>W.lets (W.n*W.m+k) i)).b=1\/(V1 A.X.mv.A.A f W.v (Y0.D ((List.range W.v).flatMap λk=>W.lets (W.n*W.m+k) i))/\(Y0.D ((List.range W.v).flatMap λk=>W.lets (W.n*W.m+k) i)).vo=W.v)):=by
  refine rM (λk=>W.lets (W.n*W.m+k) i) (λk Y=>Gd ls Y/\(Y.b=1\/(V1 A.X.mv.A.A f k Y/\Y.vo=W.v))) W.v ⟨g0,.inr ⟨⟨F.e.1.H y.e,by rw[F.mv];rfl,?_,by rw[F.mv];rfl,by rw[F.mv];exact y.a,λ_=>by rw[F.mv];exact⟨y.s,y.b⟩,λe=>?_,λe=>?_⟩,V⟩⟩ λk H Y hY=>?_
  .rw[F.mv];show A.X.mv.A.nodes=_;rw[y.n];unfold Cx.kE;rw[a3,V]
  .rw[F.pr.1.2]at e;have h3:=aa e;have h4:=F.pr.2;rw[F.pr.1.1];exact bt h3 h4
  .have:1<=Y0.mf:=by unfold Cx.mf;omega
   omega
  obtain⟨P,s,M,hP,a1,a5,hl⟩:=hf k H;have a6:(⟨100+k,ja i,.vot A.X.mv.A.A.nr M (f k)⟩:Le)∈ls:=by rw[<-ac];refine cM _ (eB.2 ⟨k,di.2 H,?_⟩);rw[hl];exact cw.2 rfl
  rw[hl];show Gd ls (Y.recv (100+(k:Int)) (.vot A.X.mv.A.A.nr M (f k)))/\_;have ad:=hY.1.recv a6;have a7:=hY.1.k _ a6;refine⟨ad,?_⟩;show(Y.kK (100+(k:Int)) A.X.mv.A.A.nr M (f k)).b=1\/(V1 A.X.mv.A.A f (k+1) (Y.kK (100+(k:Int)) A.X.mv.A.A.nr M (f k))/\(Y.kK (100+(k:Int)) A.X.mv.A.A.nr M (f k)).vo=W.v);obtain e|⟨hV,T⟩:=hY.2
  .left;rw[yc hY.1.p e];exact e
  obtain e|⟨e1,e2⟩:=hV.step hY.1 y.k (jf T H) a7.1 a7.2
  .exact .inl e
  exact .inr ⟨e1,e2.H T⟩
 generalize Y0.D ((List.range W.v).flatMap λk=>W.lets (W.n*W.m+k) i)=Z at L;obtain e|⟨hV,T⟩:=L.2
 .exact .inl e
 right;have ag:Z.mf<=W.v:=by unfold Cx.mf;rw[T];have:=S.v1;omega
 obtain⟨i1,i2,i3,i4,i5,i6⟩:=hV.hi ag;refine⟨⟨hV.e,by rw[hV.A];exact y.k,hV.nd,hV.du,i2,i3,i4,i5,i6⟩,?_⟩;refine Jn S hu hm (Q:=λz=>z.pr<=j7 Z.mv.D) (λj P s hP hs=>?_) (λi' B hB hd hn s hs=>by rw[Ko (h7 i' B hB hd hn)];exact hs);obtain⟨k,rfl,H⟩:=yk S hP hs;obtain⟨P',s',M,a8,a0,a5,_⟩:=hf k H;rw[hP]at a8
 cases a8;rw[hs]at a0
 cases a0;have a9:(100+(k:Int),f k)∈Z.mv.D:=by rw[i1,hV.an];exact aD.2 ⟨k,di.2 H,rfl⟩
 have:=(tQ Z.mv.D 0).2 _ a9;rwa[a5]at this
theorem Ni(h:Wk W)(H:W.iP=[]){A:Ac}(F:W.ac[i]?=some A)(L:j<W.n*W.m):W.pL j i=((((A.X.a.flatMap λc=>c.q.iH)++A.X.c.iH).filter λz=>z.1==(j:Int)).map λz=>(ja i,z.2))++((A.X.mv.a.iH.filter λz=>z.1==(j:Int)).map λz=>(ja i,z.2)):=by
 have V:=rj h.n1.2 h.m1.2;have y:∀fr tt,W.j6 fr tt=false:=λfr tt=>by unfold Wd.j6;rw[H];rfl
 unfold Wd.pL;rw[F];dsimp only;rw[sW L];have M:(A.X.iH.filter λz=>z.1==(j:Int)&& !W.j6 (ja i) z.1)=A.X.iH.filter λz=>z.1==(j:Int):=dH λz _=>om y;rw[M];unfold Cx.iH;have S:(A.X.mv.A.iH.filter λz=>z.1==(j:Int))=[]:=by
  rw[List.filter_eq_nil_iff];intro z T;have:=(((h.ac i A F).x).vt.id _ (ni T).1).1
  grind
 grind
theorem Lx(h:Wk W)(F:j<W.n*W.m):∃P ch s,W.pl[j]?=some P/\P.part=.unit ch s:=by
 have A:j<W.pl.length:=by rw[h.pl];omega
 have y:=ah A;have:=(h.pk _ _ y).part
 cases e:W.pl[j].part with
 |unit ch s=>exact⟨_,ch,s,y,e⟩
 |voter s=>rw[e]at this;exact absurd this.1 C
theorem NO(S:Wk W)(hp:rD W)(hm:W.iP=[]){A:Ac}(hA:W.ac[i]?=some A)(hj:j<W.n*W.m)(hd:A.X.mv.a.mi=true)(hn:(j:Int)∈A.X.mv.a.nodes)(ha:A.X.mv.a.D=[])(hr:A.X.mv.a.A.kd=1/\A.X.mv.a.A.ep=1)(hc:∀c∈A.X.a,c.q.nodes≠[]->c.q.A.nr≠A.X.mv.a.A.nr)(a0:A.X.c.nodes≠[]->A.X.c.A.nr<A.X.mv.a.A.nr):∃l1 B,W.lets j i=l1++[⟨j,ja i,.rep A.X.mv.a.A.nr B⟩]/\B.wh=1/\∀l∈l1,∃nr cQ,l.pk=.rep nr cQ/\nr≠A.X.mv.a.A.nr:=by
 have hX:=(S.ac i A hA).x;obtain⟨P,ch,s,Z,hs⟩:=Lx S hj;have L:=Ni S hm hA hj;have h2:(A.X.mv.a.iH.filter λz=>z.1==(j:Int))=[((j:Int),A.X.mv.a.A)]:=by
  obtain e|⟨e,_⟩:=uo hX.sl.nd (j:Int)
  .exfalso;have T:((j:Int),A.X.mv.a.A)∈A.X.mv.a.iH:=by unfold Qn.iH;rw[aE hd];exact aD.2 ⟨(j:Int),aU.2 ⟨hn,by unfold Qn.T;rw[ha];rfl⟩,rfl⟩
   have:=aU (p:=λz:Int×Rq=>z.1==(j:Int))|>.2 ⟨T,bz⟩
   rw[e]at this;simp at this
  exact e
 rw[h2]at L;obtain⟨R1,V⟩:=gG ((((A.X.a.flatMap λc=>c.q.iH)++A.X.c.iH).filter λz=>z.1==(j:Int)).map λz=>(ja i,z.2));rw[V]at L;have hQ:∀(rs:List (Int×Rq)),(∀z∈rs,QX W.n P.part z.2)->∀p r,(P.part.A p/\oq W.n p)->(∃z∈rs,z.2=r)->P.part.A (p.mK W.n W.m W.v W.ce r).2/\oq W.n (p.mK W.n W.m W.v W.ce r).2:=λrs a1 p r h⟨z,H,er⟩=>by subst er;exact⟨uj h.1 _,(ur h.2 (zv h.1 (a1 z H))).1⟩
 have k1:=(oY (n:=W.n) (m:=W.m) (v:=W.v) (ce:=W.ce) (λp=>P.part.A p/\oq W.n p) ((List.range i).flatMap (W.pL j)) P.part ⟨so _,hp.p j P Z⟩ (hQ _ λz H=>by
  obtain⟨k,_,H⟩:=eB.1 H
  exact uC S hp Z H)).1
 obtain⟨k2,k3⟩:=oY (n:=W.n) (m:=W.m) (v:=W.v) (ce:=W.ce) (λp=>P.part.A p/\oq W.n p) R1 (W.M j i P.part) k1 (hQ _ λz H=>uC S hp Z (i:=i) (by rw[L];exact dG _ H));have M:W.lets j i=(((W.M j i P.part).N W.n W.m W.v W.ce R1).1.map λe=>(⟨(j:Int),e.cl,e.pk⟩:Le))++[⟨j,ja i,(kC.mK W.n W.m W.v W.ce ((W.M j i P.part).N W.n W.m W.v W.ce R1).2 A.X.mv.a.A).1⟩]:=by unfold Wd.lets;rw[Z];dsimp only;rw[L,wj,aZ,sW hj];rfl
 have F:∀p,P.part.A p->∃c t,p=.unit c t:=λp hl=>by
  rw[hs]at hl
  cases p with
  |unit c t=>exact⟨c,t,rfl⟩
  |voter t=>exact hl.elim
 obtain⟨c2,t2,e2⟩:=F _ k2.1;rw[e2]at M k2;refine⟨_,_,M,?_,λl hl=>?_⟩
 .have a4:t2.ep<=1:=k2.2.1;unfold mh rb;rw[hr.1,hr.2,aE rfl,az C];rfl
 obtain⟨e,he,rfl⟩:=aD.1 hl;obtain⟨z,H,p',a2,rfl⟩:=k3 e he;obtain⟨c3,t3,rfl⟩:=F p' a2.1;refine⟨z.2.nr,_,rfl,?_⟩;rw[<-V]at H;obtain⟨y,hy,rfl⟩:=aD.1 H;have hy:=(aU.1 hy).1;show y.2.nr≠_;obtain hy|hy:=aT.1 hy
 .obtain⟨c,a3,hy⟩:=eB.1 hy;obtain⟨y1,y2⟩:=ni hy;rw[y2];exact hc c a3 (bM y1)
 obtain⟨y1,y2⟩:=ni hy;rw[y2];have:=a0 (bM y1);omega
theorem C0(h:mB X)(V:X.b=0)(S:X.gT≠[])(y:∀j:Nat,j<X.n*2->(j:Int)∈X.jh):X.jN≠none:=by
 unfold Cx.jN;split
 .simp
 have:X.next≠none:=by
  unfold Cx.next;rw[az (je S)];intro e;rw[List.findSome?_eq_none_iff]at e;obtain⟨A,T⟩:∃A,A∈X.gT:=List.exists_mem_of_ne_nil _ S;have:=e A T;obtain⟨d,H,rfl⟩:=aD.1 T;obtain⟨H,F⟩:=aU.1 H;have Z:=((h.c d H).u (je F)).2.1;unfold qj at this;rw[aE]at this
  .cases this
  rw[h.l0 V];have L:(d.unit==-1||tK (iR X.n 2) d.unit)=true:=by
   have:X.n=1\/X.n=2\/X.n=3:=by have:=h.n;omega
   obtain e|e|e:=this<;>rw[e]<;>obtain e2|e2:=Z<;>rw[e2]<;>decide
  rw[L,Bool.true_and];unfold oJ lY;rw[List.all_map,List.all_eq_true];intro ch M;obtain⟨k,F,rfl⟩:=aD.1 M;have F:=di.1 F;rw[Function.comp,cK];by_cases e1:((k*2+0:Nat):Int)=d.unit
  .refine⟨((k*2+1:Nat):Int),aU.2 ⟨aD.2 ⟨1,bz,rfl⟩,?_⟩,by simpa using y (k*2+1) C⟩;simp only[eV,bne_iff_ne];right;omega
  refine⟨((k*2+0:Nat):Int),aU.2 ⟨aD.2 ⟨0,bz,rfl⟩,?_⟩,by simpa using y (k*2+0) C⟩
  grind
 cases e:X.next with
 |none=>exact absurd e this
 |some l=>simp
end Go.Proofs.YtbghhbpacijmmaaGreat
