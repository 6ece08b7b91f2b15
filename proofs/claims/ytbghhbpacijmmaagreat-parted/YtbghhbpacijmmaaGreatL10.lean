import Derived.Test.YtbghhbpacijmmaaGreatL09
open Go.Proofs.Tryz
namespace Go.Proofs.YtbghhbpacijmmaaGreat
set_option maxRecDepth 99999
set_option maxHeartbeats 0
set_option linter.defProp false
open Go.RowKit Go.Maps
attribute [local go_sem ↓] Go.wp_at_zero Go.wp_at_succ
variable {W W':Wd} {w w' w2:World} {xs cs ps ls aw:List Value} {cP fz qb tag2:Nat->Nat} {g k i t n p lc m mk ce jl sz gi j tp gl:Nat} {b:Bd} {la ga a:Option Addr} {l:Le} {e:TypeId} {X X':Cx} {P Q:Nat->Prop} {cv v pv lv dv u:Value} {fr nr tt:Int} {c:Kl} {iQ:Int->Prop} {po iN:List Le} {pl:List Pl} {gF:List Kl} {zz:List (Int×Vo)} {r:Rq} {ns:List Int} {ac:List Ac}
def Wd.J(W:Wd)(i:Nat)(gL:Nat)(kind:Int)(ij:Ct)(unit iA:Int):Prop:=
 ∃c∈W.gF,c.a=i/\c.b=gL/\c.kind=kind/\ij=⟨if kind=1 then 8 else 0,ja i,gL,c.value⟩/\(kind=1->iA=0\/iA∈c.A)/\(kind=2->iA=c.pos)/\(kind=5->unit=c.pos)
def Wd.A(W:Wd)(i:Nat):Bd:=⟨W.jl,200*W.jl,20*W.jl,W.gF.length,⟨[],W.n,W.m,W.v,W.ce,ja i,W.J i⟩⟩
structure WZ(W:Wd)(i:Nat)(A:Ac):Prop where
 x:Xk (W.A i) A.X
 nm:(W.gF.filter λc=>c.a==i).map (·.b)=List.range A.X.e.length
structure VO(W:Wd)(c:Kl):Prop where
 ac:∃A,W.ac[c.a]?=some A/\c.b<A.X.e.length/\(A.up=true->c.fin≠0->A.X.e[c.b]?=some c.r)
 kd:c.kind=1\/c.kind=2\/c.kind=5
 po:0<=c.pos/\c.pos<=48
 vl:c.value.length<=8/\nX c.value
 tk:c.A.length<=W.jl
 bg:0<=c.c/\c.c<=W.a
 fi:0<=c.fin/\c.fin<=W.a
 r:WK c.r
 fw:c.fin≠0->c.r.wh≠0
structure Wk(W:Wd):Prop where
 n1:1<=W.n/\W.n<=3
 m1:1<=W.m/\W.m<=3
 v1:1<=W.v/\W.v<=5
 v2:W.v%2=1
 c1:1<=W.ce/\W.ce<=16
 pl:W.pl.length=W.n*W.m+W.v
 pk:∀i P,W.pl[i]?=some P->Oq (W.A 0) W.n W.m W.v i P
 b:W.ac.length<=8
 ac:∀i A,W.ac[i]?=some A->WZ W i A
 po:∀l∈W.iN,ui (W.A 0) W.n W.m W.v l
 a:W.iN.length<=200*W.jl
 nw:0<=W.a/\W.a<=4*W.jl
 cl:W.gF.length<=W.jl
 ca:∀c∈W.gF,VO W c
 hd:W.mC.length<=W.jl
 ms:W.iP.length<=2/\∀x∈W.iP,0<=x/\x<=31
def sD(W W':Wd)(i j)(h:W.jl<=W'.jl)(y:W.gF.length<=W'.gF.length):(W.A i).ln (W'.A j):=by have:(W.jl:Int)<=W'.jl:=C;exact⟨this,by show 20*(W.jl:Int)<=20*W'.jl;omega,by show(W.gF.length:Int)<=W'.gF.length;omega,by show 200*(W.jl:Int)<=200*W'.jl;omega⟩
def FU(W W':Wd)(i)(h:W.jl<=W'.jl)(y:W.gF.length<=W'.gF.length)(A:W'.n=W.n)(F:W'.m=W.m)(H:W'.v=W.v)(L:W'.ce=W.ce)(M:∀a b c d e,W.J i a b c d e->W'.J i a b c d e):(W.A i).le (W'.A i):=
 ⟨sD W W' i i h y,rfl,⟨⟨A,F⟩,H,L,rfl⟩,M⟩
def YY(W W':Wd)(i)(h:W.jl+1<=W'.jl)(M:W.gF.length<=W'.gF.length)(y:W'.n=W.n)(A:W'.m=W.m)(F:W'.v=W.v)(H:W'.ce=W.ce)(L:∀a b c d e,W.J i a b c d e->W'.J i a b c d e):(W.A i).D.le (W'.A i):=by have:(W.jl:Int)+1<=W'.jl:=C;exact⟨⟨this,by show 20*(W.jl:Int)+20<=20*W'.jl;omega,by show(W.gF.length:Int)<=W'.gF.length;omega,by show 200*(W.jl:Int)+200<=200*W'.jl;omega⟩,rfl,⟨⟨y,A⟩,F,H,rfl⟩,L⟩
def Y3(W:Wd)(i):0<=(W.A i).E/\0<=(W.A i).B/\0<=(W.A i).K/\0<=(W.A i).N:=⟨by show(0:Int)<=W.jl;omega,by show(0:Int)<=200*W.jl;omega,by show(0:Int)<=20*W.jl;omega,by show(0:Int)<=W.gF.length;omega⟩
def Xk.TB(h:Xk b X)(k:∀g:Gh,g.J=b.g.J->Xk {b with g:=g} X->Xk (Bd.D {b with g:=g}) X'):Xk b.D X'/\∀(k:Nat) (r:Rz),X.e[k]?=some r->r.wh≠0->X'.e[k]?=some r:=⟨k b.g rfl h,λi r y A=>(k ⟨X.e,X.n,X.m,X.vo,X.ce,X.id,b.g.J⟩ rfl h.base).nB i r y A⟩
def qo(t)(c:Kl)(a):(c.D t a).a=c.a/\(c.D t a).b=c.b/\(c.D t a).kind=c.kind/\(c.D t a).pos=c.pos/\(c.D t a).value=c.value/\(c.D t a).A=c.A/\(c.D t a).c=c.c:=by
 unfold Kl.D;repeat' split
 all_goals exact⟨rfl,rfl,rfl,rfl,rfl,rfl,rfl⟩
def TW(W:Wd)(i):∀a b c d e,W.J i a b c d e->W.jx.J i a b c d e:=by rintro a b c d e⟨k,y,A,F,H,L,M,S,T⟩;obtain⟨V,Y,Z,h,s5,s6,s7⟩:=qo _ k W.ac[k.a]?;exact⟨_,aD.2 ⟨k,y,rfl⟩,V.H A,Y.H F,Z.H H,jf s5 L,jf s6 M,jf h S,jf h T⟩
def Wk.jx(h:Wk W)(hn:W.a+1<=4*W.jl):Wk W.jx:=by
 have V:W.gF.length<=W.jx.gF.length:=by show _<=(W.gF.map _).length;rw[ay];exact jr
 have hl:=sD W W.jx 0 0 jr V;have a5:=h.nw;have Y:∀i,(W.jx.gF.filter λc=>c.a==i).map (·.b)=(W.gF.filter λc=>c.a==i).map (·.b):=λi=>by
  show((W.gF.map λc=>c.D (W.a+1) W.ac[c.a]?).filter λc=>c.a==i).map (·.b)=_;rw[dZ,br];have e1:((λc:Kl=>c.a==i)∘λc:Kl=>c.D (W.a+1) W.ac[c.a]?)=λc:Kl=>c.a==i:=by funext c;simp[(qo (W.a+1) c W.ac[c.a]?).1]
  rw[e1];exact bf λc _=>(qo (W.a+1) c W.ac[c.a]?).2.1
 refine⟨h.n1,h.m1,h.v1,h.v2,h.c1,h.pl,λi P hP=>(h.pk i P hP).L hl,h.b,λi A T=>⟨(h.ac i A T).x.L (FU W W.jx i jr V rfl rfl rfl rfl (TW W i)),(Y i).H (h.ac i A T).nm⟩,λl a0=>(h.po l a0).L hl,h.a,⟨by show 0<=W.a+1;omega,hn⟩,?_,λc hc=>?_,h.hd,h.ms⟩
 .show(W.gF.map _).length<=W.jl;rw[ay];exact h.cl
 obtain⟨d,hd,rfl⟩:=aD.1 hc;have M:=h.ca d hd;obtain⟨s1,s2,s3,s4,s5,s6,s7⟩:=qo (W.a+1) d W.ac[d.a]?;obtain⟨A,T,a1,a2⟩:=M.ac;have hx:=(h.ac _ A T).x;have S:((d.D (W.a+1) W.ac[d.a]?).fin=d.fin/\(d.D (W.a+1) W.ac[d.a]?).r=d.r)\/((d.D (W.a+1) W.ac[d.a]?).fin=W.a+1/\A.X.e[d.b]?=some (d.D (W.a+1) W.ac[d.a]?).r/\(d.D (W.a+1) W.ac[d.a]?).r.wh≠0):=by
  rw[T];unfold Kl.D;dsimp only;split
  .split
   .exact .inl ⟨rfl,rfl⟩
   split
   .rename_i hr hq;exact .inr ⟨rfl,hr,hq.2⟩
   exact .inl ⟨rfl,rfl⟩
  exact .inl ⟨rfl,rfl⟩
 have a3:=M.bg;have a4:=M.fi;refine⟨⟨A,jf s1 T,jf s2 a1,λhu hf=>?_⟩,by rw[s3];exact M.kd,by rw[s4];exact M.po,by rw[s5];exact M.vl,by rw[s6];exact M.tk,by rw[s7];exact⟨a3.1,by show d.c<=W.a+1;omega⟩,?_,?_,λhf=>?_⟩
 .rw[s2];obtain⟨F,y⟩|⟨F,y,Z⟩:=S
  .rw[y];exact a2 hu (j9 F hf)
  exact y
 .obtain⟨F,y⟩|⟨F,y,Z⟩:=S
  .rw[F];exact⟨a4.1,by show d.fin<=W.a+1;omega⟩
  rw[F];exact⟨C,iG⟩
 .obtain⟨F,y⟩|⟨F,y,Z⟩:=S
  .rw[y];exact M.r
  exact hx.rv _ (aR y)
 obtain⟨F,y⟩|⟨F,y,Z⟩:=S
 .rw[y];exact M.fw (j9 F hf)
 exact Z
structure wE(A A':Ac):Prop where
 up:A'.up=true->A.up=true
 len:A'.X.e.length=A.X.e.length
 nB:∀(k:Nat) (r:Rz),A.X.e[k]?=some r->r.wh≠0->A'.X.e[k]?=some r
def wE.refl(A):wE A A:=⟨λe=>e,rfl,λ_ _ e _=>e⟩
def VO.go(h:VO W c)(hW:W.jl<=W'.jl)(hn:W.a<=W'.a)(F:∀(i:Nat) A,W.ac[i]?=some A->∃y,W'.ac[i]?=some y/\wE A y):VO W' c:=by obtain⟨A,Y,H,L⟩:=h.ac;obtain⟨y,M,g⟩:=F _ A Y;have S:=h.bg;have T:=h.fi;exact⟨⟨y,M,by rw[g.len];exact H,λZ V=>g.nB _ _ (L (g.up Z) V) (h.fw V)⟩,h.kd,h.po,h.vl,gM h.tk,⟨S.1,C⟩,⟨T.1,C⟩,h.r,h.fw⟩
def Xk.PQ(h:Xk b X)(k:∀g:Gh,g.J=b.g.J->Xk {b with g:=g} X->Xk (Bd.D {b with g:=g}) X')(y:X'.e.length=X.e.length)(up up')(A:up'=true->up=true):Xk b.D X'/\wE ⟨X,up⟩ ⟨X',up'⟩:=by obtain⟨F,H⟩:=h.TB k;exact⟨F,A,y,H⟩
section
variable{c:jn}
def xq(X:Cx)(c)(r):(X.fin c r).e.length=X.e.length:=bK ..
def FM(X:Cx)(c):(X.kg c).e.length=X.e.length:=by
 unfold Cx.kg;repeat' split
 all_goals first|rfl|exact xq ..
def OX(A):(X.oe c A).e.length=X.e.length:=by
 unfold Cx.oe Cx.nV Cx.oy Cx.pO;repeat' split
 all_goals first|rfl|exact xq .. |exact FM ..
def PB:(X.kA c).e.length=X.e.length:=by
 unfold Cx.kA Cx.ku Cx.dO;repeat' split
 all_goals first|rfl|exact xq ..
theorem yd:∀(l:List jn) (X:Cx),(l.foldl Cx.kA X).e.length=X.e.length
 |[],_=>rfl
 |c::l,X=>(yd l (X.kA c)).H PB
def rT(X:Cx):X.iB.e=X.e:=rfl
def CN(v):(X.kX v).e.length=X.e.length:=by
 unfold Cx.kX;split
 .rfl
 dsimp only;split
 .rw[rT];exact yd _ _
 exact yd _ _
def Ab(e):(X.gR e).e=X.e:=by
 unfold Cx.gR;repeat' split
 all_goals rfl
def yx:X.jS.e=X.e:=by unfold Cx.jS;split<;>rfl
def BB:X.jM.e=X.e:=by
 unfold Cx.jM;split
 .rfl
 rw[yx];split<;>rfl
def DK:X.kr.e.length=X.e.length:=by
 unfold Cx.kr;dsimp only;repeat' split
 all_goals first|rfl|exact CN _|rw[BB]
def wm:X.jB.e=X.e:=by unfold Cx.jB;dsimp only;split<;>rfl
def JQ:X.ld.e=X.e:=by
 unfold Cx.ld;repeat' split
 all_goals first|rfl|exact yx|exact wm
def N1(fr nr lt)(v):(X.kK fr nr lt v).e.length=X.e.length:=by
 have h:=Ab (X:=X) lt;unfold Cx.kK Cx.kx;dsimp only;repeat' split
 all_goals first|rfl|(rw[h];done)|(rw[DK];rw[h])|(rw[wm];show(X.gR lt).e.length=_;rw[h])|(rw[CN];show(X.gR lt).e.length=_;rw[h])|(show(X.gR lt).e.length=_;rw[h])
def E8(fr nr)(A):(X.jJ fr nr A).e.length=X.e.length:=by
 unfold Cx.jJ;repeat' split
 all_goals first|rfl|(rw[Ab])|(rw[JQ];done)|(rw[OX];rfl)
def RQ(fr)(p):(X.recv fr p).e.length=X.e.length:=by
 unfold Cx.recv;split
 .exact E8 ..
 .exact N1 ..
 rfl
def Fy:X.kG.e=X.e:=by
 unfold Cx.kG;dsimp only;repeat' split
 all_goals rfl
def OF(k)(t):(X.jK k t).e.length=X.e.length:=by
 unfold Cx.jK Cx.dO;dsimp only;repeat' split
 all_goals first|rfl|exact xq ..
end
def Xk.recv(h:Xk b X){p:Pk}(H:∀nr A,p=.rep nr A->Ei b A)(F:∀nr y v,p=.vot nr y v->(0<=y/\y<=b.E+1)/\BM b v):Xk b.D (X.recv fr p):=by
 unfold Cx.recv;split
 .exact h.jJ (H _ _ rfl)
 .exact h.kK (F _ _ _ rfl).2 (F _ _ _ rfl).1
 exact h.L b.wo
def pf:(W.qp l k)[i]?=(W.pl[i]?).map λP=>if i<k/\jP W.n W.m i=l.tt/\P.up=true then P.recv W.n W.m W.v W.ce l.fr l.pk else P:=gz
def oV:(W.sA l k)[i]?=(W.ac[i]?).map λA=>if i<k/\ja i=l.tt/\A.up=true then{A with X:=A.X.recv l.fr l.pk}else A:=gz
def ui.D{v:Nat}(h:ui b n m v l)(b')(k:b.ln b'):(∀nr A,l.pk=.rep nr A->Ei b' A)/\∀nr y u,l.pk=.vot nr y u->(0<=y/\y<=b'.E+1)/\BM b' u:=by
 obtain⟨fr,tt,p⟩:=l;have:=k.e;refine⟨λnr A e=>?_,λnr y u e=>?_⟩
 .simp only at e;subst e;exact h.2.2.L k
 simp only at e;subst e;exact⟨⟨h.2.2.1.1,gM h.2.2.1.2⟩,h.2.2.2.L k⟩
def WZ.recv{A:Ac}(h:WZ W i A)(y:ui (W.A 0) W.n W.m W.v l):Xk (W.A i).D (A.X.recv l.fr l.pk)/\wE A {A with X:=A.X.recv l.fr l.pk}:=by refine h.x.PQ (λg _ F=>?_) (RQ ..) A.up A.up λe=>e;obtain⟨H,L⟩:=y.D {W.A i with g:=g} ⟨iG,iG,iG,iG⟩;exact F.recv H L
def Wk.D(h:Wk W)(S:W'.n=W.n)(T:W'.m=W.m)(F:W'.v=W.v)(hc:W'.ce=W.ce)(ha:W.jl+1<=W'.jl)(a1:W'.pl.length=W.pl.length)(a2:∀(i:Nat) P,W'.pl[i]?=some P->Oq (W.A 0) W.n W.m W.v i P)(a3:W'.ac.length=W.ac.length)(V:∀(i:Nat) A,W.ac[i]?=some A->∃A',W'.ac[i]?=some A'/\(A'=A\/Xk (W.A i).D A'.X)/\wE A A')(a4:∀l∈W'.iN,ui (W.A 0) W.n W.m W.v l)(a5:W'.iN.length<=200*W'.jl)(Y:W.a<=W'.a/\W'.a<=W.a+1)(y:W'.gF=W.gF)(a6:W'.mC=W.mC)(a7:W'.iP=W.iP):Wk W':=by
 have H:W.gF.length<=W'.gF.length:=by rw[y];exact jr
 have Z:=sD W W' 0 0 C H;have a9:=h.nw;refine⟨by rw[S];exact h.n1,by rw[T];exact h.m1,by rw[F];exact h.v1,by rw[F];exact h.v2,by rw[hc];exact h.c1,by rw[a1,h.pl,S,T,F],λi P hP=>?_,by rw[a3];exact h.b,λi A' M=>?_,λl hl=>?_,a5,C,by rw[y];have:=h.cl;omega,λc a0=>?_,by rw[a6];have:=h.hd;omega,by rw[a7];exact h.ms⟩
 .rw[S,T,F];exact(a2 i P hP).L Z
 .have hi:=(aj.1 M).1;obtain⟨A,hA⟩:∃A,W.ac[i]?=some A:=⟨_,ah C⟩;obtain⟨A2,a8,hx,hg⟩:=V i A hA;have e:A2=A':=by rw[a8]at M;simpa using M
  subst e;have hk:=h.ac i A hA;have hJ:∀a b c d e,W.J i a b c d e->W'.J i a b c d e:=λa b c d e=>by unfold Wd.J;rw[y];exact λe=>e
  refine⟨?_,by rw[y,hg.len];exact hk.nm⟩;obtain rfl|hx:=hx
  .exact hk.x.L (FU W W' i C H S T F hc hJ)
  exact hx.L (YY W W' i ha H S T F hc hJ)
 .rw[S,T,F];exact(a4 l hl).L Z
 rw[y]at a0;exact(h.ca c a0).go C Y.1 λi A hA=>by obtain⟨A',h1,_,h2⟩:=V i A hA;exact⟨A',h1,h2⟩
def Wk.oz(h:Wk W)(F:ui (W.A 0) W.n W.m W.v l):Wk (W.oz l):=by
 obtain⟨b1,M,Z,S⟩:=Y3 W 0;refine h.D rfl rfl rfl rfl jr (dJ ..) (λi P y=>?_) (dJ ..) (λi A H=>?_) h.po (by have:=h.a;show W.iN.length<=200*(W.jl+1);omega) ⟨by show W.a<=W.a+1;omega,iG⟩ rfl rfl rfl
 .change (W.qp l W.pl.length)[i]?=some P at y;rw[pf]at y;obtain⟨P0,L,rfl⟩:=bN.1 y;split
  .rename_i T;exact(h.pk i P0 L).recv b1 M S (rj h.n1.2 h.m1.2) F T.2.1
  exact h.pk i P0 L
 refine⟨_,by show(W.sA l W.ac.length)[i]?=_;rw[oV,H];rfl,?_⟩;dsimp only;split
 .obtain⟨V,Y⟩:=(h.ac i A H).recv F;exact⟨.inr V,Y⟩
 exact⟨.inl rfl,wE.refl A⟩
def Wk.mQ(h:Wk W)(y:ui (W.A 0) W.n W.m W.v l):Wk (W.mQ l):=by
 unfold Wd.mQ;split
 .exact h.D rfl rfl rfl rfl jr rfl h.pk rfl (λi A F=>⟨A,F,.inl rfl,wE.refl A⟩) h.po (by have:=h.a;show W.iN.length<=200*(W.jl+1);omega) ⟨by show W.a<=W.a+1;omega,iG⟩ rfl rfl rfl
 have:=h.nw;exact(h.oz y).jx (by show W.a+1+1<=4*((W.jl+1):Int);omega)
def Wk.pN(h:Wk W){A:Ac}(F:W.ac[i]?=some A)(H:Xk (W.A i).D X'/\wE A {A with X:=X'}):Wk (W.pN i X'):=by
 refine h.D rfl rfl rfl rfl jr rfl h.pk (cy ..) (λj B y=>?_) h.po (by have:=h.a;show W.iN.length<=200*(W.jl+1);omega) ⟨iG,by show W.a<=W.a+1;omega⟩ rfl rfl rfl;refine⟨_,by show(W.ac.modify i _)[j]?=_;rw[bS,y];rfl,?_⟩;by_cases e:i=j
 .simp_all
 dsimp only;rw[az e];exact⟨.inl rfl,wE.refl _⟩
def WZ.kG{A:Ac}(h:WZ W i A):Xk (W.A i).D A.X.kG/\wE A {A with X:=A.X.kG}:=h.x.PQ (λ_ _ y=>y.kG) (by show A.X.kG.e.length=_;rw[Fy]) A.up A.up λe=>e
def WZ.jK{A:Ac}(h:WZ W i A)(k)(t)(y:∀c∈A.X.a,c.gL=k->W.J i c.gL c.kind c.ij c.unit t):Xk (W.A i).D (A.X.jK k t)/\wE A {A with X:=A.X.jK k t}:=h.x.PQ (λg F H=>H.jK (by show∀c∈A.X.a,c.gL=k->g.J c.gL c.kind c.ij c.unit t;rw[F];exact y)) (OF ..) A.up A.up λe=>e
def ni{α:Type}{q:Qn α}{z:Int×Rq}(h:z∈q.iH):z.1∈q.nodes/\z.2=q.A:=by
 unfold Qn.iH at h;split at h
 .obtain⟨u,y,rfl⟩:=aD.1 h;simp_all
 simp_all
def wU{α:Type}(q:Qn α):q.iH.length<=q.nodes.length:=by
 unfold Qn.iH;split
 .rw[ay];exact bF _ _
 simp
theorem Xk.iH(h:Xk b X):(∀z∈X.iH,(nN X.n X.m z.1/\OH b z.2)\/(n9 X.vo z.1/\Sp b z.2))/\X.iH.length<=160:=by
 have y:∀{q:Qn An},QU b X.n X.m q->∀z∈q.iH,(nN X.n X.m z.1/\OH b z.2)\/(n9 X.vo z.1/\Sp b z.2):=fun{q} L z hz=>by obtain⟨A,F⟩:=ni hz;exact .inl ⟨L.id _ A,by rw[F];exact L.A (bM A)⟩
 refine⟨λz hz=>?_,?_⟩
 .unfold Cx.iH at hz;simp only[aT,eB]at hz;obtain ((⟨c,H,hz⟩|hz)|hz)|hz:=hz
  .exact y (h.f c H).q z hz
  .exact y h.pr z hz
  .exact y h.sl z hz
  obtain⟨A,F⟩:=ni hz;exact .inr ⟨h.vt.id _ A,by rw[F];exact h.vt.A (bM A)⟩
 have A:∀l:List jn,(∀c∈l,QU b X.n X.m c.q)->(l.flatMap λc=>c.q.iH).length<=14*l.length:=λl=>by
  induction l with
  |nil=>simp
  |cons c l S=>intro M;have F:=S λd T=>M d (aX _ T);have V:=wU c.q;have Y:=(M c (aN ..)).nl;rw[dP,aO,df];omega
 have F:=A X.a λc H=>(h.f c H).q;have V:=h.pl;have Y:=wU X.c;have Z:=wU X.mv.a;have h6:=wU X.mv.A;have h7:=h.pr.nl;have h8:=h.sl.nl;have h9:=h.vt.nl;unfold Cx.iH;simp only[aO];omega
def KQ(h:Wk W){A:Ac}(y:W.ac[i]?=some A):WG (ja i):=⟨i,by have:=(aj.1 y).1;have:=h.b;omega,rfl⟩
theorem Wk.lM(h:Wk W)(k):Wk (W.lM k):=by
 have a3:=h.a;unfold Wd.lM;split
 .split
  .exact h
  rename_i P hP;split
  .have L:=h.pk k P hP;have hq:=L.q.len;refine h.D rfl rfl rfl rfl jr (bK ..) (λi P' y=>?_) rfl (λi A H=>⟨A,H,.inl rfl,wE.refl A⟩) (λl hl=>?_) (by show(W.iN++_).length<=200*(W.jl+1);rw[aO,ay];omega) ⟨iG,by show W.a<=W.a+1;omega⟩ rfl rfl rfl
   .change (W.pl.set k P.jE)[i]?=some P' at y;by_cases e:k=i
    .subst e;rw[aQ (aj.1 hP).1]at y;simp only[aJ]at y;subst y;exact L.jE
    rw[aH e]at y;exact h.pk i P' y
   obtain hl|hl:=aT.1 hl
   .exact h.po l hl
   obtain⟨e,he,rfl⟩:=aD.1 hl;have M:=L.q.e e he;obtain⟨j,_,hj⟩:=M.cl;have S:1000<=e.cl:=by rw[hj];unfold ja;omega
   have F:=M.pk;show ui _ _ _ _ ⟨_,e.cl,e.pk⟩
   cases Y:e.pk with
   |req r=>rw[Y]at F;exact F.elim
   |rep nr A=>rw[Y]at F;exact⟨S,F⟩
   |vot nr lt v=>rw[Y]at F;exact⟨S,F⟩
  exact h
 split
 .exact h
 rename_i A H;split
 .have L:=h.ac _ A H;have Z:=L.x;obtain⟨o1,o2⟩:=Z.iH;obtain⟨⟨c1,c2⟩,c3,c4,c5⟩:=Z.d;refine h.D rfl rfl rfl rfl jr rfl h.pk (bK ..) (λj B V=>?_) (λl hl=>?_) (by show(W.iN++_).length<=200*(W.jl+1);rw[aO,ay];omega) ⟨iG,by show W.a<=W.a+1;omega⟩ rfl rfl rfl
  .by_cases e:k-W.pl.length=j
   .subst e;rw[H]at V;simp only[aJ]at V;subst V;exact⟨_,aQ (aj.1 H).1,.inr (Z.jE.L (Bd.wo _)),λe=>e,rfl,λ_ _ e _=>e⟩
   exact⟨B,by show(W.ac.set _ _)[j]?=_;rw[aH e];exact V,.inl rfl,wE.refl B⟩
  obtain hl|hl:=aT.1 hl
  .exact h.po l hl
  obtain⟨z,hz,rfl⟩:=aD.1 hl;refine⟨KQ h H,?_⟩;have a0:A.X.n=W.n:=c1;have a1:A.X.m=W.m:=c2;have a2:A.X.vo=W.v:=c3;obtain⟨T,g2⟩|⟨T,g2⟩:=o1 z hz
  .rw[a0,a1]at T;exact .inl ⟨T,g2.L (sD W W _ 0 jr jr)⟩
  rw[a2]at T;exact .inr ⟨T,g2.L (sD W W _ 0 jr jr)⟩
 exact h
structure oI(W W':Wd):Prop where
 n:W'.n=W.n
 m:W'.m=W.m
 v:W'.v=W.v
 ce:W'.ce=W.ce
 pl:W'.pl.length=W.pl.length
 ac:W'.ac.length=W.ac.length
 ca:W'.gF.length=W.gF.length
 hd:W'.mC=W.mC
 ms:W'.iP=W.iP
 jl:W.jl<=W'.jl
 a:W.a<=W'.a
section
variable{W2:Wd}
def oI.refl(W):oI W W:=⟨rfl,rfl,rfl,rfl,rfl,rfl,rfl,rfl,rfl,jr,iG⟩
def oI.H(h:oI W W')(k:oI W' W2):oI W W2:=⟨k.n.H h.n,k.m.H h.m,k.v.H h.v,k.ce.H h.ce,k.pl.H h.pl,k.ac.H h.ac,k.ca.H h.ca,k.hd.H h.hd,k.ms.H h.ms,aF h.jl k.jl,bt h.a k.a⟩
theorem zR(W)(k):oI W (W.lM k)/\(W.lM k).jl<=W.jl+1/\(W.lM k).a=W.a:=by
 unfold Wd.lM;repeat' split
 all_goals first
  |exact⟨oI.refl W,rE,rfl⟩
  |exact⟨⟨rfl,rfl,rfl,rfl,bz,bz,rfl,rfl,rfl,rE,iG⟩,jr,rfl⟩
def Am(W):oI W W.jx:=⟨rfl,rfl,rfl,rfl,rfl,rfl,ay ..,rfl,rfl,jr,by show W.a<=W.a+1;omega⟩
def IP(W)(l):oI W (W.oz l):=⟨rfl,rfl,rfl,rfl,dJ ..,dJ ..,rfl,rfl,rfl,rE,by show W.a<=W.a+1;omega⟩
def qR(W)(l):oI W (W.mQ l)/\(W.mQ l).jl=W.jl+1/\(W.mQ l).iN=W.iN:=by
 unfold Wd.mQ;split
 .exact⟨⟨rfl,rfl,rfl,rfl,rfl,rfl,rfl,rfl,rfl,rE,by show W.a<=W.a+1;omega⟩,rfl,rfl⟩
 exact⟨(IP W l).H (Am _),rfl,rfl⟩
def oI.le(h:oI W W')(y:ui (W.A 0) W.n W.m W.v l):ui (W'.A 0) W'.n W'.m W'.v l:=by rw[h.n,h.m,h.v];exact y.L (sD W W' 0 0 h.jl (by rw[h.ca];exact jr))
def Wk.Vd(h:Wk W)(H:∀l∈po,ui (W.A 0) W.n W.m W.v l)(L:po.length<=200*W.jl):Wk {W with iN:=po}:=
 ⟨h.n1,h.m1,h.v1,h.v2,h.c1,h.pl,h.pk,h.b,λi A F=>⟨(h.ac i A F).x,(h.ac i A F).nm⟩,H,L,h.nw,h.cl,λc y=>⟨(h.ca c y).ac,(h.ca c y).kd,(h.ca c y).po,(h.ca c y).vl,(h.ca c y).tk,(h.ca c y).bg,(h.ca c y).fi,(h.ca c y).r,(h.ca c y).fw⟩,h.hd,h.ms⟩
def Wd.T(W:Wd)(k:Nat):Wd:=(List.range k).foldl Wd.lM {W with iN:=[]}
def qt(W:Wd)(k):W.T (k+1)=(W.T k).lM k:=by unfold Wd.T;rw[dp,dN];rfl
theorem uM(h:Wk W):∀k,Wk (W.T k)/\oI W (W.T k)/\(W.T k).jl<=W.jl+k/\(W.T k).iN.length<=80*k+80*(k-W.pl.length)
 |0=>⟨h.Vd (po:=[]) bz bz,⟨rfl,rfl,rfl,rfl,rfl,rfl,rfl,rfl,rfl,jr,iG⟩,jr,by simp[Wd.T]⟩
 |k+1=>by
  obtain⟨F,H,Z,h4⟩:=uM h k;obtain⟨M,s2,_⟩:=zR (W.T k) k;have S:=H.pl;rw[qt];refine⟨F.lM k,H.H M,C,?_⟩;have y:∀(V:Wd),Wk V->(V.lM k).iN.length<=V.iN.length+80+(if k<V.pl.length then 0 else 80):=λV L=>by
   unfold Wd.lM;split
   .split
    .omega
    rename_i P T;split
    .have:=(L.pk k P T).q.len;show(V.iN++_).length<=_;rw[aO,ay];omega
    omega
   split
   .omega
   rename_i A Y;split
   .have:=(L.ac _ A Y).x.iH.2;show(V.iN++_).length<=_;rw[aO,ay];omega
   omega
  have:=y _ F;split at this<;>omega
def Ds(W:Wd):W.iH=W.T (W.pl.length+W.ac.length):=rfl
def DC(h:Wk W):Wk W.iH/\oI W W.iH/\W.iH.jl<=W.jl+22/\W.iH.iN.length<=2400:=by obtain⟨y,A,F,H⟩:=uM h _;have:=h.b;have:=h.pl;have:=rj h.n1.2 h.m1.2;have:=h.v1;rw[Ds];exact⟨y,A,C,C⟩
def qQ(h:Wk W):Wk ({W.iH with iN:=W.iN}:Wd)/\oI W ({W.iH with iN:=W.iN}:Wd)/\∀l∈W.iH.iN,ui (({W.iH with iN:=W.iN}:Wd).A 0) W.n W.m W.v l:=by
 obtain⟨H,y,M,S⟩:=DC h;have L:oI W ({W.iH with iN:=W.iN}:Wd):=⟨y.n,y.m,y.v,y.ce,y.pl,y.ac,y.ca,y.hd,y.ms,y.jl,y.a⟩;refine⟨H.Vd (λl F=>?_) (by have:=h.a;have:=y.jl;omega),L,λl F=>?_⟩
 .have:=y.le (h.po l F);omega
 have:=H.po l F;rwa[y.n,y.m,y.v]at this
theorem wX:∀(ls:List Le) {W:Wd},Wk W->(∀l∈ls,ui (W.A 0) W.n W.m W.v l)->Wk (W.lU ls)/\oI W (W.lU ls)/\(W.lU ls).jl=W.jl+ls.length/\(W.lU ls).iN=W.iN
 |[],W,h,_=>⟨h,oI.refl W,rfl,rfl⟩
 |l::ls,W,h,y=>by obtain⟨A,V,F⟩:=qR W l;obtain⟨H,L,M,S⟩:=wX ls (h.mQ (y l (aN ..))) λx T=>A.le (y x (aX _ T));exact⟨H,A.H L,by show((W.mQ l).lU ls).jl=_;rw[M];simp;omega,by show((W.mQ l).lU ls).iN=_;rw[S,F]⟩
def mN(h:Wk W):Wk W.step/\oI W W.step/\W.step.jl<=W.jl+2422/\W.step.iN=W.iN/\W.iH.jl<=W.step.jl:=by
 obtain⟨A,y,F⟩:=qQ h;obtain⟨T,V,Y,Z⟩:=DC h;obtain⟨H,L,M,S⟩:=wX W.iH.iN A (by rw[y.n,y.m,y.v];exact F);refine⟨H,y.H L,?_,S,?_⟩
 .show(Wd.lU _ _).jl<=_;rw[M];show W.iH.jl+_<=_;omega
 show _<=(Wd.lU _ _).jl;simp_all
end
structure j4(P:Nat->Prop)(w:World)(cP:Nat->Nat)(w':World)(fz:Nat->Nat):Prop where
 only:gI (λb=>P (cP b)) w w'
 cP:∀b,b<w.heap.size->fz b=cP b
def j4.refl:j4 P w cP w cP:=⟨vO,λ_ _=>rfl⟩
def j4.H(h:j4 P w cP w' fz)(k:j4 P w' fz w2 tag2):j4 P w cP w2 tag2:=
 ⟨⟨k.only.os.H h.only.os,k.only.tape.H h.only.tape,k.only.output.H h.only.output,aF h.only.size k.only.size,λi y A=>by
  rw[k.only.block i (af y h.only.size) (by rw[h.cP i y];exact A),h.only.block i y A]⟩,
  λb F=>(k.cP b (af F h.only.size)).H (h.cP b F)⟩
def j4.L(h:j4 P w cP w' fz)(y:∀t,P t->Q t):j4 Q w cP w' fz:=⟨h.only.L λ_ _ e=>y _ e,h.cP⟩
def j4.D(h:Bl w w')(t):j4 P w cP w' (ir cP w.heap.size t):=⟨gI.D h,λ_ y=>gV _ _ _ _ y⟩
def j4.A(h:Bl w w')(y:∀b,b<w.heap.size->fz b=cP b):j4 P w cP w' fz:=⟨gI.D h,y⟩
def j4.size(h:j4 P w cP w' fz):w.heap.size<=w'.heap.size:=h.only.size
def j4.heap(h:j4 P w cP w' fz){b:Nat}{o:Obj}(y:w.heap[b]?=some o)(A:cP b=t)(L:¬P t):w'.heap[b]?=some o/\fz b=t:=by have F:=(ae.1 y).1;exact⟨(h.only.block b F (jf A L)).H y,(h.cP b F).H A⟩
structure nh(w:World)(cP:Nat->Nat)(t:Nat)(e:TypeId)(sz:Nat)(v:Value)(n:Nat)(xs:List Value):Prop where
 ij:w.ownsRow 0 e sz v n xs
 cP:∀b,v.ownBlock=some b->cP b=t
def nh.nil(t)(e)(sz):nh w cP t e sz OO 0 []:=⟨m7,λb h=>pV h⟩
def nh.A(h:nh w cP t e sz v n xs)(k:j4 P w cP w' fz)(A:¬P t):nh w' fz t e sz v n xs:=
 ⟨k.only.jH h.ij λb y F=>A (by rw[<-h.cP b y];exact F),λb y=>(k.cP b (h.ij.lt b y).2).H (h.cP b y)⟩
def nh.D(h:nh w cP t e sz v n xs):∃a c,v=gK a n c:=by obtain⟨e,e'⟩|⟨g,cap,y,e,_⟩:=h.ij.2;all_goals simp_all
def nh.block(h:nh w cP t e sz v n xs)(M:0<n):∃g cap y,v=gK (G g) n cap/\cP g=t/\g<w.heap.size/\w.heap[g]?=some (ig y e (0,0))/\n<=cap/\cap<=maxLen:=by
 obtain⟨e,e'⟩|⟨g,cap,y,e,_,A,F,H,_⟩:=h.ij.2
 .omega
 subst e;exact⟨g,cap,y,rfl,h.cP g rfl,(λb L=>(h.ij.lt b L).2) g rfl,A,F,H⟩
def nh.cells{cap:Nat}(h:nh w cP t e sz (gK a n cap) n xs)(A:0<n):∃g,a=G g/\cP g=t/\g<w.heap.size/\(∀j,j<n*sz->w.cell? (U g j)=xs[j]?)/\∀j,w.frozen? (U g j)=false:=by obtain⟨g,y,F,H,L,M,S,_⟩:=h.block A;obtain⟨rfl,rfl⟩:=H;exact⟨g,rfl,L,M,λj T=>h.ij.cellAt j T,λj=>aP w g j _ _ S⟩
def Rd.A(h:Rd w cP t e v cs)(k:j4 P w cP w' fz)(y:¬P t):Rd w' fz t e v cs:=
 h.only k.only (λ_ _ e e'=>y (e'▸e)) λb A e=>(k.cP b A).H e
def Nd.A{y A F:Nat}{a b c d:Int}{L:Nat}{N:kC}{q:List Qz}(h:Nd w cP y A F g a b c d L N q)(k:j4 P w cP w' fz)(H:¬P y)(M:¬P A)(S:¬P F):Nd w' fz y A F g a b c d L N q:=
 h.only k.only (λ_ _ e=>⟨λe'=>H (e'▸e),λe'=>M (e'▸e),λe'=>S (e'▸e)⟩) k.cP
def Cl.A(h:Cl w cP t p qb X)(k:j4 P w cP w' fz)(y:∀s,t<=s->s<t+32->¬P s):Cl w' fz t p qb X:=
 h.only k.only (λb _ e=>by
  by_cases A:cP b<t
  .omega
  .by_cases F:cP b<t+32
   .simp_all
   .exact .inr C) k.cP
def CS.A(h:CS w cP t p qb X' w'):∃fz,j4 (Mc t) w cP w' fz/\Cl w' fz t p qb X':=by obtain⟨fz,y,A,F⟩:=h;exact⟨fz,⟨F,y⟩,A⟩
def Bv(w:World)(cP:Nat->Nat)(n m v ce i gi jl mk:Nat)(P:Pl):Prop:=
 ∃L,Nd w cP (10+3*i) (11+3*i) (12+3*i) gi n m v ce L P.part (P.q.map Qe.z)/\P.part.of n m v ce (jP n m i)/\mk<=L/\L<=300*jl
def Bv.A{v:Nat}{p:Pl}(h:Bv w cP n m v ce i gi jl mk p)(k:j4 P w cP w' fz)(y:¬P (10+3*i))(A:¬P (11+3*i))(F:¬P (12+3*i)):Bv w' fz n m v ce i gi jl mk p:=by obtain⟨N,H,L⟩:=h;exact⟨N,H.A k y A F,L⟩
def Bv.later{v y:Nat}{p:Pl}(h:Bv w cP n m v ce i gi jl mk p)(A:jl<=y):Bv w cP n m v ce i gi y mk p:=by obtain⟨N,F,H,L,M⟩:=h;exact⟨N,F,H,L,aF M (gA _ A)⟩
def Rs(ps:List Value)(n m i gi mk:Nat)(up nf:Bool):Prop:=ps[i*5]?=some (I (jP n m i))/\ps[i*5+1]?=some (O gi)/\ps[i*5+2]?=some (I mk)/\ps[i*5+3]?=some (.bool up)/\ps[i*5+4]?=some (.bool nf)
structure JZ(w:World)(cP:Nat->Nat)(n m v ce jl:Nat)(pl:List Pl)(pv:Value)(ps:List Value):Prop where
 row:nh w cP 2 72 5 pv pl.length ps
 pl:∀(i:Nat) (P:Pl),pl[i]?=some P->∃gi mk,Rs ps n m i gi mk P.up P.nf/\Bv w cP n m v ce i gi jl mk P
def JZ.A{v:Nat}(h:JZ w cP n m v ce jl pl pv ps)(k:j4 P w cP w' fz)(F:¬P 2)(y:∀t,10<=t->t<10+3*pl.length->¬P t):JZ w' fz n m v ce jl pl pv ps:=
 ⟨h.row.A k F,λi p A=>by
  obtain⟨g,mk,H,L⟩:=h.pl i p A
  have:=(aj.1 A).1
  exact⟨g,mk,H,L.A k (y _ C C) (y _ C C) (y _ C C)⟩⟩
def JZ.later{v y:Nat}(h:JZ w cP n m v ce jl pl pv ps)(A:jl<=y):JZ w cP n m v ce y pl pv ps:=
 ⟨h.row,λi p F=>by
  obtain⟨g,mk,H,L⟩:=h.pl i p F
  exact⟨g,mk,H,L.later A⟩⟩
def Rk(aw:List Value)(i p:Nat)(up:Bool):Prop:=aw[i*3]?=some (I (ja i))/\aw[i*3+1]?=some (O p)/\aw[i*3+2]?=some (.bool up)
structure TD(w:World)(cP:Nat->Nat)(ac:List Ac)(av:Value)(aw:List Value):Prop where
 row:nh w cP 3 129 3 av ac.length aw
 ac:∀(i:Nat) (A:Ac),ac[i]?=some A->∃p qb,Rk aw i p A.up/\Cl w cP (100+32*i) p qb A.X
def TD.A{y:Value}(h:TD w cP ac y aw)(k:j4 P w cP w' fz)(H:¬P 3)(L:∀t,100<=t->t<100+32*ac.length->¬P t):TD w' fz ac y aw:=
 ⟨h.row.A k H,λi A F=>by
  obtain⟨p,qb,M,S⟩:=h.ac i A F
  have:=(aj.1 F).1
  exact⟨p,qb,M,S.A k λs T V=>L s C C⟩⟩
def LX(w:World)(cP:Nat->Nat)(cs:List Value)(i:Nat)(c:Kl):Prop:=∃tv rv,cs[i*11]?=some (I c.a)/\cs[i*11+1]?=some (I c.b)/\cs[i*11+2]?=some (I c.kind)/\cs[i*11+3]?=some (I c.pos)/\cs[i*11+4]?=some (.string (js c.value))/\cs[i*11+5]?=some tv/\cs[i*11+6]?=some (I c.c)/\cs[i*11+7]?=some (I c.fin)/\cs[i*11+8]?=some (I c.r.wh)/\cs[i*11+9]?=some (I c.r.ad)/\cs[i*11+10]?=some rv/\nh w cP (1000+i) 3 1 tv c.A.length (c.A.map I)/\Rd w cP 99 5 rv (c.r.val.map B8)
structure qz(w:World)(cP:Nat->Nat)(gF:List Kl)(cv:Value)(cs:List Value):Prop where
 row:nh w cP 4 60 11 cv gF.length cs
 c:∀(i:Nat) (c:Kl),gF[i]?=some c->LX w cP cs i c
def LX.A(h:LX w cP cs i c)(k:j4 P w cP w' fz)(L:¬P (1000+i))(M:¬P 99):LX w' fz cs i c:=by obtain⟨S,T,V,Y,Z,e4,e5,e6,e7,e8,e9,y,A,F,H⟩:=h;exact⟨S,T,V,Y,Z,e4,e5,e6,e7,e8,e9,y,A,F.A k L,H.A k M⟩
def qz.A(h:qz w cP gF cv cs)(k:j4 P w cP w' fz)(y:¬P 4)(F:¬P 99)(H:∀t,1000<=t->¬P t):qz w' fz gF cv cs:=
 ⟨h.row.A k y,λi c L=>(h.c i c L).A k (H _ C) F⟩
structure tM(w:World)(cP:Nat->Nat)(tp:Nat)(iN:List Le)(lv:Value)(ls:List Value):Prop where
 row:nh w cP tp 138 3 lv iN.length ls
 l:∀(j:Nat) (x:Le),iN[j]?=some x->ls[j*3]?=some (I x.fr)/\ls[j*3+1]?=some (I x.tt)/\∃dv,ls[j*3+2]?=some dv/\Rd w cP 98 5 dv (x.pk.bytes.map B8)
def tM.nil(tp):tM w cP tp [] OO []:=⟨nh.nil _ _ _,λj x h=>mR h⟩
def tM.A(h:tM w cP tp iN lv ls)(k:j4 P w cP w' fz)(y:¬P tp)(A:¬P 98):tM w' fz tp iN lv ls:=
 ⟨h.row.A k y,λj x F=>by
  obtain⟨H,L,dv,M,S⟩:=h.l j x F
  exact⟨H,L,dv,M,S.A k A⟩⟩
structure WV where
 pv:Value
 av:Value
 lv:Value
 cv:Value
 hv:Value
 mv:Value
 ps:List Value
 aw:List Value
 ls:List Value
 cs:List Value
 tp:Nat
def Fb(W:Wd)(V:WV):List Value:=[I W.n,I W.m,I W.v,I W.ce,V.pv,V.av,V.lv,V.cv,I W.a,V.hv,V.mv]
structure kM(w:World)(cP:Nat->Nat)(g:Nat)(W:Wd)(V:WV):Prop where
 hg:w.heap[g]?=some (.cells (Fb W V).toArray 66 (0,0))
 tg:cP g=1
 b:JZ w cP W.n W.m W.v W.ce W.jl W.pl V.pv V.ps
 D:TD w cP W.ac V.av V.aw
 ca:qz w cP W.gF V.cv V.cs
 po:tM w cP V.tp W.iN V.lv V.ls
 ha:nh w cP 7 3 1 V.hv W.mC.length (W.mC.map I)
 ms:nh w cP 6 3 1 V.mv W.iP.length (W.iP.map I)
 a:W.pl.length<=14
 an:W.ac.length<=8
 ht:V.tp=8\/V.tp=97
def Wx(w:World)(cP:Nat->Nat)(g:Nat)(W:Wd):Prop:=∃V,kM w cP g W V
def Tv(t:Nat):Prop:=t=0\/t=5\/t=9\/(52<=t/\t<97)\/(356<=t/\t<1000)
def kM.A{V:WV}(h:kM w cP g W V)(k:j4 P w cP w' fz)(H:∀t,P t->Tv t):kM w' fz g W V:=by have y:∀t,¬Tv t->¬P t:=λt A F=>A (H t F);unfold Tv at y;have A:=h.a;have F:=h.an;have L:=h.ht;exact⟨(k.heap h.hg h.tg (y 1 C)).1,(k.heap h.hg h.tg (y 1 C)).2,h.b.A k (y _ C) λt _ _=>y _ C,h.D.A k (y _ C) λt _ _=>y _ C,h.ca.A k (y _ C) (y _ C) λt _=>y _ C,h.po.A k (y _ C) (y _ C),h.ha.A k (y _ C),h.ms.A k (y _ C),A,F,L⟩
def kM.bl{V:WV}(h:kM w cP g W V)(y:Bl w w')(A:∀b,b<w.heap.size->fz b=cP b):kM w' fz g W V:=
 h.A (P:=λ_=>False) (j4.A y A) λ_ e=>e.elim
def kM.cellAt{V:WV}(h:kM w cP g W V)(o)(y:(Fb W V)[o]?=some u):w.cell? (U g o)=some u:=by rw[ax w g o _ 66 _ h.hg];simpa using y
def kM.lt{V:WV}(h:kM w cP g W V):g<w.heap.size:=(ae.1 h.hg).1
def kM.N{V:WV}(h:kM w cP g W V)(i):w.frozen? (U g i)=false:=aP w g i _ 66 h.hg
def kM.R{T:Nat->Nat}{X:Wd}{Y:WV}(h:kM w T p X Y)(i j:Nat){a b:Value}(e:((Fb X Y)[i]?,(Fb X Y)[j]?)=(some a,some b)):w.cell? (U p i)=some a/\w.cell? (U p j)=some b:=by simp at e;exact⟨h.cellAt i e.1,h.cellAt j e.2⟩
def kM.QI{T:Nat->Nat}{X:Wd}{Y:WV}(h:kM w T p X Y)(i j k:Nat){a b c:Value}(e:((Fb X Y)[i]?,(Fb X Y)[j]?,(Fb X Y)[k]?)=(some a,some b,some c)):w.cell? (U p i)=some a/\w.cell? (U p j)=some b/\w.cell? (U p k)=some c:=by simp at e;exact⟨h.cellAt i e.1,h.cellAt j e.2.1,h.cellAt k e.2.2⟩
def kM.T{T:Nat->Nat}{X:Wd}{Y:WV}(h:kM w T p X Y)(i j k m:Nat){a b c d:Value}(e:((Fb X Y)[i]?,(Fb X Y)[j]?,(Fb X Y)[k]?,(Fb X Y)[m]?)=(some a,some b,some c,some d)):w.cell? (U p i)=some a/\w.cell? (U p j)=some b/\w.cell? (U p k)=some c/\w.cell? (U p m)=some d:=by simp at e;exact⟨h.cellAt i e.1,h.cellAt j e.2.1,h.cellAt k e.2.2.1,h.cellAt m e.2.2.2⟩
def Ix{α:Type}(p:α->Bool)(l:List α)(k:Nat):Nat:=((l.take k).filter p).length
def Io{α:Type}(p)(l:List α):Ix p l 0=0:=rfl
def LZ{α:Type}(p)(l:List α):Ix p l l.length=(l.filter p).length:=by simp[Ix]
def QB{α:Type}(p)(l:List α)(k):Ix p l k<=k:=aF (bF _ _) ik
def KC{α:Type}{p:α->Bool}{l:List α}{x:α}(h:l[k]?=some x)(y:p x=true):Ix p l (k+1)=Ix p l k+1:=by unfold Ix;rw[cW,h];simp[y]
def IB{α:Type}{p:α->Bool}{l:List α}{x:α}(h:l[k]?=some x)(y:p x=false):Ix p l (k+1)=Ix p l k:=by unfold Ix;rw[cW,h];simp[y]
section
variable{V:WV}
def Wk.oE(h:Wk W):oE W.n W.m W.v W.ce=true:=by have y:=h.n1;have A:=h.m1;have F:=h.v1;have H:=h.c1;have L:=h.v2;simp[Go.Proofs.YtbghhbpacijmmaaGreat.oE];omega
theorem xN(h:kM w cP g W V)(y:Wk W):iU 27 #[O g] w λA w'=>A=gU (I (W.n*W.ce))/\Bl w w':=by
 obtain⟨F,H,L,M⟩:=vE y.oE;obtain⟨S,T⟩:=h.R 0 3 rfl;have Y:=h.lt;have Z:=xR F H L M;have hw:IntKind.i64.wrap ((W.n:Int)*W.ce)=W.n*W.ce:=zI;clear h y;go_enter func27,ntmps27;go_wp2_with fail;go_quiet(fail);go_wp2;go_ret;exact⟨rfl,jU⟩
theorem D5(h:kM w cP g W V)(a:Nat)(hl:W.gF.length<=1000000000):iU 54 #[O g,I a] w λen w'=>en=gU (I (W.nM a))/\w'=w:=by
 obtain⟨ca,cc,y⟩:=h.ca.row.D;have c7:=h.cellAt 7 rfl;rw[y]at c7;have lg:=h.lt;have A:=h.ca;rw[y]at A;have A:=gN A;have hN:=LZ (λc:Kl=>c.a==a) W.gF;have F:W.nM a=(W.gF.filter λc=>c.a==a).length:=rfl;rw[F,<-hN];clear h y hN F;go_enter func54,ntmps54;go_wp2_with fail;go_loopw[5,6](λs i wr=>∃k:Nat,k<=W.gF.length/\s=I (Ix (λc:Kl=>c.a==a) W.gF k)/\i=I k/\wr=w) λ_ i _=>W.gF.length-(Go.RowKit.intOf i).toNat
 case atStart=>exact⟨0,jR,by rw[Io];rfl,rfl,rfl⟩
 obtain⟨k,hk,rfl,rfl,rfl⟩:=hrel;by_cases jt:k<W.gF.length
 .have a0:(k:Int)<(W.gF.length:Int):=C;obtain⟨cb,rfl,_,a1,L,_⟩:=A.row.cells C;obtain⟨c,M⟩:=nS jt;obtain⟨tv,rv,e0,_⟩:=A.c k c M;have d0:=(L (k*11) C).H e0;have a2:=QB (λc:Kl=>c.a==a) W.gF k;have hn:0<=(Ix (λc:Kl=>c.a==a) W.gF k:Int):=eG _;clear L e0;by_cases S:c.a=a
  .have T:=KC (p:=λc:Kl=>c.a==a) M (mZ S);rw[S]at d0;have Y:=gN T;clear T S M;go_wp2;go_roundw
   case rel=>exact⟨k+1,C,by rw[Y.o];go_num,iq,trivial⟩
   exact iD
  have T:=IB (p:=λc:Kl=>c.a==a) M (mZ S);have a3:¬((c.a:Int)=(a:Int)):=C;have Y:=gN T;clear T S M;go_wp2;go_roundw
  case rel=>exact⟨k+1,C,mT Y.o,iq,trivial⟩
  exact iD
 have a4:¬((k:Int)<(W.gF.length:Int)):=C;have Z:k=W.gF.length:=C;subst Z;go_wp2;go_ret;exact⟨rfl,rfl⟩
theorem Fa(h:kM w cP g W V)(a:Nat)(hl:W.gF.length<=1000000000):iU 55 #[O g,I a] w λen w'=>en=gU (I (W.uz a))/\w'=w:=by
 obtain⟨ca,cc,A⟩:=h.ca.row.D;have c7:=h.cellAt 7 rfl;rw[A]at c7;have lg:=h.lt;have S:=h.ca;rw[A]at S;have S:=gN S;have hN:=LZ (λc:Kl=>c.a==a&&decide (c.fin=0)) W.gF;have T:W.uz a=(W.gF.filter λc=>c.a==a&&decide (c.fin=0)).length:=rfl;rw[T,<-hN];clear h A hN T;go_enter func55,ntmps55;go_wp2_with fail;go_loopw[5,6](λs i wr=>∃k:Nat,k<=W.gF.length/\s=I (Ix (λc:Kl=>c.a==a&&decide (c.fin=0)) W.gF k)/\i=I k/\wr=w) λ_ i _=>W.gF.length-(Go.RowKit.intOf i).toNat
 case atStart=>exact⟨0,jR,by rw[Io];rfl,rfl,rfl⟩
 obtain⟨k,hk,rfl,rfl,rfl⟩:=hrel;by_cases jt:k<W.gF.length
 .have a1:(k:Int)<(W.gF.length:Int):=C;obtain⟨cb,rfl,_,a2,F,_⟩:=S.row.cells C;obtain⟨c,L⟩:=nS jt;obtain⟨tv,rv,e0,e1,e2,e3,e4,e5,e6,e7,_⟩:=S.c k c L;have d0:=(F (k*11) C).H e0;have d7:=(F (k*11+7) C).H e7;have a3:=QB (λc:Kl=>c.a==a&&decide (c.fin=0)) W.gF k;have hn:0<=(Ix (λc:Kl=>c.a==a&&decide (c.fin=0)) W.gF k:Int):=eG _;clear F e0 e1 e2 e3 e4 e5 e6 e7;by_cases M:c.a=a
  .rw[M]at d0;by_cases Z:c.fin=0
   .have y:=KC (p:=λc:Kl=>c.a==a&&decide (c.fin=0)) L (by simp[M,Z]);rw[Z]at d7;have Y:=gN y;clear y M Z L;go_wp2;go_roundw
    case rel=>exact⟨k+1,C,by rw[Y.o];go_num,iq,trivial⟩
    exact iD
   have y:=IB (p:=λc:Kl=>c.a==a&&decide (c.fin=0)) L (mZ Z);have Y:=gN y;generalize c.fin=fi at*;clear y M L;go_wp2;go_roundw
   case rel=>exact⟨k+1,C,mT Y.o,iq,trivial⟩
   exact iD
  have y:=IB (p:=λc:Kl=>c.a==a&&decide (c.fin=0)) L (mZ M);have a4:¬((c.a:Int)=(a:Int)):=C;have Y:=gN y;clear y M L;go_wp2;go_roundw
  case rel=>exact⟨k+1,C,mT Y.o,iq,trivial⟩
  exact iD
 have a5:¬((k:Int)<(W.gF.length:Int)):=C;have a0:k=W.gF.length:=C;subst a0;go_wp2;go_ret;exact⟨rfl,rfl⟩
end
theorem wQ:∀(y:List Value) (l:List Value) (o j:Nat),(j<o\/o+y.length<=j)->(zd l o y)[j]?=l[j]?
 |[],_,_,_,_=>rfl
 |v::y,l,o,j,h=>by unfold zd;rw[wQ y _ _ _ (by simp at h;omega),aH (by simp at h;omega)]
theorem LG:∀(y:List Value) (l:List Value) (o k:Nat),k<y.length->o+y.length<=l.length->(zd l o y)[o+k]?=y[k]?
 |[],_,_,_,h,_=>mR h
 |v::y,l,o,0,_,A=>by unfold zd;rw[wQ y _ _ _ C,fj,aQ (by simp at A;omega)];rfl
 |v::y,l,o,k+1,F,A=>by unfold zd;rw[show o+(k+1)=(o+1)+k by omega,LG y _ _ _ (je F) (by simp at A|-;omega)];simp
def wW{base cap:Nat}(h:w.ownsRow base e sz (gK (G g) n cap) n xs)(j)(u):(w.setCell (U g j) u).ownsRow base e sz (gK (G g) n cap) n (xs.set j u):=by
 refine⟨by rw[bK];exact h.1,?_⟩;obtain⟨e,_⟩|⟨V,A,y,e,F,H,L,M,S,T⟩:=h.2
 .simp_all
 simp at e;obtain⟨rfl,rfl⟩:=e;refine .inr ⟨g,cap,y.setIfInBounds j u,rfl,F,fy w g j y _ u H,L,M,je S,?_⟩;rw[<-T,Array.toList_setIfInBounds,List.take_set]
theorem GW{base cap:Nat}:∀(y:List Value) (o:Nat) (w:World) (xs:List Value),w.ownsRow base e sz (gK (G g) n cap) n xs->(lT w g o y).ownsRow base e sz (gK (G g) n cap) n (zd xs o y)
 |[],_,_,_,h=>h
 |v::y,o,_,_,h=>GW y (o+1) _ _ (wW h o v)
section
variable{V:WV}
def mo{b:Nat}(h:cP b=t)(o)(u):j4 (λs=>s=t) w cP (w.setCell (U b o) u) cP:=⟨(gI.refl _ w).setCell (U b o) (.inl h) _,λ_ _=>rfl⟩
def Gc{b:Nat}(h:cP b=t)(o)(vs):j4 (λs=>s=t) w cP (lT w b o vs) cP:=⟨kD (S:=λb=>cP b=t) (.inl h) vs o w (gI.refl _ w),λ_ _=>rfl⟩
def kM.uS(h:kM w cP g W V){a:Nat}(y:W.jl<=a):kM w cP g {W with jl:=a} V:=⟨h.hg,h.tg,h.b.later y,h.D,h.ca,h.po,h.ha,h.ms,h.a,h.an,h.ht⟩
def kM.PL(h:kM w cP g W V)(t):kM (w.setCell (U g 8) (I t)) cP g {W with a:=t} V:=by have k:j4 _ w cP (w.setCell (U g 8) (I t)) cP:=mo h.tg 8 _;have y:=h.ht;exact⟨jO 8 _ w _ h.hg,h.tg,h.b.A k C λi _ _=>C,h.D.A k C λi _ _=>C,h.ca.A k C C λi _=>C,h.po.A k C C,h.ha.A k C,h.ms.A k C,h.a,h.an,h.ht⟩
def kM.Lm(h:kM w cP g W V)(y:tM w cP tp po lv ls)(A:tp=8\/tp=97):kM (w.setCell (U g 6) lv) cP g {W with iN:=po} {V with lv:=lv,ls:=ls,tp:=tp}:=by have k:j4 _ w cP (w.setCell (U g 6) lv) cP:=mo h.tg 6 _;exact⟨jO 6 _ w _ h.hg,h.tg,h.b.A k C λi _ _=>C,h.D.A k C λi _ _=>C,h.ca.A k C C λi _=>C,y.A k C C,h.ha.A k C,h.ms.A k C,h.a,h.an,A⟩
def kM.TR(h:kM w cP g W V)(k:j4 (λt=>t=4\/t=99\/1000<=t) w cP w' fz){y:List Kl}{A:List Value}(F:qz w' fz y V.cv A):kM w' fz g {W with gF:=y} {V with cs:=A}:=by have H:=h.a;have L:=h.an;have M:=h.ht;exact⟨(k.heap h.hg h.tg C).1,(k.heap h.hg h.tg C).2,h.b.A k C λi _ _=>C,h.D.A k C λi _ _=>C,F,h.po.A k C C,h.ha.A k C,h.ms.A k C,h.a,h.an,h.ht⟩
def kM.X8(h:kM w cP g W V){u:Nat}(k:j4 (λt=>t=10+3*u\/t=11+3*u\/t=12+3*u) w cP w' fz){P0 P1:Pl}(F:W.pl[u]?=some P0){gu:Nat}(A:Rs V.ps W.n W.m u gu mk P1.up P1.nf)(H:Bv w' fz W.n W.m W.v W.ce u gu W.jl mk P1):kM w' fz g {W with pl:=W.pl.set u P1} V:=by
 have Y:=h.a;have Z:=h.an;have h3:=h.ht;have L:=(aj.1 F).1;refine⟨(k.heap h.hg h.tg C).1,(k.heap h.hg h.tg C).2,⟨?_,λi P y=>?_⟩,h.D.A k C λi _ _=>C,h.ca.A k C C λi _=>C,h.po.A k C C,h.ha.A k C,h.ms.A k C,by rw[bK];exact h.a,h.an,h.ht⟩
 .have:=h.b.row.A k C;rw[bK];exact this
 by_cases e:u=i
 .subst e;rw[aQ L]at y;simp only[aJ]at y;subst y;exact⟨gu,mk,A,H⟩
 rw[aH e]at y;obtain⟨M,mk',S,T⟩:=h.b.pl i P y;exact⟨M,mk',S,T.A k C C C⟩
def kM.Tj(h:kM w cP g W V){u:Nat}(k:j4 P w cP w' fz)(T:∀t,P t->(100+32*u<=t/\t<132+32*u)\/Tv t){A:Ac}(S:W.ac[u]?=some A)(L:Rk V.aw u p A.up)(Y:Cl w' fz (100+32*u) p qb X'):kM w' fz g {W with ac:=W.ac.modify u λA=>{A with X:=X'}} V:=by
 have h1:=h.a;have h2:=h.an;have h3:=h.ht;have hu:=(aj.1 S).1;have y:∀t,¬(100+32*u<=t/\t<132+32*u)->¬Tv t->¬P t:=λt Z g2 g3=>by obtain e|e:=T t g3;exact Z e;exact g2 e
 unfold Tv at y;refine⟨(k.heap h.hg h.tg (y _ C C)).1,(k.heap h.hg h.tg (y _ C C)).2,h.b.A k (y _ C C) λi _ _=>y _ C C,⟨?_,λi B F=>?_⟩,h.ca.A k (y _ C C) (y _ C C) λi _=>y _ C C,h.po.A k (y _ C C) (y _ C C),h.ha.A k (y _ C C),h.ms.A k (y _ C C),h.a,by rw[cy];exact h.an,h.ht⟩
 .have:=h.D.row.A k (y _ C C);rw[cy];exact this
 rw[bS]at F;by_cases e:u=i
 .subst e;rw[S]at F;simp only[if_true,dL,bG,aJ]at F;subst F;exact⟨p,qb,L,Y⟩
 simp only[az e,dL]at F;obtain⟨B',H,rfl⟩:=bN.1 F;have:=(aj.1 H).1;obtain⟨p',M,e1,e2⟩:=h.D.ac i B' H;exact⟨p',M,e1,e2.A k λs _ _=>y _ C C⟩
def qz.D{cb len cap:Nat}(h:qz w cP gF (gK (G cb) len cap) cs)(F:gF.length=len)(hc:gF[i]?=some c)(t)(r)(rv)(hr:Rd w cP 99 5 rv (r.val.map B8)):qz (lT w cb (i*11+7) [I t,I r.wh,I r.ad,rv]) cP (gF.set i {c with fin:=t,r:=r}) (gK (G cb) len cap) (zd cs (i*11+7) [I t,I r.wh,I r.ad,rv]):=by
 subst F;have a0:=h.row.cP cb rfl;have k:j4 (λs=>s=4) w cP (lT w cb (i*11+7) [I t,I r.wh,I r.ad,rv]) cP:=Gc a0 _ _;have hl:=h.row.ij.1;have a1:=(aj.1 hc).1;have L:i*11+7+4<=cs.length:=C;refine⟨⟨by rw[bK];exact GW _ _ _ _ h.row.ij,h.row.cP⟩,λj c' M=>?_⟩;by_cases S:j=i
 .subst S;rw[aQ a1]at M;simp only[aJ]at M;subst M;obtain⟨tv,T,e0,e1,e2,e3,e4,e5,e6,e7,e8,e9,Y,A,Z⟩:=h.c j c hc;have z:=λkk hk=>LG [I t,I r.wh,I r.ad,rv] cs (j*11+7) kk hk L;have y:=λo (ho:o<7)=>wQ [I t,I r.wh,I r.ad,rv] cs (j*11+7) (j*11+o) (.inl C);exact⟨tv,rv,(y 0 C).H e0,(y 1 C).H e1,(y 2 C).H e2,(y 3 C).H e3,(y 4 C).H e4,(y 5 C).H e5,(y 6 C).H e6,z 0 bz,z 1 bz,z 2 bz,z 3 bz,A.A k C,hr.A k C⟩
 rw[aH (Ne.symm S)]at M;obtain⟨tv,T,e0,e1,e2,e3,e4,e5,e6,e7,e8,e9,Y,A,Z⟩:=h.c j c' M;have y:=λo (ho:o<11)=>wQ [I t,I r.wh,I r.ad,rv] cs (i*11+7) (j*11+o) ik;exact⟨tv,T,(y 0 C).H e0,(y 1 C).H e1,(y 2 C).H e2,(y 3 C).H e3,(y 4 C).H e4,(y 5 C).H e5,(y 6 C).H e6,(y 7 C).H e7,(y 8 C).H e8,(y 9 C).H e9,(y 10 C).H Y,A.A k C,Z.A k C⟩
end
def Tryz.UX:(prog.info? 138).map (λi=>(i.zero,i.size,i.bytes))=some (some (.agg #[I 0,I 0,OO]),3,40):=rfl
section
variable{V:WV}
def Nd.Wj{M S T:Nat}{a b c d:Int}{L:Nat}{N:kC}(h:Nd w cP M S T g a b c d L N [])(k:j4 P w cP w' fz)(Y:¬P M)(A:¬P S):Nd w' fz M S T g a b c d L N []:=by obtain⟨Z,hp,gm,iC,ov,l,y⟩:=h;refine⟨Z,hp.only k.only (λb _ e e'=>Y (e'▸e)) λb h e=>(k.cP b h).H e,gm,iC,ov,l,?_⟩;have hl:l=[]:=aW.1 y.len;subst hl;exact⟨(k.heap y.hp y.tg A).1,(k.heap y.hp y.tg A).2,(k.heap y.mp y.tm A).1,(k.heap y.mp y.tm A).2,k.only.jH y.ij λb F e=>A ((y.tw b F)▸e),λb F=>(k.cP b (y.ij.lt b F).2).H (y.tw b F),rfl,λi e z he=>mR he,bz,bz⟩
def Bv.Wj{v:Nat}{p:Pl}(h:Bv w cP n m v ce i gi jl mk p)(A:p.q=[])(k:j4 P w cP w' fz)(F:¬P (10+3*i))(H:¬P (11+3*i)):Bv w' fz n m v ce i gi jl mk p:=by obtain⟨N,y,L⟩:=h;refine⟨N,?_,L⟩;rw[A]at y|-;exact y.Wj k F H
def kM.Zg(h:kM w cP g W V){p:Pl}(H:W.pl[i]?=some p)(M:p.q=[])(k:j4 P w cP w' fz)(S:∀t,P t->t=12+3*i):kM w' fz g W V:=by
 have F:=h.a;have T:=h.an;have Y:=h.ht;have hi:=(aj.1 H).1;have y:∀t,t≠12+3*i->¬P t:=λt F e=>F (S t e);refine⟨(k.heap h.hg h.tg (y 1 C)).1,(k.heap h.hg h.tg (y 1 C)).2,⟨h.b.row.A k (y _ C),λj Q A=>?_⟩,h.D.A k (y _ C) λt _ _=>y _ C,h.ca.A k (y _ C) (y _ C) λt _=>y _ C,h.po.A k (y _ C) (y _ C),h.ha.A k (y _ C),h.ms.A k (y _ C),F,T,Y⟩;obtain⟨Z,mk,e1,L⟩:=h.b.pl j Q A;refine⟨Z,mk,e1,?_⟩;by_cases e:j=i
 .subst e;rw[H]at A;simp only[aJ]at A;subst A;exact L.Wj M k (y _ C) (y _ C)
 exact L.A k (y _ C) (y _ C) (y _ C)
def kM.Sh(h:kM w cP g W {V with lv:=gK la W.iN.length lc}){Wa W1 S:World}(hW:Bl w Wa)(T:Bl Wa W1){cap:Nat}(x)(hd:Wa.ownsRow w.heap.size 5 1 (gK ga x.pk.bytes.length cap) x.pk.bytes.length (x.pk.bytes.map B8)){gg cp:Nat}(Y:S.ownsRow 0 138 3 (gK (G gg) (W.iN.length+1) cp) (W.iN.length+1) (V.ls++[I x.fr,I x.tt,gK ga x.pk.bytes.length cap]))(A:W1.grownBy S (gK la W.iN.length lc).ownBlock)(a3:(gK la W.iN.length lc).ownBlock=some gg\/Wa.heap.size<=gg):∃tag2,j4 (λt=>t=1\/t=V.tp) w cP (S.setCell (U g 6) (gK (G gg) (W.iN.length+1) cp)) tag2/\kM (S.setCell (U g 6) (gK (G gg) (W.iN.length+1) cp)) tag2 g {W with iN:=W.iN++[x]} {V with lv:=gK (G gg) (W.iN.length+1) cp,ls:=V.ls++[I x.fr,I x.tt,gK ga x.pk.bytes.length cap]}:=by
 have lw:=h.lt;have l1:=hW.lt;have l2:=T.lt;have l3:=A.size;have tl:∀b,(gK la W.iN.length lc).ownBlock=some b->cP b=V.tp:=h.po.row.cP;have ll:=λb F=>(h.po.row.ij.lt b F).2;have Z:=λb F=>hd.lt b F;have n1:=h.a;have n2:=h.an;have n3:V.tp=8\/V.tp=97:=h.ht;obtain⟨tag2,a0⟩:∃tag2:Nat->Nat,tag2=λb=>if b<w.heap.size then cP b else if(gK ga x.pk.bytes.length cap).ownBlock=some b then 98 else if b=gg then V.tp else 9:=⟨_,rfl⟩
 have M:∀b,b<w.heap.size->tag2 b=cP b:=λb F=>by rw[a0];simp[F]
 have a4:tag2 gg=V.tp:=by
  obtain e|e:=a3
  .rw[M gg (ll gg e)];exact tl gg e
  rw[a0];dsimp only;rw[az C,az λe'=>by have:=(Z gg e').2;omega,aE rfl]
 have a1:∀b,(gK ga x.pk.bytes.length cap).ownBlock=some b->tag2 b=98:=λb F=>by rw[a0];dsimp only;rw[az (gM ((Z b F).1)),aE F]
 have oQ:gI (λb=>cP b=1\/cP b=V.tp) w (S.setCell (U g 6) (gK (G gg) (W.iN.length+1) cp)):=((gI.D (hW.H T)).H ((gI.A A).L λb _ e=>.inr (tl b e.symm))).setCell (U g 6) (.inl (.inl h.tg)) _;have k:j4 (λt=>t=1\/t=V.tp) w cP (S.setCell (U g 6) (gK (G gg) (W.iN.length+1) cp)) tag2:=⟨oQ,M⟩;have a2:S.heap[g]?=some (ig (Fb W {V with lv:=gK la W.iN.length lc}).toArray 66 (0,0)):=by rw[A.block g C λe=>by have:=tl g e.symm;rw[h.tg]at this;omega,T.heap C,hW.heap lw];exact h.hg
 refine⟨tag2,k,jO 6 _ S _ a2,(M g lw).H h.tg,h.b.A k C λi _ _=>C,h.D.A k C λi _ _=>C,h.ca.A k C C λi _=>C,⟨⟨?_,λb F=>?_⟩,λj y hy=>?_⟩,h.ha.A k C,h.ms.A k C,n1,n2,n3⟩
 .rw[aO];exact mW Y λb F=>Z8 _ _ _ _ λe=>gW Y a2 bT (kz F e)
 .have e:gg=b:=by simpa [Value.ownBlock]using F
  rw[<-e];exact a4
 have hl:V.ls.length=W.iN.length*3:=h.po.row.ij.1;by_cases hj:j<W.iN.length
 .rw[aB hj]at hy;obtain⟨e1,e2,dv,e3,e4⟩:=h.po.l j y hy;exact⟨by rw[aB C];exact e1,by rw[aB C];exact e2,dv,by rw[aB C];exact e3,e4.A k C⟩
 have a5:=(aj.1 hy).1;simp at a5;have a6:j=W.iN.length:=C;subst a6;rw[aC jr]at hy;simp at hy;subst hy;have a7:(S.setCell (U g 6) (gK (G gg) (W.iN.length+1) cp)).ownsRow w.heap.size 5 1 (gK ga x.pk.bytes.length cap) x.pk.bytes.length (x.pk.bytes.map B8):=by refine mW hd λb F=>?_;have a8:=Z b F;rw[Z8 _ _ _ _ (show b≠g by omega),A.block b C λe=>by have:=ll b e.symm;omega,T.heap a8.2]
 exact⟨by rw[aC C,hl];simp,by rw[aC C,hl];simp,_,by rw[aC C,hl];simp,Rd.qW a7 a1⟩
structure Na(w:World)(cP:Nat->Nat)(ty:Nat)(la:Option Addr)(lc:Nat)(qs:List (Int×List Int))(xs:List Value)(j:Nat):Prop where
 row:nh w cP ty 179 2 (.slice la qs.length lc) qs.length xs
 kY:∀i z,j<=i->qs[i]?=some z->xs[i*2]?=some (I z.1)/\∃u,xs[i*2+1]?=some u/\nh w cP ty 5 1 u z.2.length (z.2.map B8)
 ap:∀i j u v b,i<j->xs[2*i+1]?=some u->xs[2*j+1]?=some v->u.ownBlock=some b->v.ownBlock≠some b
def Na.A{y:Nat}{A:List (Int×List Int)}(h:Na w cP y la lc A xs j)(k:j4 P w cP w' fz)(F:¬P y):Na w' fz y la lc A xs j:=
 ⟨h.row.A k F,λi z H L=>by
  obtain⟨M,u,S,T⟩:=h.kY i z H L
  exact⟨M,u,S,T.A k F⟩,h.ap⟩
def Na.TE{M:Nat}{S:List (Int×List Int)}(h:Na w cP M la lc S xs j){A:Nat}(hu:xs[j*2+1]?=some u)(F:u.ownBlock=some A)(H:∃y,w.heap[A]?=some (ig y 5 (0,0)))(T:gI (λb=>b=A) w w'):Na w' cP M la lc S xs (j+1):=by obtain⟨y,H⟩:=H;refine⟨⟨T.jH h.row.ij λb L e=>gW h.row.ij H bT (kz L e),h.row.cP⟩,λi z hi hz=>?_,h.ap⟩;obtain⟨e1,Y,Z,e3⟩:=h.kY i z C hz;refine⟨e1,Y,Z,⟨T.jH e3.ij λb L e=>?_,e3.cP⟩⟩;subst e;exact h.ap j i u Y b C (by rw[cN];exact hu) (by rw[cN];exact Z) F L
def xH.Zz{y:List (Int×List Int)}(h:xH w (λb=>cP b=t) (gK la y.length lc) y xs):Na w cP t la lc y xs 0:=
 ⟨⟨h.ij,h.ob⟩,λi z _ A=>by
  obtain⟨F,a,c,H,L,M⟩:=h.kY i z A
  exact⟨by rw[cN];exact F,_,by rw[cN];exact H,L,M⟩,h.ap⟩
def sI.Zz{base:Nat}{y:List (Int×List Int)}(h:sI base w (gK la y.length lc) y xs)(F:∀b,base<=b->cP b=t):Na w cP t la lc y xs 0:=
 ⟨⟨iE h.ij λ_ _=>jR,λb A=>F b (h.ij.lt b A).1⟩,λi z _ L=>by
  obtain⟨M,u,S,H⟩:=h.kY i z L
  exact⟨by rw[cN];exact M,u,by rw[cN];exact S,iE H λ_ _=>jR,λb A=>F b (H.lt b A).1⟩,h.ap⟩
def kM.SZ{pb N pc:Nat}(h:kM w cP g W V)(M:V.pv=gK (G pb) N pc)(T:W.pl.length=N){mk':Nat}{p p':Pl}(Y:W.pl[i]?=some p)(A:Rs V.ps W.n W.m i gi mk p.up p.nf)(S:p'.up=p.up/\p'.nf=p.nf)(L:Bv w cP W.n W.m W.v W.ce i gi W.jl mk' p'):kM (w.setCell (U pb (i*5+2)) (I mk')) cP g {W with pl:=W.pl.set i p'} {V with ps:=V.ps.set (i*5+2) (I mk')}:=by
 subst T;have Z:=(aj.1 Y).1;have y:=h.b.row;rw[M]at y;have k:j4 (λs=>s=2) w cP (w.setCell (U pb (i*5+2)) (I mk')) cP:=mo (y.cP pb rfl) _ _;have hl:=y.ij.1;have n1:=h.a;have n2:=h.an;have n3:=h.ht;refine⟨(k.heap h.hg h.tg C).1,(k.heap h.hg h.tg C).2,⟨by show nh _ _ _ _ _ V.pv _ _;rw[M,bK];exact⟨wW y.ij _ _,y.cP⟩,λj q F=>?_⟩,h.D.A k C λt _ _=>C,h.ca.A k C C λi _=>C,h.po.A k C C,h.ha.A k C,h.ms.A k C,by rw[bK];exact n1,n2,n3⟩;have hj:=(aj.1 F).1;rw[bK]at hj;by_cases e:i=j
 .subst e;rw[aQ Z]at F;simp only[aJ]at F;subst F;refine⟨gi,mk',⟨?_,?_,?_,?_,?_⟩,L.A k C C C⟩
  .rw[aH C];exact A.1
  .rw[aH C];exact A.2.1
  .rw[aQ C]
  .rw[aH C,S.1];exact A.2.2.2.1
  rw[aH C,S.2];exact A.2.2.2.2
 rw[aH e]at F;obtain⟨gj,mj,H,nj⟩:=h.b.pl j q F;refine⟨gj,mj,⟨?_,?_,?_,?_,?_⟩,nj.A k C C C⟩
 .rw[aH C];exact H.1
 .rw[aH C];exact H.2.1
 .rw[aH C];exact H.2.2.1
 .rw[aH C];exact H.2.2.2.1
 rw[aH C];exact H.2.2.2.2
end
structure Sm(b:Bd):Prop where
 e:b.E<=100000000000000
 k:b.K<=100000000000000
 n:b.N<=10000000
 ba:b.B<=100000000000000
def Xk.Q8(h:Xk b X)(s:Sm b):oM X:=by have F:=h.n1;have H:=h.m1;have L:=h.v1;have M:=h.v2;have S:=h.c1;have A:=h.h;have T:=s.k;refine⟨?_,h.lay.1.H h.first.2.2.2.1,λch y=>⟨(h.sS y).2.1,(h.sS y).2.2.1⟩,A.1,C⟩;simp[oE];omega
def Xk.xn(h:Xk b X)(s:Sm b):XN X:=by have y:=h.e;have A:=h.t;have F:=s.e;exact⟨C,C⟩
def Xk.qs(h:Xk b X):B4 X:=by have A:=h.pr.nl;have F:=h.sl.nl;have H:=h.vt.nl;exact⟨C,C,C,λc y=>by have:=(h.f c y).q.nl;omega⟩
def Xk.us(h:Xk b X):BI X:=λch y u A=>by have F:=(h.sS y).2.2.2 u A;unfold nN at F;have H:=rj h.n1.2 h.m1.2;omega
def Xk.MZ(h:Xk b X)(s:Sm b):X.e.length<=10000000:=by have y:=h.i;have A:=s.n;omega
def Xk.ZA(h:Xk b X):∀c∈X.a,MA X c:=λc F=>by
 have y:=h.f c F;have:=y.q.nl;refine⟨y.kd,λH L=>⟨y.ad.1,y.a1 L ?_⟩,λe=>y.un e,C⟩;by_cases A:c.kind=1
 .left;intro e;have:=H A;simp[Cx.lD,A,Qn.N,e]at this
 omega
def Xk.ZO(h:Xk b X)(s:Sm b):G1 X:=by have y:=h.me;have A:=h.t;have F:=h.h;have H:=s.e;have L:=s.k;have M:=h.MZ s;exact⟨h.Q8 s,h.us,C,C,C,C,h.pl,h.ZA⟩
def El{α:Type}{R:Rq->Prop}{y:α->Prop}{q:Qn α}(h:QK R y iQ q):q.D.length<=q.nodes.length:=by
 have:=oG h.an (λx A=>by
  obtain⟨z,F,rfl⟩:=aD.1 A
  exact h.ai z F)
 simp_all
def Xk.ZQ(h:Xk b X):A6 X:=by have F:=El h.sl;have H:=h.sl.nl;refine⟨λz y=>?_,C⟩;have A:=h.sl.id _ (h.sl.ai z y);unfold nN at A;have L:=rj h.n1.2 h.m1.2;omega
def X9(s:Sm b)(h:∀z∈zz,BM b z.2)(A:zz.length<=100):Jp zz:=by
 have F:=s.ba;refine⟨λz y=>(h z y).a,λz y=>?_,λz y=>?_,A⟩
 .have:=(h z y).ba;exact rJ C C
 have:=(h z y).pr;omega
def Xk.X9(h:Xk b X)(s:Sm b):Jp X.mv.A.D:=by have y:=El h.vt;have A:=h.vt.nl;exact Go.Proofs.YtbghhbpacijmmaaGreat.X9 s h.vt.ak C
def Xk.sek(h:Xk b X)(s:Sm b):MC X:=by have y:=h.ba;have A:=s.ba;have F:=h.MZ s;have H:=h.bl;exact⟨h.Q8 s,h.us,h.ZQ,h.X9 s,Go.Proofs.YtbghhbpacijmmaaGreat.X9 s h.bg C,C,h.id,C,h.pl⟩
def Xk.unk(h:Xk b X)(s:Sm b)(A:X.mv.A.A.kd=7)(y:X.mv.A.D≠[]):QY X:=by have F:=h.ba;have H:=s.ba;have L:=h.sl.nl;exact⟨h.ZO s,h.ZQ,C,h.X9 s,A,y,C,h.id⟩
def Y7{α:Type}{R:Rq->Prop}{y:α->Prop}{q:Qn α}(h:QK R y iQ q):yY q:=by have A:=h.k0;have F:=h.nl;exact⟨C,C,h.v0,C⟩
def Xk.otk(h:Xk b X):Xn X:=⟨Y7 h.pr,Y7 h.sl,Y7 h.vt,λc y=>Y7 (h.f c y).q⟩
def Xk.rpk(h:Xk b X)(s:Sm b){A:An}(T:Ei b A):XG X fr nr A:=by
 have h1:=T.ep;have h2:=s.e;refine⟨h.Q8 s,h.xn s,h.qs,h.nk,C,T.w4,λV=>?_,λc hc V=>?_⟩
 .exact(h.vk (M:={X.mv with a:=X.mv.a.add fr A}) h.me h.mb (h.sl.add V T) h.vt h.bg h.bl h.mv).sek s
 have H:=h.f c hc;have Y:=H.q.add V T;obtain⟨_,F,_⟩:=Qn.jL.1 V;have L:0<c.q.nodes.length:=cJ F;have hl:=El Y;have hn:=H.q.nl;have a1:(c.q.add fr A).D.length<=c.q.nodes.length:=hl;refine⟨⟨L,by show c.q.nodes.length<=100;omega,by show(c.q.add fr A).D.length<=100;omega,?_⟩,λe=>⟨⟨⟨H.ad.1,?_⟩,by have:=H.pl;show c.b<1000;omega⟩,(H.c2 e).2⟩,λe=>?_⟩
 .by_cases jt:(c.q.add fr A).D.length<c.q.nodes.length
  .exact .inl jt
  obtain⟨y,ys,hy⟩:=bQ (bM F);have S:=yf Y.an (λx hx=>by
   obtain⟨z,Z,rfl⟩:=aD.1 hx
   exact Y.ai z Z) (by rw[ay];show c.q.nodes.length<=_;omega) (show y∈c.q.nodes by rw[hy];exact aN ..)
  obtain⟨z,Z,a0⟩:=aD.1 S;refine .inr ⟨z,Z,?_⟩;show z.1=c.q.nodes.headD 0;rw[hy,a0];rfl
 .obtain⟨g1,g2⟩:=H.c2 e;exact H.a1 C (.inl (bM F))
 have:=(H.q.A (bM F)).kd;have e':c.q.A.kd=4:=e;omega
def Sm.up(s:Sm b)(k:b.K+1<=100000000000000):Sm (b.up 1):=⟨s.e,k,s.n,s.ba⟩
def Xk.vok(h:Xk b X)(s:Sm b)(S:b.K+1<=100000000000000){F:Int}{v:Vo}(H:BM b v)(T:0<=F/\F<=b.E+1):Yk X fr nr F v:=by
 have y:=h.gR T;have L:=s.up S;have V:=s.e;have Y:=h.vt.nl;have Z:=y.vt.nl;refine⟨h.Q8 s,h.xn s,C,C,C,λA M=>?_,λA M=>?_,λA M=>?_⟩
 .refine(y.pg (H.L (b.A bT).toln) A).unk L M ?_;show(X.gR F).mv.A.D++[_]≠[];simp
 .exact(y.pg (H.L (b.A bT).toln) A).sek L
 exact⟨(y.pg (H.L (b.A bT).toln) A).ZO L,y.mv.2⟩
def LD(h:∀n∈ns,0<=n/\n<=1000000000000000):∀n∈ns,(Lit.int .i64 n).wf=true:=λn y=>rJ (h n y).1 (h n y).2
def OH.ok(h:OH b r)(s:Sm b):Rc.Ok pG ⟨r.kd,[r.ln,r.nr,r.ep,r.pl,r.ct.kd,r.ct.cl,r.ct.ca],r.ct.val⟩:=by
 have F:=h.kd;have L:=h.ct.vl;have H:=h.c0;have M:=h.ln;have S:=h.nr;have T:=h.ep;have V:=h.pl;have Y:=h.ct.kd;have Z:=h.ct.cl;have a7:=h.ct.ca;have s1:=s.e;have s2:=s.k;have s3:=s.n;refine⟨by show 0<=r.kd;omega,by show r.kd<=255;omega,bz,bz,by show r.ct.val.length<=255;omega,LD ?_,h.ct.a,?_⟩
 .intro n y;simp only[bh,dB,or_false]at y;obtain rfl|rfl|rfl|rfl|rfl|rfl|rfl:=y<;>omega
 have A:∀k:Int,r.kd=k->k≠2->(r.ct.val.length:Int)<=0:=λk e1 e2=>by rw[H C];simp
 obtain e|e|e:=F
 .exact⟨(1,7,0),by simp[pG],e.symm,rfl,A 1 e bT⟩
 .exact⟨(2,7,8),by simp[pG],e.symm,rfl,by show(r.ct.val.length:Int)<=8;omega⟩
 exact⟨(3,7,0),by simp[pG],e.symm,rfl,A 3 e bT⟩
def Sp.ok(h:Sp b r)(s:Sm b):Rc.Ok pG ⟨r.kd,[r.ln,r.nr,r.ep,r.pl,r.ct.kd,r.ct.cl,r.ct.ca],r.ct.val⟩:=by
 have F:=h.kd;have H:=h.vl;have y:=h.v0;have L:=h.ln;have M:=h.nr;have S:=h.ep;have T:=h.pl;have V:=h.c0;have Y:=s.e;have Z:=s.k;have s3:=s.ba;refine⟨by show 0<=r.kd;omega,by show r.kd<=255;omega,bz,bz,H,LD ?_,h.a,?_⟩
 .intro n A;simp only[bh,dB,or_false]at A;obtain rfl|rfl|rfl|rfl|rfl|rfl|rfl:=A<;>omega
 obtain e|e|e:=F
 .exact⟨(5,7,0),by simp[pG],e.symm,rfl,by rw[y C];simp⟩
 .exact⟨(6,7,255),by simp[pG],e.symm,rfl,by show(r.ct.val.length:Int)<=255;omega⟩
 exact⟨(7,7,0),by simp[pG],e.symm,rfl,by rw[y C];simp⟩
def Ei.ok{A:An}(h:Ei b A)(s:Sm b)(y:0<=nr/\nr<=b.K):Rc.Ok xI ⟨101,[nr,A.wh,A.ep,A.mark,A.ct.kd,A.ct.cl,A.ct.ca],A.ct.val⟩:=by have F:=h.wh;have H:=h.ep;have L:=h.Xw;have M:=h.ct.kd;have S:=h.ct.cl;have T:=h.ct.ca;have V:=h.ct.vl;have Y:=s.e;have Z:=s.k;have s3:=s.n;refine⟨by show(0:Int)<=101;omega,by show(101:Int)<=255;omega,bz,bz,by show A.ct.val.length<=255;omega,LD ?_,h.ct.a,⟨(101,7,8),by simp[xI],rfl,rfl,by show(A.ct.val.length:Int)<=8;omega⟩⟩;intro n y;simp at y;omega
def BM.ok{v:Vo}(h:BM b v)(s:Sm b){y:Int}(A:0<=nr/\nr<=b.K)(H:0<=y/\y<=b.E+1):Rc.Ok xW ⟨102,[nr,y,v.wh,v.pr,v.ba],v.val⟩:=by have L:=h.wh;have M:=h.pr;have S:=h.ba;have F:=h.vl;have T:=s.e;have V:=s.k;have Y:=s.ba;refine⟨by show(0:Int)<=102;omega,by show(102:Int)<=255;omega,bz,bz,F,LD ?_,h.a,⟨(102,5,255),by simp[xW],rfl,rfl,by show(v.val.length:Int)<=255;omega⟩⟩;intro n A;simp at A;omega
section
variable{v:Nat}{P:Pl}
theorem Bv.recv(h:Bv w cP n m v ce i gi jl mk P)(hk:Oq b n m v i P)(s:Sm b)(T:n<=3/\m<=3)(a6:300*jl<=1000000000000){p:Pk}(hl:ui b n m v ⟨fr,tt,p⟩)(H:jP n m i=tt)(hi:i<14)(dv:Value)(hd:sJ w dv p.bytes):iU 101 #[O gi,I fr,dv] w λen w'=>en=iF/\∃fz,j4 (λt=>t=10+3*i\/t=11+3*i) w cP w' fz/\Bv w' fz n m v ce i gi (jl+1) mk (P.recv n m v ce fr p):=by
 cases p with
 |rep nr A=>have M:=hl.1;change 1000<=tt at M;rw[<-H]at M;unfold jP at M;split at M<;>omega
 |vot nr lt u=>have M:=hl.1;change 1000<=tt at M;rw[<-H]at M;unfold jP at M;split at M<;>omega
 |req r=>
  obtain⟨L,hN,S,a8,a9⟩:=h;obtain⟨a4,y⟩:=hl;obtain⟨j,hj,V⟩:=a4;change fr=ja j at V;have a0:1000<=fr:=by rw[V];unfold ja;omega
  have a1:fr<=1099:=by rw[V];unfold ja;omega
  have aa:=hk.q.len;have a5:=rj T.1 T.2;have a7:(n:Int)*m<=9:=by exact_mod_cast a5
  simp only at y;have a2:(P.q.map Qe.z).length<=1000:=by rw[ay];omega
  obtain⟨a3,q,up,nf⟩:=P
  cases a3 with
  |unit ch st=>
   have Y:UU r (.unit ch st):=by
    obtain⟨_,F⟩|⟨Z,_⟩:=y
    .exact⟨F.ln,⟨F.kd,F.c2⟩,F.ok s,F.ct.a⟩
    have u1:=S.1;rw[H]at u1;unfold n9 at Z;omega
   refine(Fh w gi fr dv _ (YM hN C C C C a2 dv fr r a0 a1 hd Y C rfl)).L ?_;rintro en w'⟨rfl,L',fz,Z,l1,l2,t3,t4⟩;have hz:=RW q ⟨fr,r.ln,r.nr,.rep r.nr (mh n m v ce ch st r).1⟩;refine⟨rfl,fz,⟨t4,Z⟩,L',?_,S,C,C⟩;show Nd _ _ _ _ _ _ _ _ _ _ _ _ ((uU q _).map Qe.z);rw[<-hz];exact t3
  |voter st=>
   have Y:UU r (.voter st):=by
    obtain⟨Z,_⟩|⟨_,F⟩:=y
    .have u1:=S.1;rw[H]at u1;unfold nN at Z;omega
    exact⟨F.ln,F.kd,F.ok s,F.a⟩
   refine(Fh w gi fr dv _ (XW hN C C C C a2 dv fr r a0 a1 hd Y C rfl)).L ?_;rintro en w'⟨rfl,L',fz,Z,l1,l2,t3,t4⟩;have hz:=RW q ⟨fr,r.ln,r.nr,.vot r.nr (nL st r).2.lt (nL st r).1⟩;refine⟨rfl,fz,⟨t4,Z⟩,L',?_,S,C,C⟩;show Nd _ _ _ _ _ _ _ _ _ _ _ _ ((uU q _).map Qe.z);rw[<-hz];exact t3
theorem Cl.recv(h:Cl w cP t p qb X)(y:100<=t)(Y:Xk b X)(s:Sm b)(sk:b.K+1<=100000000000000){pk:Pk}(L:ui b n m v ⟨fr,tt,pk⟩)(a0:1000<=tt)(a1:(n:Int)*m<=9)(a2:v<=5)(dv:Value)(Z:sJ w dv pk.bytes)(M:∀b,dv.ownBlock=some b->¬Mc t (cP b)):iU 102 #[O p,I fr,dv] w λen w'=>en=iF/\∃fz,j4 (Mc t) w cP w' fz/\Cl w' fz t p qb (X.recv fr pk):=by
 obtain⟨V,hK⟩:=h
 cases pk with
 |req r=>
  obtain⟨F,_⟩|⟨F,_⟩:=L.2
  .unfold nN at F;simp only at F;omega
  unfold n9 at F;simp only at F;omega
 |rep nr A=>obtain⟨_,l2,H⟩:=L;refine gS (ym fr dv _ (Ki hK y fr nr A (Y.rpk s H) dv Z (H.ok s l2) M)) λw' S=>?_;obtain⟨fz,k,T⟩:=S.A;exact⟨rfl,fz,k,T⟩
 |vot nr lt u=>obtain⟨_,l2,H,l4⟩:=L;refine gS (ym fr dv _ (Nl hK y fr nr lt u (Y.vok s sk l4 H) dv Z (l4.ok s l2 H))) λw' S=>?_;obtain⟨fz,k,T⟩:=S.A;exact⟨rfl,fz,k,T⟩
end
def T8(t:Nat):Prop:=t=1\/t=4
def Wd.xm(W:Wd)(c:Kl):Kl:=c.D (W.a+1) W.ac[c.a]?
def Wd.pZ(W:Wd)(k:Nat):List Kl:=(W.gF.map W.xm).take k++W.gF.drop k
def G7(W:Wd):W.pZ 0=W.gF:=rfl
def JL(W:Wd):W.pZ W.gF.length=W.gF.map W.xm:=by unfold Wd.pZ;rw[eQ,cF,bI bz]
def Kb(W:Wd)(k)(h:k<=W.gF.length):(W.pZ k).length=W.gF.length:=by simp[Wd.pZ];omega
def Di(W:Wd)(k)(y:k<W.gF.length):(W.pZ k)[k]?=W.gF[k]?:=by unfold Wd.pZ;have h:(List.take k (W.gF.map W.xm)).length=k:=ik;rw[aC C,h];simp
def yl(W:Wd)(h:W.gF[k]?=some c):W.pZ (k+1)=(W.pZ k).set k (W.xm c):=by
 have y:=(aj.1 h).1;have A:(W.gF.map W.xm)[k]?=some (W.xm c):=by rw[aK,h];rfl
 unfold Wd.pZ;have F:(List.take k (W.gF.map W.xm)).length=k:=ik;rw[eA _ _ C,F];have H:List.drop k W.gF=c::List.drop (k+1) W.gF:=by rw[cm y];simp_all
 rw[H,cW,A];simp
def xF(W:Wd)(y:W.gF[k]?=some c)(h:W.xm c=c):W.pZ (k+1)=W.pZ k:=by
 rw[yl W y,h];have A:=Di W k (aj.1 y).1;rw[y]at A;apply bJ;intro i;by_cases e:k=i
 .subst e;rw[aQ (aj.1 A).1,A]
 simp_all
section
variable{V:WV}
theorem uB(h:kM w cP g W V)(hW:Wk W)(eu:W.jl<=100000000000)(bs:W.gF.length<=1000000000):Calls prog 53 #[O g] w λen w'=>en=.returned (.bool true)/\∃fz,j4 T8 w cP w' fz/\Wx w' fz g W.jx:=by
 obtain⟨ca,cc,bv⟩:=h.ca.row.D;obtain⟨aa,ac,bw⟩:=h.D.row.D;obtain⟨pv,av,lv,cv,hv,mv,ps,aw,ls,cs,tp⟩:=V;simp only at bv bw;subst bv bw;have c8:=h.cellAt 8 rfl;have f8:=h.N 8;have lg:=h.lt;have h1:=h.PL (W.a+1);have k1:j4 T8 w cP (w.setCell (U g 8) (I (W.a+1))) cP:=(mo h.tg 8 _).L λt e=>.inl e;obtain⟨Wa,b7⟩:=gG (w.setCell (U g 8) (I (W.a+1)));rw[b7]at h1 k1;have dl:IntKind.i64.wrap (W.a+1)=W.a+1:=by have:=hW.nw;rw[IntKind.wrap_i64];omega
 obtain⟨HW,H1,bx,bB⟩:=kN hW h1 k1 b7;clear h h1 k1 hW b7;go_enter func53,ntmps53;go_upto_region 2 with fail;rw[bB.o];clear bB c8 f8;go_wp2;go_loopw[3](λi wr=>∃(k:Nat) (fz:Nat->Nat) (a9:List Value),k<=W.gF.length/\i=I k/\Hid (j4 T8 w cP wr fz)/\Hid (kM wr fz g {W with a:=W.a+1,gF:=W.pZ k} ⟨pv,.slice aa W.ac.length ac,lv,.slice ca W.gF.length cc,hv,mv,ps,aw,ls,a9,tp⟩)) λi _=>W.gF.length-(Go.RowKit.intOf i).toNat
 case atStart=>exact⟨0,cP,cs,jR,rfl,bx,by rw[G7];exact H1⟩
 clear H1 bx;obtain⟨k,fz,a9,hk,rfl,HK,HD⟩:=hrel;have d7:=HD.cellAt 7 rfl;have bC:=HD.lt;by_cases jt:k<W.gF.length
 .have eg:(k:Int)<(W.gF.length:Int):=C;have bD:=Di W k jt;obtain⟨c,hc⟩:=nS jt;have bE:=HW.ca c (aR hc);obtain⟨A,hA,dn,bR⟩:=bE.ac;obtain⟨r,hr⟩:=nS dn;have ds:=(aj.1 hA).1;have ei:(c.a:Int)<(W.ac.length:Int):=C;obtain⟨bV,bW,Hc⟩:=iI (Kb W k hk) (bD.H hc) hc;obtain⟨Hr,HA,dt⟩:=iI hr hA bR;have ad:=HD.ca.row;simp only[bV.o]at ad;obtain⟨cb,rfl,ev,am,T,bX⟩:=ad.cells C;obtain⟨tv,rv,e0,e1,e2,e3,e4,e5,e6,e7,e8,e9,c0,c1,an⟩:=HD.ca.c k c bW;have d0:=(T (k*11) C).H e0;have d1:=(T (k*11+1) C).H e1;have d2:=(T (k*11+2) C).H e2;have d3:=(T (k*11+3) C).H e3;have d4:=(T (k*11+4) C).H e4;have d5:=(T (k*11+5) C).H e5;have d6:=(T (k*11+6) C).H e6;have b8:=(T (k*11+7) C).H e7;have d8:=(T (k*11+8) C).H e8;have d9:=(T (k*11+9) C).H e9;have ap:=(T (k*11+10) C).H c0;obtain⟨ta,tc,rfl⟩:=c1.D;obtain⟨ra,rc,rfl⟩:=an.D;rw[ay]at ap an;have c2:=gN an;clear e0 e1 e2 e3 e4 e5 e6 e7 e8 e9 c0 c1 an bD hc hr ad bE hA bR;have c3:=gN bX;have c4:=HD.cellAt 5 rfl;have ag:=HD.D.row;obtain⟨ab,rfl,_,c5,a6,_⟩:=ag.cells (Nat.lt_of_le_of_lt jR ds);obtain⟨p,qb,⟨c6,c7,c9⟩,cd⟩:=HD.D.ac c.a A HA;have a0:=(a6 (c.a*3) (by show c.a*3<W.ac.length*3;omega)).H c6;have a1:=(a6 (c.a*3+1) (by show c.a*3+1<W.ac.length*3;omega)).H c7;have a2:=(a6 (c.a*3+2) (by show c.a*3+2<W.ac.length*3;omega)).H c9;have cf:=gN cd;obtain⟨oQ,hO⟩:=gG (Obj.cells #[I c.a,I c.b,I c.kind,I c.pos,.string (js c.value),.slice ta c.A.length tc,I c.c,I c.fin,I c.r.wh,I c.r.ad,.slice ra c.r.val.length rc] 60);obtain⟨W5,ba⟩:=gG (wr.alloc oQ);have bA:=(Bl.refl wr).alloc oQ;have Z:=ao wr oQ;rw[ba]at bA Z;have x5:=(bA.cell bC).H c4;obtain⟨x0,x1,x2⟩:=bA.M c5 a0 a1 a2;have ej:=af c5 bA.lt;have ew:=af bC bA.lt;have cg:wr.heap.size<W5.heap.size:=(ae.1 Z).1;rw[<-hO]at Z;have y0:W5.cell? (U wr.heap.size 0)=some (I c.a):=ax W5 _ 0 _ 60 (0,0) Z;obtain⟨bb,ch,HO,ci⟩:=kN Z bA hO ba;clear bA Z a0 a1 a2 c6 c7 c9 a6 c4 ba hO ag cd T;go_upto_region 6 with fail;rw[HO.o,ci.o];clear ci;obtain⟨up,bc⟩:=gG A.up;rw[bc]at x2;have aq:=gN bc;clear bc;go_cut[5]from 15 to 107 λy wx=>∃g5,y= O g5/\Hid (Bl W5 wx/\W5.heap.size<=g5/\wx.heap[g5]?=some (.cells #[I (ja c.a),O p,.bool up] 129 (0,0)))
  case first=>
   go_region;all_goals(go_wp2_with fail;go_meet)
   all_goals(refine⟨_,rfl,?_,jr,?_⟩;(first|exact(jZ.alloc _).drew|exact(jZ.drew).alloc _|exact jZ.alloc _);exact ao _ _)
  case rest=>
   obtain⟨g5,rfl,a4⟩:=hcut;have a7:=ch.H a4.1;have ek:g5<wc.heap.size:=(ae.1 a4.2.2).1;obtain⟨z1,z2⟩:=vg a4.2.2 1 2 rfl;have ar:=(a4.1.heap cg).H bb;have ck:wr.heap.size<wc.heap.size:=af cg a4.1.lt;have y1:wc.cell? (U wr.heap.size 1)=some (I c.b):=ax wc _ 1 _ 60 (0,0) ar;obtain⟨b3,au⟩:=gO ar a7
   cases up with
   |false=>
    have M:Hid (W.xm c=c):=by unfold Hid Wd.xm Kl.D;rw[HA.o];simp only[aq.o];rfl
    have Y:=HD.bl (fz:=ir fz wr.heap.size 99) a7 λb hb=>gV _ _ _ _ hb;have a8:j4 T8 w cP wc (ir fz wr.heap.size 99):=HK.H (j4.D a7 99);obtain⟨HE,hs⟩:=gO (And.intro Y a8) (xF W Hc M);clear a7 ar bb a4 y0 x0 x1 x2 x5 d0 d1 d2 d3 d4 d5 d6 d8 d9 ap b8 d7 Y a8;go_wp2;refine⟨⟨k+1,_,a9,C,iq,HE.2,jf hs.o HE.1⟩,iD⟩
   |true=>
   have hx:=(HW.ac _ A HA).x;have ex:r.val.length<=255:=by have:=(hx.rv r (aR Hr)).vl;omega
   have cl:A.X.e.length<=1000000000:=by have:=hx.i;have:(A.X.e.length:Int)<=W.gF.length:=this;omega
   have cn:Hid (Calls prog 23 #[O p,I c.b] wc λen w'=>∃va vc,en=.returned (.tuple #[.agg #[I r.wh,I r.ad,.slice va r.val.length vc],I 0])/\Bl wc w'/\w'.ownsRow wc.heap.size 5 1 (.slice va r.val.length vc) r.val.length (r.val.map B8)):=by obtain⟨Vc,bs⟩:=cf.bl a7 (fz:=fz) λb hb=>rfl;exact IA bs c.b r Hr cl C
   have aY:=oH b8 d8 d9 ap;clear a7 ar bb a4 y0 x0 x1 x2 x5 d0 d1 d2 d3 d4 d5 d6 d8 d9 ap b8 d7 hx cl cf;go_upto_region 11 with(go_at_call 23;refine cn.L ?_;rintro en w8⟨va,vc,rfl,co,cp⟩;obtain⟨b0,bd⟩:=gO co cp;clear co cp);obtain⟨W9,cq⟩:=gG (w8.alloc (.cells #[I r.wh,I r.ad,.slice va r.val.length vc] 43));have b9:=(Bl.refl w8).alloc (.cells #[I r.wh,I r.ad,.slice va r.val.length vc] 43);have b1:=ao w8 (.cells #[I r.wh,I r.ad,.slice va r.val.length vc] 43);rw[cq]at b9 b1|-;have a5:=au.H (b0.H b9);have D9:=HD.bl (fz:=ir fz wr.heap.size 99) a5 λb hb=>gV _ _ _ _ hb;have K9:j4 T8 w cP W9 (ir fz wr.heap.size 99):=HK.H (j4.D a5 99);have b2:w8.heap.size<W9.heap.size:=(ae.1 b1).1;have ai:=((b0.H b9).heap ck).H b3;have el:wr.heap.size<W9.heap.size:=(ae.1 ai).1;obtain⟨y7,y8,y9,cr⟩:=pD ai 7 8 9 10 rfl;obtain⟨q0,q1,q2⟩:=sy b1 0 1 2 rfl;have ct:Rd W9 (ir fz wr.heap.size 99) 99 5 (.slice va r.val.length vc) (r.val.map B8):=(Rd.qW bd λb hb=>jc _ _ _ _ (aF au.lt (bd.lt b hb).1)).bl b9 λ_ _ e=>e;have b4:Rd W9 (ir fz wr.heap.size 99) 99 5 (.slice ra c.r.val.length rc) (c.r.val.map B8):=c2.bl a5 (λb hb e=>by rw[gV _ _ _ _ hb];exact e);have be:w8.heap.size≠cb:=by have:=af am (aF au.lt b0.lt);omega
   have cx:=D9.lt;obtain⟨g7,g8⟩:=D9.R 7 8 rfl;have cS:cb<W9.heap.size:=af am a5.lt;have bg:∀j,W9.frozen? (U cb j)=false:=λj=>(a5.frozen am).H (c3 j);have dw:=bg (k*11+7);obtain⟨w7,bi,bm,bn⟩:=a5.N am aY.1 aY.2.1 aY.2.2.1 aY.2.2.2;obtain⟨cV,b5,Y⟩:=iI ct b4 D9;obtain⟨a8,ak⟩:=gO K9 bg;clear b9 b1 a5 D9 K9 ai ct b4 bg cq au b0 bd cn b3 ch HD HK c2 c3 bX z1 z2 y1;have al:Hid (¬(c.fin=0/\r.wh≠0)->W.xm c=c):=by intro dO;unfold Wd.xm Kl.D;rw[HA.o];simp only[aq.o,Hr.o,if_true,az dO]
   by_cases S:c.fin=0
   .by_cases bo:r.wh=0
    .have M:=gN (xF W Hc (al λe=>e.2 bo));rw[S]at y7;rw[bo]at q0;go_wp2;go_roundw
     case rel=>exact⟨k+1,_,a9,C,iq,a8,jf M.o Y⟩
     exact iD
    have M:=gN (yl W Hc);rw[S]at y7;have da:=ak (k*11+8);have db:=ak (k*11+9);have b6:=ak (k*11+10);go_upto_region 12 with fail;go_region;all_goals(go_wp2_with fail)
    obtain⟨W10,F⟩:=gG ((W9.setCell (U cb (k*11+7)) (I (W.a+1))).drew);have a3:gI (λb=>b=cb) W9 W10:=by rw[<-F];exact((gI.refl (λb=>b=cb) W9).setCell (U cb (k*11+7)) (.inl rfl) _).H (gI.D jZ.drew)
    have dc:g≠cb:=λe=>gW Y.ca.row.ij Y.hg bT (by rw[e];rfl);have ez:=(a3.cell cx dc (o:=7)).H g7;have f0:=(a3.cell b2 be (o:=0)).H q0;have f1:=(a3.cell b2 be (o:=1)).H q1;have f2:=(a3.cell b2 be (o:=2)).H q2;have em:W10.cell? (U cb (k*11+8))=some (I c.r.wh):=by rw[<-F];exact(World.cell?_setCell_other _ _ _ _ bz).H bi
    have ep:W10.cell? (U cb (k*11+9))=some (I c.r.ad):=by rw[<-F];exact(World.cell?_setCell_other _ _ _ _ bz).H bm
    have eq:W10.cell? (U cb (k*11+10))=some (.slice ra c.r.val.length rc):=by rw[<-F];exact(World.cell?_setCell_other _ _ _ _ bz).H bn
    have f3:W10.frozen? (U cb (k*11+8))=false:=by rw[<-F];exact(World.frozen?_setCell _ _ _ _).H da
    have f4:W10.frozen? (U cb (k*11+9))=false:=by rw[<-F];exact(World.frozen?_setCell _ _ _ _).H db
    have er:W10.frozen? (U cb (k*11+10))=false:=by rw[<-F];exact(World.frozen?_setCell _ _ _ _).H b6
    have es:=af cx a3.size;have ea:=af cS a3.size;have eb:=af b2 a3.size;rw[F];have dd:=gN F;clear F a3 g7 g8 q0 q1 q2 w7 bi bm bn y7 y8 y9 cr dw da db b6;go_region;all_goals(go_wp2_with fail)
    have ec:(((W10.setCell (U cb (k*11+8)) (I r.wh)).setCell (U cb (k*11+8+1)) (I r.ad)).setCell (U cb (k*11+8+2)) (.slice va r.val.length vc)).drew=(lT W9 cb (k*11+7) [I (W.a+1),I r.wh,I r.ad,.slice va r.val.length vc]).drew.drew:=by rw[<-dd.o];rfl
    rw[ec];have hC:=Y.ca.D bV bW (W.a+1) r _ cV;have dg:ir fz wr.heap.size 99 cb=4:=Y.ca.row.cP cb rfl;have hP:j4 (λs=>s=4) W9 (ir fz wr.heap.size 99) (lT W9 cb (k*11+7) [I (W.a+1),I r.wh,I r.ad,.slice va r.val.length vc]) (ir fz wr.heap.size 99):=Gc dg _ _;have hD:=Y.TR (hP.L λt e=>.inl e) hC;have bp:=hD.bl (fz:=ir fz wr.heap.size 99) (jZ.drew.drew) λ_ _=>rfl;have ee:W.xm c={c with fin:=W.a+1,r:=r}:=by unfold Wd.xm Kl.D;rw[HA.o];simp only[aq.o,Hr.o,if_true,aE (And.intro S bo)]
    rw[ee]at M;have bq:=M.o;simp only at bp;rw[<-bq]at bp;exact⟨⟨k+1,_,_,C,iq,(a8.H (hP.L λt e=>.inr e)).H (j4.A (jZ.drew.drew) λ_ _=>rfl),bp⟩,iD⟩
   have dj:c.r=r:=by have h1:=dt aq S;have h2:=Hr.o;rw[h1]at h2;simpa using h2
   have M:=gN (xF W Hc (al λe=>S e.1));rw[dj]at y8 y9 cr b5;clear w7 bi bm bn dj;have v1:=mm _ r.val W9 cV.bs.sl;have v2:=mm _ r.val W9 b5.bs.sl;go_wp2;refine⟨⟨k+1,_,a9,C,iq,a8,jf M.o Y⟩,iD⟩
 have f5:¬((k:Int)<(W.gF.length:Int)):=C;have ef:k=W.gF.length:=C;subst ef;go_wp2;go_ret;have S:=HD.o;rw[JL W]at S;exact⟨rfl,fz,HK,⟨_,S⟩⟩
end
section
variable{V:WV}
theorem Fi(h:kM w cP g W V)(L:W.iP=[])(fr tt)(da)(dn dc):iU 100 #[O g,.agg #[I fr,I tt,gK da dn dc]] w λT w'=>T=gU (.bool (W.j6 fr tt))/\Bl w w':=by
 have S:W.j6 fr tt=false:=by simp[Wd.j6,L]
 rw[S];have y:=h.ms;rw[L]at y;obtain⟨Z,mc,A⟩:=y.D;have F:=(Bl.refl w).alloc (ig #[I fr,I tt,gK da dn dc] 138);have M:=(F.cell h.lt).H (h.cellAt 10 rfl);rw[A]at M;have lg:=af h.lt F.lt;have Y:=gN F;clear h F y A S L;go_enter func100,ntmps100;go_wp2_with fail;go_loopw[5](λi wr=>i=I 0/\wr=w.alloc (ig #[I fr,I tt,gK da dn dc] 138)) λ_ _=>0
 case atStart=>exact⟨rfl,rfl⟩
 obtain⟨rfl,rfl⟩:=hrel;go_wp2;go_ret;exact⟨rfl,Y⟩
structure KZ(iP:List Int):Prop where
 c:∀{w:World} {cP:Nat->Nat} {g:Nat} {W:Wd} {V:WV},kM w cP g W V->W.iP=iP->∀(fr tt:Int) (da:Option Addr) (dn dc:Nat),Calls prog 100 #[O g,.agg #[I fr,I tt,.slice da dn dc]] w λen w'=>en=.returned (.bool (W.j6 fr tt))/\Bl w w'
def wF:KZ []:=⟨λh y fr tt A dn F=>Fi h y fr tt A dn F⟩
end
structure Sw(W:Wd):Prop where
 a:W.jl<=3000000000
 c:W.gF.length<=9999999
def Sw.sm(h:Sw W)(i):Sm (W.A i):=by have y:=h.a;have A:=h.c;exact⟨by show(W.jl:Int)<=100000000000000;omega,by show 20*_<=100000000000000;omega,by show(W.gF.length:Int)<=10000000;omega,by show 200*(W.jl:Int)<=100000000000000;omega⟩
def Sw.k1(h:Sw W)(i):(W.A i).K+1<=100000000000000:=by have y:=h.a;show 20*_+1<=100000000000000;omega
def Ph(t:Nat):Prop:=t=1\/t=4\/t=9\/(10<=t/\t<52)\/(100<=t/\t<356)
structure HF(w:World)(cP:Nat->Nat)(wr:World)(fz:Nat->Nat)(gl:Nat)(cv:Value)(fr tt:Int)(dv:Value)(D:List Int):Prop where
 k:j4 Ph w cP wr fz
 box:wr.heap[gl]?=some (.cells #[I fr,I tt,dv] 138 (0,0))
 tb:fz gl=9
 data:nh wr fz 9 5 1 cv D.length (D.map B8)
 src:Rd wr fz 98 5 dv (D.map B8)
def HF.step{wr y:World}{D:List Int}(h:HF w cP wr fz gl cv fr tt dv D)(A:j4 (λt=>(10<=t/\t<52)\/(100<=t/\t<356)) wr fz y tag2):HF w cP y tag2 gl cv fr tt dv D:=
 ⟨h.k.H (A.L λt e=>by unfold Ph;omega),(A.heap h.box h.tb C).1,(A.heap h.box h.tb C).2,h.data.A A C,h.src.A A C⟩
def nh.pkt{D:List Int}(h:nh w cP t 5 1 cv D.length (D.map B8))(F:0<D.length):sJ w cv D:=by obtain⟨H,y,L,M,_,S,_,T,V⟩:=h.block F;subst M;refine⟨H,0,y,rfl,S,T,by unfold maxLen at V;omega,λj d A=>?_⟩;have Y:=(aj.1 A).1;rw[bP,h.ij.cellAt j C,aK,A];rfl
theorem ui.len{v:Nat}(h:ui b n m v l)(s:Sm b):l.pk.bytes.length<=600/\nX l.pk.bytes/\3<=l.pk.bytes.length:=by
 obtain⟨fr,tt,p⟩:=l;have y:∀{oX:List (Int×Int×Int)} {kd:Int} {ns val:List Int},Rc.Ok oX ⟨kd,ns,val⟩->ns.length<=7->(j5 kd ns val).length<=600/\nX (j5 kd ns val)/\3<=(j5 kd ns val).length:=λH S=>by
  refine⟨?_,λd L=>Rc.range H d L,?_⟩
  .have:=H.v1;rw[m9];simp at this|-;omega
  rw[m9];omega
 cases p with
 |req r=>
  have M:Rc.Ok pG ⟨r.kd,[r.ln,r.nr,r.ep,r.pl,r.ct.kd,r.ct.cl,r.ct.ca],r.ct.val⟩:=by
   obtain⟨_,F⟩|⟨_,F⟩:=h.2
   .exact F.ok s
   exact F.ok s
  exact y M bz
 |rep nr A=>exact y (h.2.2.ok s h.2.1) bz
 |vot nr T u=>exact y (h.2.2.2.ok s h.2.1 h.2.2.1) bz
def HF.dat{wr:World}{v:Nat}(h:HF w cP wr fz gl cv fr tt dv l.pk.bytes)(y:ui b n m v l)(s:Sm b):sJ wr cv l.pk.bytes:=h.data.pkt (gM ((y.len s).2.2))
def Mf:W.qp l 0=W.pl:=by
 apply bJ;intro i;rw[pf]
 cases W.pl[i]?<;>simp
def Uy:(W.qp l k)[k]?=W.pl[k]?:=by
 rw[pf]
 cases W.pl[k]?<;>simp
def GB:(W.qp l k).length=W.pl.length:=dJ ..
theorem RS{P:Pl}(h:W.pl[k]?=some P)(y:jP W.n W.m k=l.tt)(A:P.up=true):W.qp l (k+1)=(W.qp l k).set k (P.recv W.n W.m W.v W.ce l.fr l.pk):=by
 apply bJ;intro i;by_cases e:k=i
 .subst e;rw[aQ (by rw[GB];exact(aj.1 h).1),pf,h];simp_all
 rw[aH e,pf,pf]
 cases W.pl[i]? with
 |none=>rfl
 |some Q=>have:i<k+1↔i<k:=C;simp_all
theorem S8{P:Pl}(h:W.pl[k]?=some P)(y:¬(jP W.n W.m k=l.tt/\P.up=true)):W.qp l (k+1)=W.qp l k:=by
 apply bJ;intro i;rw[pf,pf];by_cases e:k=i
 .simp_all
 cases W.pl[i]? with
 |none=>rfl
 |some Q=>have:i<k+1↔i<k:=C;simp_all
def Oa:W.sA l 0=W.ac:=by
 apply bJ;intro i;rw[oV]
 cases W.ac[i]?<;>simp
def D3:(W.sA l k)[k]?=W.ac[k]?:=by
 rw[oV]
 cases W.ac[k]?<;>simp
def PE:(W.sA l k).length=W.ac.length:=dJ ..
theorem Q3{A:Ac}(h:W.ac[k]?=some A)(y:ja k=l.tt)(F:A.up=true):W.sA l (k+1)=(W.sA l k).modify k λB=>{B with X:=A.X.recv l.fr l.pk}:=by
 apply bJ;intro i;rw[bS];by_cases e:k=i
 .subst e;rw[D3,oV];simp_all
 rw[oV,oV]
 cases W.ac[i]? with
 |none=>rfl
 |some Q=>have:i<k+1↔i<k:=C;simp_all
theorem Uw{A:Ac}(h:W.ac[k]?=some A)(y:¬(ja k=l.tt/\A.up=true)):W.sA l (k+1)=W.sA l k:=by
 apply bJ;intro i;rw[oV,oV];by_cases e:k=i
 .simp_all
 cases W.ac[i]? with
 |none=>rfl
 |some Q=>have:i<k+1↔i<k:=C;simp_all
def Old(W:Wd)(ps:List Value)(k:Nat)(w:World)(cP:Nat->Nat):Prop:=∀(i:Nat) (P:Pl),k<=i->W.pl[i]?=some P->∃gi mk,Rs ps W.n W.m i gi mk P.up P.nf/\Bv w cP W.n W.m W.v W.ce i gi W.jl mk P
def Old.A(h:Old W ps k w cP)(H:j4 P w cP w' fz)(T:k<=j)(y:∀i t,j<=i->i<14->(t=10+3*i\/t=11+3*i\/t=12+3*i)->¬P t)(L:W.pl.length<=14):Old W ps j w' fz:=λi Q A F=>by obtain⟨gi,mk,M,S⟩:=h i Q C F;have:=(aj.1 F).1;exact⟨gi,mk,M,S.A H (y i _ A C (.inl rfl)) (y i _ A C (.inr (.inl rfl))) (y i _ A C (.inr (.inr rfl)))⟩
def Po(tp t:Nat):Prop:=t=1\/t=2\/t=5\/t=tp\/(10<=t/\t<52)\/(100<=t/\t<356)
def Je{α:Type}{l:List α}{a:α}{f:α->α}(h:l[j]?=some a):l.modify j f=l.set j (f a):=by
 apply bJ;intro i;rw[bS];by_cases e:j=i
 .subst e;rw[h,aQ (aj.1 h).1];simp
 rw[aH e];simp[e]
section
variable{V:WV}
theorem UE(h:kM w cP g W V)(hW:Wk W)(hS:Sw W)(i)(h0:-9223372036854775808<=i)(h1:i<=9223372036854775807)(k:Nat)(hk:pk i (W.pl.length+W.ac.length)=k)(hy:0<W.ac.length):iU 65 #[O g,I i] w λen w'=>en=gU (.bool true)/\∃fz,j4 (Po V.tp) w cP w' fz/\∃V',V'.tp=V.tp/\kM w' fz g (W.lM k) V':=by
 obtain⟨i5,ji,ge,gj,gm⟩:=fx Tryz.Dl;obtain⟨dl,dn,r0,r1,r2⟩:=fx Tryz.UX;obtain⟨pa,pc,dw⟩:=h.b.row.D;obtain⟨aa,ac,dO⟩:=h.D.row.D;obtain⟨la,lc,e5⟩:=h.po.row.D;have gn:=h.ht;obtain⟨pv,av,lv,cv,hv,mv,ps,aw,ls,cs,tp⟩:=V;simp only at dw dO e5 gn|-;subst dw dO e5;have hB:=h.a;have hC:=h.an;have hg:=hS.a;have b3:=hW.a;have go:=mO i (W.pl.length+W.ac.length) C;rw[hk]at go;have e6:=gN λWm=>nT i (W.pl.length+W.ac.length) Wm h0 h1 C C;rw[hk]at e6;obtain⟨c4,c5⟩:=h.R 4 5 rfl;have lg:=h.lt;obtain⟨bE,e7,H⟩:=iI hW hS h;clear h hW hS hk h0 h1;go_enter func65,ntmps65;go_upto_region 1 with fail;go_quiet((go_at_call 15;exact Calls.quiet_of_same (e6 _)));obtain⟨Wq,cg⟩:=gG (w.drewN nq);have bq:Bl w Wq:=by rw[<-cg];exact jZ.drewN nq
 rw[cg];obtain⟨Y,ch⟩:=gO (H.bl (fz:=cP) bq λ_ _=>rfl) bq;obtain⟨c4,c5⟩:=Y.R 4 5 rfl;have hD:=Y.lt;clear cg H bq;by_cases hb:k<W.pl.length
 case' pos=>
  have gq:(k:Int)<(W.pl.length:Int):=C;obtain⟨Q,hQ⟩:=nS hb;have T:=Y.b.row;obtain⟨pb,rfl,hE,hH,a6,e8⟩:=T.cells (by show 0<W.pl.length;omega);obtain⟨gu,mk,b7,e9⟩:=Y.b.pl k Q hQ;obtain⟨ak,ea⟩:=gO b7 e9;obtain⟨e0,e1,e2,e3,e4⟩:=b7;have d0:=(a6 (k*5) (by show k*5<W.pl.length*5;omega)).H e0;have d1:=(a6 (k*5+1) (by show k*5+1<W.pl.length*5;omega)).H e1;have d2:=(a6 (k*5+2) (by show k*5+2<W.pl.length*5;omega)).H e2;have d3:=(a6 (k*5+3) (by show k*5+3<W.pl.length*5;omega)).H e3;obtain⟨bR,Z⟩:=gG Q.up;rw[Z]at d3;obtain⟨a7,HQ⟩:=gO Z hQ;clear a6 e0 e1 e2 e3 e4 T e8 Z e9 hQ
  cases bR with
  |false=>
   have b8:Hid (W.lM k=W):=by unfold Hid Wd.lM;rw[aE hb,HQ.o];simp[a7.o]
   go_wp2;go_ret;exact⟨rfl,cP,j4.A ch λ_ _=>rfl,by rw[b8.o];exact⟨_,rfl,Y⟩⟩
  |true=>?_
  obtain⟨L,hN,eb,ci,ec⟩:=ea.o;have gr:=(bE.pk k Q HQ).q.len;have HO:=gN (NZ hN (by rw[ay];omega) C C C);obtain⟨ms,a4⟩:=gG ((Q.q.map λe=>(⟨jP W.n W.m k,e.cl,e.pk⟩:Le)):List Le);have b9:qB (Q.q.map Qe.z)=ms.map λx=>(x.tt,x.pk.bytes):=by rw[<-a4];unfold qB;rw[br,br];rfl
  rw[b9]at HO;rw[ay]at HO;have HE:=nJ eb ci ec;have ba:ms.length<=80:=by rw[<-a4,ay];exact gr
  have al:=gN a4;clear hN eb ci ec b9 ea a4;go_upto_region 9 with(go_at_call 98;refine HO.L ?_;rintro en w1⟨va,vc,xs,tag1,rfl,ee,a8,ef,a9⟩;have a0:=oH ee a8 ef a9;clear ee a8 ef a9);have k1:j4 (λt=>t=10+3*k\/t=11+3*k\/t=12+3*k) Wq cP w1 tag1:=⟨a0.2.2.2.L λ_ _ e=>.inr (.inl e),a0.1⟩;have ad:=Y.X8 k1 HQ (P1:={Q with q:=[]}) ak ⟨L,a0.2.2.1,HE⟩;have am:Na w1 tag1 (12+3*k) va vc (ms.map λx=>(x.tt,x.pk.bytes)) xs 0:=xH.Zz (by rw[ay];exact a0.2.1);have an:=ad.b.row;simp only[bK]at an;obtain⟨gs,bb,hh,hi,bc,ck⟩:=an.cells C;simp only[aJ,Z0,ZS]at bb;subst bb;have s1:=(bc (k*5+1) C).H ak.2.1;have eg:=gN (FB a0.2.2.1 (gM HE.2.2));have bd:=oH ad am a0.2.2.1 k1;clear ad am k1 bc ck an a0 Y HO;go_upto_region 10 with(go_at_call 70;refine eg.L ?_;rintro en w2⟨ia,ic,rfl,be⟩;have ei:=gN be;clear be);have b2:=ei.o;have cl:=(bd.1.bl (fz:=tag1) b2 λ_ _=>rfl).uS (a:=W.jl+1) rE;have ap:=cl.b.row;simp only[bK]at ap;obtain⟨gs,bb,ej,ek,aq,bg⟩:=ap.cells C;simp only[aJ,Z0,ZS]at bb;subst bb;have s0:=(aq (k*5) C).H ak.1;have s2:=(aq (k*5+2) C).H ak.2.2.1;have f2:=bg (k*5+2);have ci:¬(L:Int)<(mk:Int):=by have:=HE.2.1;omega
  have k2:j4 (λs=>s=2) w2 tag1 (w2.setCell (U pb (k*5+2)) (I L)) tag1:=mo ej _ _;have bV:=cl.SZ (pb:=pb) (N:=W.pl.length) (pc:=pc) rfl bz (i:=k) (gi:=gu) (mk:=mk) (mk':=L) (p:={Q with q:=[]}) (p':=Q.jE) (by show(W.pl.set k _)[k]?=_;rw[aQ hb]) ak ⟨rfl,rfl⟩ ⟨L,bd.2.2.1.A (P:=λ_=>False) (j4.A b2 λ_ _=>rfl) bz bz bz,HE.1,jr,by have:=HE.2.2;show _<=300*(W.jl+1);omega⟩;have cn:=(bd.2.1.A (P:=λ_=>False) (j4.A (fz:=tag1) b2 λ_ _=>rfl) bz).A k2 C;have co:j4 (Po tp) w cP (w2.setCell (U pb (k*5+2)) (I L)) tag1:=(((j4.A (fz:=cP) ch λ_ _=>rfl).H (bd.2.2.2.L λt e=>by unfold Po;omega)).H (j4.A b2 λ_ _=>rfl)).H (k2.L λt e=>.inr (.inl e));obtain⟨W3,ag⟩:=gG (w2.setCell (U pb (k*5+2)) (I L));rw[ag]at bV cn co;simp only[fk]at bV;obtain⟨fr,ar⟩:=gG (jP W.n W.m k:Int);rw[ar]at s0;have z0:W3.cell? (U pb (k*5))=some (I fr):=by rw[<-ag];exact(World.cell?_setCell_other _ _ _ _ bz).H s0
  have hm:pb<W3.heap.size:=by rw[<-ag];simpa [World.setCell]using ek
  have el:=gN ag;obtain⟨S,a1⟩:=gG (({W with jl:=W.jl+1,pl:=W.pl.set k Q.jE}:Wd):Wd);obtain⟨V1,au⟩:=gG ((⟨gK (G pb) W.pl.length pc,gK aa W.ac.length ac,gK la W.iN.length lc,cv,hv,mv,ps.set (k*5+2) (I L),aw,ls,cs,tp⟩:WV):WV);obtain⟨ty,b5⟩:=gG (12+3*k);have cq:Hid (kM W3 tag1 g S {V1 with lv:=gK la S.iN.length lc,ls:=ls}):=by rw[<-a1,<-au];exact bV
  have cr:Hid (Na W3 tag1 ty va vc (ms.map λx=>(x.tt,x.pk.bytes)) xs 0):=j9 b5 cn;have ct:=gN co;have ep:Hid (∀(Wa Wb:World) (ta tb:Nat->Nat) (po:List Le) (Vx:WV),kM Wa ta g {S with iN:=po} Vx->j4 (λt=>t=ty) Wa ta Wb tb->kM Wb tb g {S with iN:=po} Vx):=by
   intro Wa Wb ta tb po Vx hX hk;refine hX.Zg (i:=k) (p:=Q.jE) ?_ rfl hk λt e=>by rw[e,<-b5]
   rw[<-a1];show(W.pl.set k Q.jE)[k]?=_;rw[aQ hb]
  have HF:Hid (({S with iN:=S.iN++ms}:Wd)=W.lM k):=by unfold Hid Wd.lM;rw[aE hb,HQ.o];simp only[a7.o,if_true];rw[<-a1,al.o]
  have eq:Hid (∀x∈ms,x.fr=fr):=by intro x hx;rw[<-al.o,aD]at hx;obtain⟨z,hz,rfl⟩:=hx;exact ar
  have bW:Hid (ty≠1/\ty≠tp/\Po tp ty):=⟨C,C,by unfold Po;omega⟩;have cx:Hid (V1.tp=tp):=by unfold Hid;rw[<-au]
  have er:Hid (S.iN=W.iN):=by rw[<-a1];rfl
  have c7:Hid (∀x∈ms,3<=x.pk.bytes.length/\x.pk.bytes.length<=600):=by
   intro x hx;rw[<-al.o,aD]at hx;obtain⟨e,he,rfl⟩:=hx;have es:=(bE.pk k Q HQ).q.e e he;obtain⟨jj,_,gt⟩:=es.cl;have eu:1000<=e.cl:=by rw[gt];unfold ja;omega
   have b6:=es.pk;have hl:ui (W.A 0) W.n W.m W.v ⟨0,e.cl,e.pk⟩:=by
    cases hp:e.pk with
    |req r=>rw[hp]at b6;exact b6.elim
    |rep nr A=>rw[hp]at b6;exact⟨eu,b6⟩
    |vot nr lt v=>rw[hp]at b6;exact⟨eu,b6⟩
   have:=hl.len (e7.sm 0);exact⟨this.2.2,this.1⟩
  have ba:ms.length<=200:=C;clear cl ap aq bg k2 bV cn co ag bd ei eg s1 HE a1 au b5 ar;go_upto_region 13 with fail;rw[el.o];clear el s0 s2 f2 b2;go_upto_region 19 with fail;clear z0
 case' neg=>
  have gq:¬((k:Int)<(W.pl.length:Int)):=C;obtain⟨j,hj⟩:=gG (k-W.pl.length);have gx:j<W.ac.length:=C;have hI:(j:Int)<(W.ac.length:Int):=C;have hn:IntKind.i64.wrap ((k:Int)-(W.pl.length:Int))=(j:Int):=zI;obtain⟨A,hA⟩:=nS gx;have T:=Y.D.row;obtain⟨ab,rfl,Y4,hJ,aY,_⟩:=T.cells (by show 0<W.ac.length;omega);obtain⟨p,qb,b7,ev⟩:=Y.D.ac j A hA;obtain⟨ak,ew⟩:=gO b7 ev;obtain⟨e0,e1,e2⟩:=b7;have d0:=(aY (j*3) (by show j*3<W.ac.length*3;omega)).H e0;have d1:=(aY (j*3+1) (by show j*3+1<W.ac.length*3;omega)).H e1;have d2:=(aY (j*3+2) (by show j*3+2<W.ac.length*3;omega)).H e2;obtain⟨bR,Z⟩:=gG A.up;obtain⟨fr,ar⟩:=gG (ja j:Int);rw[Z]at d2;rw[ar]at d0;obtain⟨a7,HA,Hj,ex⟩:=kN Z hA hj ar;clear aY e0 e1 e2 T Z ev hA hj ar;go_upto_region 14 with fail;go_cut[10]from 14 to 91 λy wx=>∃g5,y= O g5/\Hid (Bl Wq wx/\Wq.heap.size<=g5/\wx.heap[g5]?=some (ig #[I fr,O p,.bool bR] 129 (0,0)))
  case first=>
   go_region;all_goals(go_wp2_with fail;go_meet)
   all_goals(refine⟨_,rfl,?_,jr,?_⟩;exact nH;exact ao _ _)
  case' rest=>
   obtain⟨g5,rfl,ai⟩:=hcut;have ez:g5<wc.heap.size:=(ae.1 ai.2.2).1;obtain⟨z0,z1,z2⟩:=sy ai.2.2 0 1 2 rfl;have f0:=Y.bl (fz:=ir cP Wq.heap.size 9) ai.1 λb hb=>gV _ _ _ _ hb;have f1:=ew.bl (fz:=ir cP Wq.heap.size 9) ai.1 λb hb=>gV _ _ _ _ hb;have f3:j4 (Po tp) w cP wc (ir cP Wq.heap.size 9):=(j4.A (fz:=cP) ch λ_ _=>rfl).H (j4.D ai.1 9);have bi:=nJ f0 f1 f3;have f4:ir cP Wq.heap.size 9 g5=9:=jc _ _ _ _ ai.2.1;have f5:=nI f4 ai.2.2;clear f0 f1 f3 d0 d1 d2 c4 c5 Y ew f4 ai
   cases bR with
   |false=>
    have b8:Hid (W.lM k=W):=by unfold Hid Wd.lM;rw[az hb,Hj.o,HA.o];simp[a7.o]
    go_wp2;go_ret;exact⟨rfl,_,bi.2.2,by rw[b8.o];exact⟨_,rfl,bi.1⟩⟩
   |true=>?_
   obtain⟨VC,hK⟩:=bi.2.1;have hx:=(bE.ac j A HA).x;have cS:=e7.sm j;have HO:=gN (UB hK C (gM (hx.MZ cS)) hx.pl hx.otk);obtain⟨ms,a4⟩:=gG ((A.X.iH.map λz=>(⟨ja j,z.1,.req z.2⟩:Le)):List Le);have b9:A.X.Gi=ms.map λx=>(x.tt,x.pk.bytes):=by rw[<-a4];unfold Cx.Gi;rw[br];rfl
   have ba:ms.length<=200:=by rw[<-a4,ay];have:=hx.iH.2;omega
   rw[b9,ay]at HO;have al:=gN a4;clear hK b9 a4;go_upto_region 18 with(go_at_call 99;refine HO.L ?_;rintro en w1⟨va,vc,xs,rfl,a8,bl,a9⟩;have a0:=nJ a8 bl a9;clear a8 bl a9);obtain⟨a8,bl,a9⟩:=a0.o;have k1:j4 (Mc (100+32*j)) wc (ir cP Wq.heap.size 9) w1 (ir (ir cP Wq.heap.size 9) wc.heap.size 5):=⟨a9,λb hb=>gV _ _ _ _ hb⟩;have ad:=(bi.1.Tj k1 (λt e=>.inl (by unfold Mc at e;omega)) HA ak ⟨VC,bl⟩).uS (a:=W.jl+1) rE;have am:Na w1 (ir (ir cP Wq.heap.size 9) wc.heap.size 5) 5 va vc (ms.map λx=>(x.tt,x.pk.bytes)) xs 0:=sI.Zz (by rw[ay];exact a8) λb hb=>jc _ _ _ _ hb;have a1:=bi.2.2.H (k1.L (Q:=Po tp) λt e=>by unfold Mc at e;unfold Po;omega);have f7:w1.cell? (U g5 0)=some (I fr):=ax w1 _ 0 _ 129 (0,0) (k1.heap f5.2 f5.1 (by unfold Mc;omega)).1;have f8:g5<w1.heap.size:=af ez k1.size;obtain⟨tag1,bm⟩:=gG (ir (ir cP Wq.heap.size 9) wc.heap.size 5);rw[bm]at ad am a1;obtain⟨W3,ag⟩:=gG w1;rw[ag]at ad am a1 f7 f8|-;obtain⟨S,b0⟩:=gG (({W with jl:=W.jl+1,ac:=W.ac.modify j λB=>{B with X:=A.X.jE}}:Wd):Wd);obtain⟨V1,au⟩:=gG ((⟨gK pa W.pl.length pc,gK (G ab) W.ac.length ac,gK la W.iN.length lc,cv,hv,mv,ps,aw,ls,cs,tp⟩:WV):WV);obtain⟨ty,b5⟩:=gG 5;have cq:Hid (kM W3 tag1 g S {V1 with lv:=gK la S.iN.length lc,ls:=ls}):=by rw[<-b0,<-au];exact ad
   have cr:Hid (Na W3 tag1 ty va vc (ms.map λx=>(x.tt,x.pk.bytes)) xs 0):=j9 b5 am;have ct:=gN a1;have ep:Hid (∀(Wa Wb:World) (ta tb:Nat->Nat) (po:List Le) (Vx:WV),kM Wa ta g {S with iN:=po} Vx->j4 (λt=>t=ty) Wa ta Wb tb->kM Wb tb g {S with iN:=po} Vx):=by intro Wa Wb ta tb po Vx hX hk;exact hX.A hk λt e=>.inr (.inl C)
   have HF:Hid (({S with iN:=S.iN++ms}:Wd)=W.lM k):=by unfold Hid Wd.lM;rw[az hb,Hj.o,HA.o];dsimp only;rw[aE a7.o,<-b0,al.o,Je HA.o]
   have eq:Hid (∀x∈ms,x.fr=fr):=by intro x hx;rw[<-al.o,aD]at hx;obtain⟨z,hz,rfl⟩:=hx;exact ex
   have bW:Hid (ty≠1/\ty≠tp/\Po tp ty):=⟨C,C,by unfold Po;omega⟩;have cx:Hid (V1.tp=tp):=by unfold Hid;rw[<-au]
   have er:Hid (S.iN=W.iN):=by rw[<-b0];rfl
   have c7:Hid (∀x∈ms,3<=x.pk.bytes.length/\x.pk.bytes.length<=600):=by intro x f9;rw[<-al.o,aD]at f9;obtain⟨z,hz,rfl⟩:=f9;obtain⟨⟨gQ,gY⟩,gZ,_⟩:=hx.d;have fd:A.X.n=W.n:=gQ;have ff:A.X.m=W.m:=gY;have fi:A.X.vo=W.v:=gZ;have ho:=hx.iH.1 z hz;rw[fd,ff,fi]at ho;have:=ui.len (b:=W.A j) (n:=W.n) (m:=W.m) (v:=W.v) (l:=⟨ja j,z.1,.req z.2⟩) ⟨KQ bE HA,ho⟩ cS;exact⟨this.2.2,this.1⟩
   clear a8 bl a9 a0 k1 ad am a1 b0 au b5 bm ag HO hx cS;go_upto_region 19 with fail;clear f7
 all_goals
  have fl:S.iN.length+ms.length<=1000000000000:=by have:=er.o;rw[this];omega
  obtain⟨L,hL⟩:=gG ms.length;rw[hL]at ba fl|-;have HL:=gN hL;have hM:(L:Int)<=200:=C;clear hL;go_wp2;go_loopw[11](λi wx=>∃(j:Nat) (a3:Nat->Nat) (bX:Option Addr) (c0:Nat) (bn:List Value),j<=L/\i=I j/\Hid (j4 (Po tp) w cP wx a3)/\Hid (kM wx a3 g {S with iN:=S.iN++ms.take j} {V1 with lv:=gK bX (S.iN.length+j) c0,ls:=bn})/\Hid (Na wx a3 ty va vc (ms.map λx=>(x.tt,x.pk.bytes)) xs j)) λi _=>L-(Go.RowKit.intOf i).toNat
  case atStart=>exact⟨0,tag1,la,lc,ls,jR,rfl,ct,by rw[eE,cF];exact cq,cr⟩
  case round=>
   clear ct cq cr;obtain⟨j,a3,bX,c0,bn,hj,rfl,cV,a2,bo⟩:=hrel;have c8:=HL.o;by_cases jt:j<L
   .have hq:(j:Int)<(L:Int):=C;obtain⟨x,hx⟩:∃x,ms[j]?=some x:=⟨_,ah C⟩;have fn:(ms.map λx=>(x.tt,x.pk.bytes))[j]?=some (x.tt,x.pk.bytes):=by rw[aK,hx];rfl
    obtain⟨h2,h3⟩:=c7 x (aR hx);have h4:=gN (eq x (aR hx));have T:=bo.row;have bp:(ms.map λx=>(x.tt,x.pk.bytes)).length=L:=by rw[ay];exact c8
    rw[bp]at T;obtain⟨mb,rfl,_,fu,bs,_⟩:=T.cells C;obtain⟨e1,u,e2,e3⟩:=bo.kY j _ jr fn;obtain⟨db,dc,hr,rfl,hO,hP,fv,_,_⟩:=e3.block (by simp only;omega);have d0:=(bs (j*2) C).H e1;have d1:=(bs (j*2+1) C).H e2;simp only at d0 d1 e3;obtain⟨d4,d5,hR,d6⟩:=kN e2 e3 fv (Du e3.ij);obtain⟨BY,d7⟩:=gG x.pk.bytes;have d8:=gN d7;rw[d7]at h2 h3 d1 d4 d5 d6;have HN:Hid (wr.ownsRow wr.heap.size 5 1 OO 0 []):=m7;have fw:Hid (0+(BY.map B8).length<=maxLen):=by unfold Hid maxLen;rw[ay];omega
    have c9:Hid ((0+(BY.map B8).length)*1<=140737488355328):=by unfold Hid;rw[ay];omega
    have h5:Hid (ms.take (j+1)=ms.take j++[x]):=by unfold Hid;rw[cW,hx];rfl
    have bv:=gN bp;clear bs e1 e2 e3 fv T c8 hx fn bp d7;go_upto_region 23 with fail;go_wp2_with(at_builtin;refine m8 _ rfl _ _ 40 rfl wr.heap.size 5 i5 (.int .u8 0) 1 underlying40 ji ge gj gm rfl _ 0 [] rfl HN _ _ rfl d6 (DO BY) fw c9 bz ?_);intro v' w4 hG;obtain⟨gd,cap,h6⟩:∃gd cap,v'=gK (G gd) BY.length cap:=by
     obtain⟨_,e⟩|⟨g,cap,hT,e,_⟩:=hG.ij.2
     .omega
     .exact⟨g,cap,je e⟩
    subst h6;have b4:Bl wr w4:=hG.only.u9 λk _ e=>pV e;have g0:=gN (show w4.ownsRow wr.heap.size 5 1 (gK (G gd) BY.length cap) BY.length (BY.map B8) by simpa using hG.ij);have c6:=(b4.cell a2.lt).H (a2.cellAt 6 rfl);have f6:w4.frozen? (U g 6)=false:=(b4.frozen a2.lt).H (aP wr g 6 _ 66 a2.hg);have d9:=af a2.lt b4.lt;obtain⟨x0,x1⟩:=b4.D fu d0 d1;have ca:=af fu b4.lt;have M:({S with iN:=S.iN++ms.take j}:Wd).iN.length=S.iN.length+j:=by have:=HL.o;simp;omega
    have b3:=a2.po.row.ij;rw[M]at b3;have g1:=gN ((jY b4).jH b3 λ_ _ e=>e);have da:Hid ((gK bX (S.iN.length+j) c0).ownBlock≠some g):=gW b3 a2.hg bT;have g2:Hid ((gK bX (S.iN.length+j) c0).ownBlock≠some mb):=λe=>by obtain⟨g',bw,bx,k1,_,_,k4,_⟩:=bo.row.block (qD bv.o);simp only[bO,aJ,Z0,ZS,ZU]at k1;rw[<-k1.1]at k4;exact gW b3 k4 bT e
    have g3:Hid (S.iN.length+j+1<=maxLen):=nZ;have be:Hid ((S.iN.length+j+1)*40<=140737488355328):=nC;have g4:=gN b4;have cb:=h4.o;obtain⟨xt,dd⟩:=gG x.tt;rw[dd]at x0;have g6:=gN dd;clear b4 hG b3 d0 d1 HN d6 fw c9 dd;go_upto_region 24 with fail;go_cut[]from 92 to 138 λwy=>∃gg bA tagy,Hid (j4 (λt=>t=1\/t=tp) wr a3 wy tagy)/\Hid (kM wy tagy g {S with iN:=S.iN++ms.take (j+1)} {V1 with lv:=gK (G gg) (S.iN.length+j+1) bA,ls:=bn++[I fr,I xt,gK (G gd) BY.length cap]})
    case first=>
     go_region_law
      ((refine step_append_lies _ ko _ _ _ ko 0 138 dl _ 3 40 underlying63 dn r0 r1 r2 rfl C _ (S.iN.length+j) bn ko ((g1.alloc _).drew) (U w4.heap.size 0) 1 1 [I fr,I xt,gK (G gd) BY.length cap] ko ko (fW (cs:=#[I fr,I xt,gK (G gd) BY.length cap]) (t:=138) (fr:=(0,0)) (ao w4 _)) tx C g3 be bz (w4.heap.size+1) bz ?_;intro gg cp w5 a5 F b1 bB;have kc:=(C4 (((Bl.refl w4).alloc _).drew) F (o:=6) d9 da).1.H c6;have kf:=(C4 (((Bl.refl w4).alloc _).drew) F (o:=6) d9 da).2.H f6;have y0:=(C4 (((Bl.refl w4).alloc _).drew) F (o:=j*2) ca g2).1.H x0;have ez:g<w5.heap.size:=(by have:=F.size;simp at this;omega);have hs:mb<w5.heap.size:=(by have:=F.size;simp at this;omega);have h7:=oH a5 F b1 bB;clear a5 F b1 bB))
     all_goals(go_wp2_with fail;go_meet)
     all_goals
      obtain⟨a5,F,b1,bB⟩:=h7.o;have g7:=a2.o;rw[<-M]at g7;have c1:=kM.Sh (V:={V1 with ls:=bn}) g7 (Wa:=w4) (W1:=(w4.alloc (ig #[I fr,I xt,gK (G gd) BY.length cap] 138)).drew) g4 (((Bl.refl w4).alloc _).drew) x (ga:=G gd) (cap:=cap) (jf d8.o g0) (gg:=gg) (cp:=cp) (by rw[M,cb,g6.o,d8.o];exact a5) (jf M F) (by rw[M];exact b1.imp (λe=>e) λe=>C);rw[M,cb,g6.o,d8.o]at c1;simp only[eJ]at c1;rw[<-h5.o]at c1;obtain⟨tag2,p1,p2⟩:=c1;exact⟨gg,cp,tag2,p1.L λt e=>by(obtain e|e:=e;exact .inl e;exact .inr (e.H cx)),p2⟩
    case rest=>
     obtain⟨gg,bA,tagy,bC,h8⟩:=hcut;have hU:=bC.size;have dg:=bo.A bC λe=>gM bW.o;have g8:=d5.A bC λe=>gM bW.o;obtain⟨hV,em,_,cc,cd,_⟩:=(show nh wc tagy ty 179 2 (gK (G mb) L vc) L xs by have:=dg.row;rwa[bv.o]at this).cells C;simp only[aJ,Z0,ZS]at em;subst em;have y1:=(cd (j*2+1) C).H d4;obtain⟨g9,c2⟩:=gO dg g8;have h9:=gN (cV.H (bC.L λt e=>by unfold Po;omega));clear dg g8 cd bC bo a2 cV d5 g1 da g2 g3 be g4 g0 c6 f6 d9 x0 x1 ca M;have gb:tagy db=ty:=c2.cP db rfl;have gc:mb≠db:=λe=>by obtain⟨g',bw,bx,k1,_,_,k4,_⟩:=g9.row.block (qD bv.o);simp only[bO,aJ,Z0,ZS,ZU]at k1;rw[<-k1.1]at k4;exact gW c2.ij k4 bT (by rw[e];rfl)
     go_wp2;go_loopw[13](λi wx=>∃(t:Nat) (ds:List Value),t<=BY.length/\i=I t/\Hid (gI (λb=>b=db) wc wx)/\Hid (wx.ownsRow 0 5 1 (gK (G db) BY.length dc) BY.length ds)) λi _=>BY.length-(Go.RowKit.intOf i).toNat
     case atStart=>exact⟨0,_,jR,rfl,vO,c2.ij⟩
     case round=>
      obtain⟨t,ds,ht,rfl,bD,c3⟩:=hrel;have y2:=(bD.cell cc gc (o:=j*2+1)).H y1;have hu:=af cc bD.size;by_cases hY:t<BY.length
      .have hZ:(t:Int)<(BY.length:Int):=C;have i0:ds.length=BY.length:=jQ c3;have y3:=(c3.cellAt t C).H (ah C);obtain⟨g',bw,bx,k1,_,k3,k4,_⟩:=(show nh wr (λ_=>0) 0 5 1 (gK (G db) BY.length dc) BY.length ds from⟨c3,λ_ _=>rfl⟩).block C;simp only[bO,aJ,Z0,ZS,ZU]at k1;rw[<-k1.1]at k3 k4;have y4:=aP _ db t _ 5 k4;generalize ds[t]=dt at*;clear k4 k1;go_wp2;exact⟨⟨t+1,ds.set t (.int .u8 99),C,iq,bD.setCell (U db t) (.inl rfl) _,wW c3 t _⟩,iD⟩
      .have hw:¬((t:Int)<(BY.length:Int)):=C;have dj:j4 (λs=>s=ty) wc tagy wr tagy:=⟨bD.L λb _ e=>jf e gb,λ_ _=>rfl⟩;have ha:=gN (ep _ _ _ _ _ _ h8 dj);have hc:=gN (g9.TE d4 rfl (by
        obtain⟨g',bw,bx,k1,_,_,k4,_⟩:=c2.block C
        simp only[bO,aJ,Z0,ZS,ZU]at k1
        rw[<-k1.1]at k4
        exact⟨_,k4⟩) bD)
       have hd:=gN (h9.H (dj.L λt e=>jf e bW.2.2));clear dj;go_wp2;exact⟨⟨j+1,tagy,G gg,bA,_,C,iq,hd,ha,hc⟩,iD⟩
   .have i1:¬((j:Int)<(L:Int)):=C;have hf:j=L:=C;subst hf;go_wp2;go_ret;have cf:=a2.o;rw[bI (gM HL.o),HF.o]at cf;exact⟨rfl,a3,cV,⟨_,by exact cx,cf⟩⟩
end
end Go.Proofs.YtbghhbpacijmmaaGreat
