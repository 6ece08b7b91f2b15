import Derived.Deep.CutBlock
import Derived.Test.YtbghhbpacijmmaaGreatL12
open Go.Proofs.Tryz
namespace Go.Proofs.YtbghhbpacijmmaaGreat
set_option maxRecDepth 99999
set_option maxHeartbeats 0
set_option linter.defProp false
open Go.RowKit Go.Maps
attribute [local go_sem ↓] Go.wp_at_zero Go.wp_at_succ
variable {W W':Wd} {i g p:Nat} {S:Cf} {K K':Kn} {A:Ac} {F F':Nat->Nat->Fl} {cP qb fz:Nat->Nat} {c o' c':Kl} {w w' w5 W1:World} {X X' X2:Cx} {l:Le} {a u q:Int} {V:WV} {b:Bd} {t:Ct} {s:VS} {ac ac':List Ac} {r:Rq} {v:Vo} {gQ:Ct->Int->Prop} {ca aa:Option Addr} {P:Pl}
section
variable{K2:Kn}{F:Nat->Fl}{J J':Jq}{G:Ct->Int->Prop}{P:Nat->Prop}{c:jn}
theorem rG.reQ{F:Fl}{id E:Int}(h:rG S K F J id E c){q:Qn An}(j:q.A=c.q.A)(y:q.nodes=c.q.nodes)(H:q.D=c.q.D):rG S K F J id E {c with q:=q}:=by
 refine⟨h.toCb.A rfl rfl rfl rfl rfl,λe e'=>h.g1 e (by grind),λe e'=>h.o1 e (j9 y e'),λe=>by show q.nodes≠[];rw[y];exact h.mK e,λe=>by show q.nodes=[];rw[y];exact h.a5 e,λe=>by show q.A.kd=2\/q.A.kd=3;rw[j];exact h.qk (by grind),λe=>by show q.A.ep=E;rw[j];exact h.ep (j9 y e),λe e'=>?_,λe e'=>?_⟩
 .have w:=h.q2 (by grind) (by grind);refine⟨w.kd,w.ok,by show q.A.pl=_;rw[j];exact w.pl,by show q.A.ct=_;rw[j];exact w.ct,w.co,?_,w.rt,w.p0⟩;obtain⟨u,l1,l2,L,M,Q,T⟩:=w.kY
  grind
 have w:=h.q3 (j9 y e) (j9 j e');refine⟨w.kd,by show q.A.pl=_;rw[j];exact w.pl,y.H w.nd,?_⟩;rw[H,j];exact w.an
def XI.Yp(h:XI S K F J P X)(f:Qn An->Qn An)(H:∀q,(f q).A=q.A/\(f q).nodes=q.nodes/\(f q).D=q.D)(Q:Sc {X with a:=X.a.map λ(c:jn)=>{c with q:=f c.q}} X')(T:rF S K X'):XI S K F J P X':=by
 refine XI.sc (X:={X with a:=X.a.map λ(c:jn)=>{c with q:=f c.q}}) ⟨⟨h.b.n,h.b.m,h.b.v,h.b.c,h.b.e,h.b.l⟩,λd j Y=>?_,h.e,λd j=>?_,λd j Z L e=>?_,h.mv.A rfl rfl rfl rfl rfl rfl⟩ Q T
 .obtain⟨c,y,rfl⟩:=aD.1 j;exact(h.f c y Y).reQ (H _).1 (H _).2.1 (H _).2.2
 .obtain⟨c,y,rfl⟩:=aD.1 j;exact h.g c y
 obtain⟨c,y,rfl⟩:=aD.1 j;obtain⟨c',M,rfl⟩:=aD.1 L;rw[h.nd c y c' M e]
def Cx.OL(X:Cx):Cx:={X with wl:=X.wb,A:=0,mv:=Mv.zero,a:=X.a.map λ(c:jn)=>{c with q:={c.q with mi:=true}}}
def Cx.S0(X:Cx):Cx:=if X.OL.iX.length<X.OL.a.length then X.OL.jX else X.OL
def Ti(X:Cx):X.kG=if X.S0.iJ then X.S0.iB else X.S0:=rfl
def Qr(h:XI S K F J (λ_=>True) X)(kw:Kw S K):Dq S K F J G X X.kG:=by
 have hb:=h.b;have hl:=kw.pos;rw[Ti];unfold Cx.S0;obtain⟨Y,j⟩:=gG (X.OL:Cx);rw[j];have y:XV K Y:=by rw[<-j];exact⟨by show(0:Int)<=_;omega,hb.e,h.mv.pb,h.mv.bl,h.mv.b0,h.mv.id⟩
 have L:rF S K Y:=DU y (by rw[<-j];rfl);have iY:XI S K F J (λ_=>True) Y:=h.Yp (λq=>{q with mi:=true}) (λq=>⟨rfl,rfl,rfl⟩) (by rw[<-j];exact⟨⟨⟨rfl,rfl⟩,rfl,rfl,rfl⟩,rfl,rfl,rfl,rfl⟩) L;have qY:Qg X Y:=by
  rw[<-j];refine⟨⟨iG,λd M _=>?_,λe=>absurd rfl e⟩,λhN=>hN.Ru 4 iG (λd M hn=>?_) (λe=>.inl ⟨e,rfl⟩) (λe=>absurd rfl e) λe=>absurd rfl e⟩
  .obtain⟨c,Q,rfl⟩:=aD.1 M;exact .inl ⟨c,Q,rfl,rfl,rfl⟩
  obtain⟨c,Q,rfl⟩:=aD.1 M;exact .inl ⟨c,Q,hn,rfl⟩
 have mz:rF S K (if Y.iX.length<Y.a.length then Y.jX else Y)/\Sc Y (if Y.iX.length<Y.a.length then Y.jX else Y)/\Qg Y (if Y.iX.length<Y.a.length then Y.jX else Y):=by
  split
  .exact Qp L y.e
  exact⟨L,Sc.refl _,Qg.refl _⟩
 obtain⟨Z,hZ⟩:=gG (if Y.iX.length<Y.a.length then Y.jX else Y);rw[hZ]at mz|-;obtain⟨z1,T,z3⟩:=mz;have fin:∀X2,rF S K X2->Sc Z X2->Qg Z X2->Dq S K F J G X X2:=λX2 a1 a2 a3=>⟨K,Kx.refl kw,zc.D rfl,iY.sc (T.H a2) a1,(qY.H z3).H a3⟩;split
 .obtain⟨s1,s2,s3⟩:=wG (S:=S) (X:=Z) (z1.a (by rw[T.e];exact y.e)) (by rw[T.s.2.1,<-j];exact hb.XJ);exact fin _ s1 s2 s3
 exact fin _ z1 (Sc.refl _) (Qg.refl _)
def Oz(h:XI S K F J (λ_=>True) X)(L:Kw S K):Dq S K F J G X X.jE:=by
 have j:=h.mv;refine⟨K,Kx.refl L,zc.D rfl,h.Yp Qn.jE (λq=>⟨rfl,rfl,rfl⟩) ⟨⟨⟨rfl,rfl⟩,rfl,rfl,rfl⟩,rfl,rfl,rfl,rfl⟩ ⟨j.tl,j.e0,j.pb,j.sl,j.sc,j.ep,j.me,j.nc,j.hc,j.k,j.an,j.q5,j.q6,j.bg,j.bl,j.b0,j.id⟩,⟨iG,λd y _=>?_,λ_=>.inl ⟨rfl,rfl,rfl⟩⟩,λM=>M.Ru 4 iG (λd y Q=>?_) (λe=>.inl ⟨e,rfl⟩) (λe=>.inl ⟨e,rfl⟩) λe=>.inl ⟨e,rfl⟩⟩
 .obtain⟨c,H,rfl⟩:=aD.1 y;exact .inl ⟨c,H,rfl,rfl,rfl⟩
 obtain⟨c,H,rfl⟩:=aD.1 y;exact .inl ⟨c,H,Q,rfl⟩
def XI.put(h:XI S K F J (λ_=>True) X){c1:jn}(Y:c∈X.a)(j:c1.gL=c.gL):XI S K F J (λn=>n≠c.gL) (X.put c1):=by
 refine⟨⟨h.b.n,h.b.m,h.b.v,h.b.c,h.b.e,h.b.l⟩,λd y hP=>?_,h.e,λd y=>?_,λd y Z H e=>?_,h.mv.A rfl rfl rfl rfl rfl rfl⟩
 .obtain e|⟨L,_⟩:=jV y
  .simp_all
  exact h.f d L trivial
 .obtain e|⟨L,_⟩:=jV y
  .rw[e,j];exact h.g c Y
  exact h.g d L
 obtain q|⟨L,e2⟩:=jV y
 .obtain T|⟨M,Q⟩:=jV H
  .rw[q,T]
  simp_all
 obtain T|⟨M,Q⟩:=jV H
 .simp_all
 exact h.nd d L Z M e
theorem XI.YD{T:Nat}(h:XI S K F J (λn=>n≠T) X)(kw:Kw S K)(hc:c∈X.a)(hn:c.gL=T)(hb:Cb S K (F c.gL) J X.id X.b c)(h5:c.kind≠5)(ho:c.kind=1->Ok S c.iA):Dq S K F J (λt a=>t=c.ij/\a=c.iA/\c.kind=1) X (X.dO c):=by
 obtain⟨K',Y,k2,Z,k4,k5,k6,k7,k9,H,L,M⟩:=LI h.b kw hb h5 ho;obtain⟨y,x2⟩:=h.step Y Z k4 hc M;refine⟨K',⟨Y,k2,λcl ca Q=>Z cl ca λe=>Q e.1,λj _ _ _=>λe b v x _=>j9 k4 x,k7,H,L,k9⟩,λt a e x=>?_,⟨y.b,λd hd _=>y.f d hd ?_,y.e,y.g,y.nd,y.mv⟩,x2⟩
 .grind
 omega
theorem P7(h:XI S K F J (λ_=>True) X)(kw:Kw S K)(L:c∈X.a)(hw:Cx.lD c=true){t:Int}(hJ:J c.gL c.kind c.ij c.unit t)(hF:X.oO t=false->K.Fu c.ij):Dq S K F J (λt' a=>t'=c.ij/\a=t/\X.oO t=true) X (X.jK c.gL t):=by
 have y:=h.f c L trivial;unfold Cx.lD Qn.N at hw;simp at hw;obtain⟨Q,hq⟩:=hw;have hf:X.a.find? (λd=>d.gL==c.gL)=some c:=by
  cases e:X.a.find? (λd=>d.gL==c.gL)with
  |none=>exact absurd (bU.1 e c L) bz
  |some d=>have h2:=cR e;simp at h2;rw[h.nd d (bu e) c L h2]
 have Z:∀a,Gu S K c.ij a:=λa=>by
  by_cases e:a=c.iA
  .rw[e];exact y.g1 Q hq
  exact y.gu Q a e
 unfold Cx.jK;rw[hf];dsimp only;split
 .rename_i j;have a0:Ok S t:=by unfold Cx.oO at j;simp only[bL,ZX]at j;rwa[h.b.n,h.b.c]at j
  have H:=y.toCb;have a1:Cb S K (F c.gL) J X.id X.b {c with iA:=t}:=⟨H.kd,H.oc,hJ,H.fl,H.ow,λ_ a _=>Z a,λe=>by
   have e':c.kind=2:=e
   rw[Q]at e';exact absurd e' bT⟩
  obtain⟨K',d1,d2,d3,d4⟩:=(h.put (c1:={c with iA:=t}) L rfl).YD kw (vx L rfl) rfl a1 (by show c.kind≠5;rw[Q];decide) λ_=>a0;have a2:∀d∈(X.put {c with iA:=t}).a,∃c∈X.a,c.gL=d.gL/\c.q.A=d.q.A/\c.q.nodes=d.q.nodes:=λd T=>by
   obtain e|⟨e1,_⟩:=jV T
   .exact⟨c,L,mT e,mT e,mT e⟩
   exact⟨d,e1,rfl,rfl,rfl⟩
  refine⟨K',d1,λt' a e x=>?_,d3,Qg.H (X':=X.put {c with iA:=t}) ⟨⟨iG,λd T hn=>.inl (a2 d T),λ_=>.inl ⟨rfl,rfl,rfl⟩⟩,λhN=>hN.Ru 4 iG (λd T hn=>?_) (λe=>.inl ⟨e,rfl⟩) (λe=>.inl ⟨e,rfl⟩) λe=>.inl ⟨e,rfl⟩⟩ d4⟩
  .obtain x|x:=d2 t' a e x
   .exact .inl x
   exact .inr ⟨x.1,x.2.1,j⟩
  grind
 rename_i j;have M:X.oO t=false:=je j;obtain⟨Y,x2⟩:=h.step (c:=c) (mE.refl ..) (λcl ca _=>uT.refl K cl ca) rfl L (.fin ⟨7,0,[]⟩ rfl ⟨c.kind,c.ij,c.unit,t,hJ,y.oc,.inl ⟨Q,(y.ow Q).kd,.inr ⟨rfl,hF M,Z⟩⟩⟩ bT);exact⟨K,Kx.refl kw,zc.D rfl,⟨Y.b,λd T _=>Y.f d T (.inl trivial),Y.e,Y.g,Y.nd,Y.mv⟩,x2⟩
structure Vq(S:Cf)(K:Kn)(F:Nat->Fl)(X:Cx):Prop where
 f:F X.e.length=K.D
 p:∀t a e,K.P0 t a e->¬(t.cl=X.id/\t.ca=X.e.length)
def Vq.ij(h:Vq S K F X)(M:Kw S K)(Q:rF S K X){ij:Ct}(H:ij.kd≠0)(j:ij.cl=X.id)(y:ij.ca=X.e.length):OG S K (F X.e.length) X.b ij:=by have gN:=Q.id;refine⟨H,C,λa e x=>absurd ⟨j,y⟩ (h.p _ a e x),λt a e x T Y=>absurd ⟨T.H j,Y.H y⟩ (h.p _ a e x),λu a Z ha e=>?_⟩;rw[h.f]at e;obtain⟨e0,e1,l1,l2,L⟩:=(M.sd u Z).rt a ha (jf e H);rw[e]at L;exact h.p _ _ _ L.p ⟨j,y⟩
def XI.begin(h:XI S K F J (λ_=>True) X)(jt:∀d∈X.a,d.gL<X.e.length)(T:c.gL=X.e.length):XI S K F J (λn=>n≠X.e.length) (X.jb c)/\(c.q.nodes=[]->Qg X (X.jb c)):=by
 have j:∀d∈(X.jb c).a,d=c\/(d∈X.a/\d.gL<X.e.length):=λd hd=>by
  obtain hd|hd:=aT.1 hd
  .exact .inr ⟨hd,jt d hd⟩
  simp at hd;exact .inl hd
 refine⟨⟨⟨h.b.n,h.b.m,h.b.v,h.b.c,h.b.e,h.b.l⟩,λd hd hP=>?_,λk r Y Z=>?_,λd hd r Y=>?_,λd hd d' M e=>?_,h.mv.A rfl rfl rfl rfl rfl rfl⟩,λhq=>⟨⟨iG,λd hd H=>?_,λ_=>.inl ⟨rfl,rfl,rfl⟩⟩,λhN=>hN.Ru 4 iG (λd hd H=>?_) (λe=>.inl ⟨e,rfl⟩) (λe=>.inl ⟨e,rfl⟩) λe=>.inl ⟨e,rfl⟩⟩⟩
 .obtain e|⟨L,_⟩:=j d hd
  .rw[e,T]at hP;exact absurd rfl hP
  exact h.f d L trivial
 .have y:(X.e++[Rz.zero])[k]?=some r:=Y;by_cases hk:k<X.e.length
  .rw[aB hk]at y;exact h.e k r y Z
  rw[aC C]at y;have:=aR y;simp at this;rw[this]at Z;exact absurd rfl Z
 .have y:(X.e++[Rz.zero])[d.gL]?=some r:=Y;obtain e|⟨L,e2⟩:=j d hd
  .rw[e,T,aC jr]at y;simp at y;rw[<-y];rfl
  rw[aB e2]at y;exact h.g d L r y
 .obtain q|⟨L,e2⟩:=j d hd
  .obtain q'|⟨Q,a0⟩:=j d' M
   .rw[q,q']
   rw[q,T]at e;omega
  obtain q'|⟨Q,a0⟩:=j d' M
  .rw[q',T]at e;omega
  exact h.nd d L d' Q e
 .obtain q|⟨L,_⟩:=j d hd
  .rw[q]at H;exact absurd hq H
  exact .inl ⟨d,L,rfl,rfl,rfl⟩
 obtain q|⟨L,_⟩:=j d hd
 .rw[q]at H;exact absurd hq H
 exact .inl ⟨d,L,H,rfl⟩
def Vq.cb(h:Vq S K F X)(H:Kw S K)(L:rF S K X)(y:c.gL=X.e.length)(M:c.kind=1\/c.kind=2\/c.kind=5)(j:c.ij.cl=X.id/\c.ij.ca=c.gL)(Q:J c.gL c.kind c.ij c.unit c.iA)(T:c.kind=1->c.ij.kd≠0)(Y:c.kind=2->Ok S c.iA):Cb S K (F c.gL) J X.id X.b c:=by refine⟨M,j,Q,λu=>by rw[y,h.f];exact xb.refl ..,λe=>by rw[y];exact h.ij H L (T e) j.1 C,λe a _=>.inl λZ x=>h.p _ _ _ x ⟨j.1,kz j.2 y⟩,Y⟩
theorem J6(h:XI S K F J (λ_=>True) X)(Q:Kw S K)(T:Vq S K F X)(Z:∀d∈X.a,d.gL<X.e.length){val:List Int}(hJ:J X.e.length 1 ⟨8,X.id,X.e.length,val⟩ 0 0):Dq S K F J G X (X.append val):=by
 unfold Cx.append;dsimp only;obtain⟨c,M⟩:=gG (({X.jW 1 with ij:={(X.jW 1).ij with kd:=8,val:=val}}:jn):jn);have j:Cb S K (F c.gL) J X.id X.b c:=by rw[<-M];exact T.cb Q h.mv rfl (.inl rfl) ⟨rfl,rfl⟩ hJ (λ_=>by show(8:Int)≠0;decide) λe=>absurd e (by show¬((1:Int)=2);decide)
 have H:c.kind=1/\c.q=Qn.zero/\c.gL=X.e.length:=by rw[<-M];exact⟨rfl,rfl,rfl⟩
 obtain⟨b1,b2⟩:=h.begin Z H.2.2;have y:c.q.nodes=[]:=by rw[H.2.1];rfl
 have L:rG S K _ J X.id X.b c:=⟨j,λ_ _=>.inl λe0 x=>T.p _ _ _ x ⟨j.oc.1,by rw[j.oc.2,H.2.2]⟩,λ_ e=>absurd y e,λe=>tD H.1 e,λ_=>y,λe=>absurd y e,λe=>absurd y e,λe=>absurd y e,λe=>absurd y e⟩;refine⟨K,Kx.refl Q,zc.D rfl,?_,?_⟩
 .rw[M];refine⟨b1.b,λd Y _=>?_,b1.e,b1.g,b1.nd,b1.mv⟩;by_cases e:d.gL=X.e.length
  .have:d=c:=b1.nd d Y c (tV X c) (e.H H.2.2.symm);rw[this];exact L
  exact b1.f d Y e
 grind
theorem Kh(h:XI S K F J (λ_=>True) X)(L:Kw S K)(M:∀d∈X.a,d.gL<X.e.length)(y:c.gL=X.e.length)(Q:c.q.nodes=[])(j:Cb S K (F c.gL) J X.id X.b c)(T:c.kind≠1)(Y:c.kind≠5):Dq S K F J G0 X ((X.jb c).dO c):=by
 obtain⟨b1,Z⟩:=h.begin M y;obtain⟨K',d1,d2,d3,d4⟩:=b1.YD L (tV X c) y j Y λe=>absurd e T;refine⟨K',d1,λt a e x=>?_,d3,(Z Q).H d4⟩;obtain x|x:=d2 t a e x
 .grind
 omega
def Sr(h:XI S K F J (λ_=>True) X)(j:Kw S K)(y:Vq S K F X)(H:∀d∈X.a,d.gL<X.e.length)(L:Ok S a)(M:J X.e.length 2 ⟨0,X.id,X.e.length,[]⟩ 0 a):Dq S K F J G0 X (X.EG a):=Kh h j H rfl rfl (y.cb j h.mv rfl (.inr (.inl rfl)) ⟨rfl,rfl⟩ M (λe=>absurd e (by show¬(2=1);decide)) λ_=>L) (by show(2:Int)≠1;decide) (by show(2:Int)≠5;decide)
def Kf(h:XI S K F J (λ_=>True) X)(kw:Kw S K)(hw:Vq S K F X)(jt:∀d∈X.a,d.gL<X.e.length)(hJ:J X.e.length 5 ⟨0,X.id,X.e.length,[]⟩ u 0):Dq S K F J G0 X (X.change u):=by
 obtain⟨c,T⟩:=gG (({X.jW 5 with unit:=u}:jn):jn);have M:c.kind=5/\c.q=Qn.zero/\c.gL=X.e.length:=by rw[<-T];exact⟨rfl,rfl,rfl⟩
 have Y:Cb S K (F c.gL) J X.id X.b c:=by rw[<-T];exact hw.cb kw h.mv rfl (.inr (.inr rfl)) ⟨rfl,rfl⟩ hJ (λe=>absurd e (by show¬((5:Int)=1);decide)) λe=>absurd e (by show¬((5:Int)=2);decide)
 obtain⟨b1,b2⟩:=h.begin jt M.2.2;have y:c.q.nodes=[]:=by rw[M.2.1];rfl
 have Q:rG S K (F c.gL) J (X.jb c).id (X.jb c).b c:=⟨Y,λe=>tD M.1 e,λ_ e=>absurd y e,λe=>tD M.1 e,λ_=>y,λe=>absurd y e,λe=>absurd y e,λe=>absurd y e,λe=>absurd y e⟩;obtain⟨K',k1,k2,k3,j,Z⟩:=Ly (G:=G0) b1 kw (tV X c) iG Q;have a0:(X.jb c).kA c=(X.jb c).ku c:=by unfold Cx.kA;rw[aE M.1]
 rw[a0]at j Z;have L:XI S K' F J (λ_=>True) ((X.jb c).ku c):=⟨j.b,λd hd _=>j.f d hd C,j.e,j.g,j.nd,j.mv⟩;unfold Cx.change;dsimp only;rw[T];split
 .obtain⟨m1,m2,m3⟩:=wG (S:=S) (X:=(X.jb c).ku c) (j.mv.a j.b.e) j.b.XJ;exact⟨K',k1,k3,L.sc m2 m1,((b2 y).H Z).H m3⟩
 exact⟨K',k1,k3,L,(b2 y).H Z⟩
def SG(j:Kw S K){id:Int}(gN:1000<=id/\id<=1099)(H:∀e b v,K.b e b v->b%100=id-1000->False):XI S K F J (λ_=>True) (Cx.new S.n S.m S.v S.ce id):=by have L:=j.pos;have h:K.In 0:=⟨iG,C⟩;refine⟨⟨rfl,rfl,rfl,rfl,h,?_⟩,by simp[Cx.new],by simp[Cx.new],by simp[Cx.new],by simp[Cx.new],DU ⟨by show(0:Int)<=_;omega,h,λe=>absurd rfl e,λe b v x y=>(H e b v x y).elim,iG,gN⟩ rfl⟩;show iR S.n S.m=K.lay 0;unfold Kn.lay;rw[aS,show(0:Int).toNat=0 from rfl,j.l0];rfl
end
structure XL(K:Kn)(r:Rq):Prop where
 e1:r.ep<=K.a.length
 a6:r.kd=6->r.ct.val≠[]->K.b r.ep r.pl r.ct.val
structure YE(X:Cx)(r:Rq):Prop where
 na:r.nr<=X.gJ
 c:∀c∈X.a,c.q.nodes≠[]->c.q.A.nr=r.nr->c.q.A=r
 v:X.mv.A.nodes≠[]->X.mv.A.A.nr=r.nr->X.mv.A.A=r
structure Tb(S:Cf)(K:Kn)(F:Nat->Fl)(X:Cx)(u nr:Int)(B:An):Prop where
 na:nr<=X.gJ
 e5:B.wh=5->B.ep<=K.a.length
 c:∀c∈X.a,c.q.A.nr=nr->u∈c.q.nodes->xU S K (F c.gL) u c.q.A B
structure TA(S:Cf)(K:Kn)(X:Cx)(q nr lt:Int)(v:Vo):Prop where
 na:nr<=X.gJ
 tl:lt<=K.a.length
 v:X.mv.A.nodes≠[]->X.mv.A.A.nr=nr->q∈X.mv.A.nodes->FL S K X.mv.c X.mv.A.A (q,v)
def vY(S:Cf)(K:Kn)(F:Nat->Nat->Fl)(ac:List Ac)(l:Le):Prop:=match l.pk with
 | .req r=>∃i A,l.fr=ja i/\ac[i]?=some A/\YE A.X r/\(nN S.n S.m l.tt->Ul S K l.tt r)/\(n9 S.v l.tt->XL K r)
 | .rep nr B=>∃i A,l.tt=ja i/\ac[i]?=some A/\Tb S K (F i) A.X l.fr nr B
 | .vot nr lt v=>∃i A,l.tt=ja i/\ac[i]?=some A/\TA S K A.X l.fr nr lt v
def Qe.D(e:Qe):Prop:=match e.pk with
 | .req _=>False
 |_=>True
def Kn.NX(K:Kn)(u:Int)(s:St):Kn:={K with D:=λx=>if x=u then s else K.D x}
def Kn.zE(K:Kn)(q:Int)(s:VS):Kn:={K with c:=λx=>if x=q then s else K.c x,d:=λx e b=>K.d x e b\/(x=q/\0<b/\(s.E e).ba=b)}
def UT(s s':VS):Prop:=∀e,BJ (s.E e) (s'.E e)
def tW(S:Cf)(K:Kn)(F:Nat->Nat->Fl)(ac:List Ac)(i:Nat)(P:Pl):Prop:=match P.part with
 | .unit ch s=>(ch=(i:Int)/S.m/\nN S.n S.m i)/\K.D i=s/\∀e∈P.q,e.D/\vY S K F ac ⟨i,e.cl,e.pk⟩
 | .voter s=>n9 S.v (jP S.n S.m i)/\K.c (jP S.n S.m i)=s/\∀e∈P.q,e.D/\vY S K F ac ⟨jP S.n S.m i,e.cl,e.pk⟩
def oT{j:Nat}(h:ja i=ja j):i=j:=by unfold ja at h;omega
def XL.L(h:XL K r)(k:mE S K K'):XL K' r:=⟨by have:=h.e1;have:=k.len;omega,λe e'=>k.f _ _ _ (h.a6 e e')⟩
def Tb.L{F:Nat->Fl}{j:Int}{B:An}(h:Tb S K F X u j B)(k:mE S K K'):Tb S K' F X u j B:=⟨h.na,λe=>by have:=h.e5 e;have:=k.len;omega,λc y e e'=>(h.c c y e e').L k⟩
def TA.L{y H:Int}(h:TA S K X q y H v)(k:mE S K K')(j:rF S K X):TA S K' X q y H v:=⟨h.na,by have:=h.tl;have:=k.len;omega,λe e' M=>(h.v e e' M).L k λ_ Q=>by
 have T:=(j.me e).1
 have Y:=j.e0
 rw[j.ep e]
 exact⟨C,((j.hc e Q).1)⟩⟩
theorem vY.L(h:vY S K F ac l)(k:mE S K K')(M:∀(i:Nat) (A:Ac),ac[i]?=some A->rF S K A.X):vY S K' F ac l:=by
 obtain⟨fr,tt,pk⟩:=l
 cases pk with
 |req r=>obtain⟨i,A,y,j,H,Q,T⟩:=h;exact⟨i,A,y,j,H,λe=>(Q e).L k,λe=>(T e).L k⟩
 |rep Y B=>obtain⟨i,A,y,j,H⟩:=h;exact⟨i,A,y,j,H.L k⟩
 |vot Y Z v=>obtain⟨i,A,y,j,H⟩:=h;exact⟨i,A,y,j,H.L k (M i A j)⟩
theorem vY.go(h:vY S K F ac l)(k:mE S K K')(hm:∀(i:Nat) (A:Ac),ac[i]?=some A->rF S K A.X)(hg:∀(i:Nat) (A:Ac),ac[i]?=some A->∃M,ac'[i]?=some M/\Qg A.X M.X/\∀c∈A.X.a,F' i c.gL=F i c.gL):vY S K' F' ac' l:=by
 have hl:=k.len;obtain⟨fr,tt,pk⟩:=l
 cases pk with
 |req r=>
  obtain⟨i,A,h1,h2,j,h4,h5⟩:=h;obtain⟨M,Z,H,g3⟩:=hg i A h2;have ga:=H.a;have a0:=j.na;refine⟨i,M,h1,Z,⟨C,λc hc Q e=>?_,λQ e=>?_⟩,λe=>(h4 e).L k,λe=>(h5 e).L k⟩
  .obtain⟨d,hd,_,y,Y⟩|q:=H.c c hc Q
   .rw[<-y];exact j.c d hd (jf Y Q) (jf y e)
   omega
  obtain⟨T,y,Y⟩|q:=H.v Q
  .rw[T];exact j.v (j9 y Q) (j9 T e)
  omega
 |rep nr B=>
  obtain⟨i,A,e1,hA,j⟩:=h;obtain⟨M,Z,H,g3⟩:=hg i A hA;have ga:=H.a;have a0:=j.na;refine⟨i,M,e1,Z,C,λe=>by have:=j.e5 e;omega,λc hc e hu=>?_⟩;obtain⟨d,hd,T,y,Y⟩|q:=H.c c hc (bM hu)
  .have:=(j.c d hd (jf y e) (jf Y hu)).L k;rw[<-T,g3 d hd,<-y];exact this
  omega
 |vot nr lt v=>
  obtain⟨i,A,e1,hA,j⟩:=h;obtain⟨M,Z,H,g3⟩:=hg i A hA;have j:=j.L k (hm i A hA);have ga:=H.a;have a0:=j.na;refine⟨i,M,e1,Z,C,j.tl,λQ e hu=>?_⟩;obtain⟨T,y,Y⟩|q:=H.v Q
  .rw[T,Y];exact j.v (j9 y Q) (j9 T e) (j9 y hu)
  omega
theorem KP{s:St}(h:xb (K.D u) s):mE S K (K.NX u s):=⟨⟨[],by simp[Kn.NX]⟩,λx=>by
 show xb _ (if x=u then s else K.D x)
 split
 .grind
 .exact xb.refl ..,λ_ _=>BJ.refl _,λ_ _ _ h=>h,λ_ _ _ h=>.inl h,λ_ _ _ h=>h,λ_ _=>⟨rfl,rfl⟩,λ_ _ _ h=>h,λ_ h=>h⟩
def YQ{x s:Ep}(h:BJ x s)(j:x.ba<=x.pr):x.ba<=s.ba:=by obtain⟨h1,_⟩|h1:=h.ba<;>omega
theorem KI(M:Kw S K)(Q:n9 S.v q)(y:UT (K.c q) s):mE S K (K.zE q s):=⟨⟨[],by simp[Kn.zE]⟩,λx=>xb.refl ..,λx e=>by
 show BJ _ ((if x=q then s else K.c x).E e)
 split
 .rename_i T;rw[T];exact y e
 .exact BJ.refl _,λ_ _ _ h=>.inl h,λx e b H=>by
  obtain H|⟨rfl,L,rfl⟩:=H
  .grind
  .rcases(y e).ba with⟨j,_⟩|j
   .rw[j]at L|-;exact .inl (M.va _ e Q L)
   .exact .inr j,λ_ _ _ h=>h,λ_ _=>⟨rfl,rfl⟩,λ_ _ _ h=>h,λ_ h=>h⟩
def TX{s:St}(j:Kw S K)(h:xb (K.D u) s)(H:Ow S K u s):Kw S (K.NX u s):=by
 have y:mE S K _:=KP h;refine⟨⟨j.l0,j.ls,j.lc,λe b v x=>?_,j.au,j.av,j.pu⟩,λx M=>?_,λq Q=>(j.vd q Q).L y,j.va⟩
 .obtain⟨T,Y,Z,a4⟩:=j.f e b v x;exact⟨T,Y,Z,a4.L y⟩
 show Ow S _ x (if x=u then s else K.D x);split
 .rename_i e;rw[e];exact H.L y
 exact(j.sd x M).L y
theorem UP(h:Kw S K)(H:n9 S.v q)(Z:UT (K.c q) s)(hi:Vi K s):Kw S (K.zE q s):=by
 have M:mE S K (K.zE q s):=KI h H Z;have hd:=h.vd q H;refine⟨⟨h.l0,h.ls,λe e1 e2=>?_,λe b v x=>?_,h.au,λx e b j=>?_,h.pu⟩,λx j=>(h.sd x j).L M,λx j=>?_,λx e j hb=>?_⟩
 .obtain⟨c1,c2,c3⟩:=h.lc e e1 e2;exact⟨c1,c2,λq H=>.inl (c3 q H)⟩
 .obtain⟨T,Q,a3,a4⟩:=h.f e b v x;exact⟨T,Q,a3,a4.L M⟩
 .show 0<b/\b<=((if x=q then s else K.c x).E e).ba;obtain j|⟨rfl,hb,rfl⟩:=j
  .obtain⟨T,Q⟩:=h.av x e b j;refine⟨T,?_⟩;split
   .rename_i Y;rw[Y]at Q;have:=YQ (Z e) (hd.bp e);omega
   exact Q
  grind
 .show Vi _ (if x=q then s else K.c x);split
  .exact hi.L M
  exact(h.vd x j).L M
 have y:0<((if x=q then s else K.c x).E e).ba:=hb;show K.d x e ((if x=q then s else K.c x).E e).ba\/(x=q/\0<((if x=q then s else K.c x).E e).ba/\(s.E e).ba=((if x=q then s else K.c x).E e).ba);split at y
 .grind
 rename_i Y;rw[az Y];exact .inl (h.va x e j y)
section
def sQ(E)(e)(s):oh E e s e=s:=by unfold oh;rw[aE rfl]
def zw(E){e e':Int}(s)(h:e'≠e):oh E e s e'=E e':=by unfold oh;rw[az h]
inductive Jv(s:VS)(r:Rq)(v:Vo)(s':VS):Prop
 |no (h:v.wh=6) (hb:v.ba=0) (he:s'.E=s.E) (hl:s'.lt=s.lt)
 |prom (hk:r.kd=5) (h:v.wh=1) (hp:(s.E r.ep).pr<r.pl) (hv:v.ba=(s.E r.ep).ba/\v.val=(s.E r.ep).val) (he:s'.E=oh s.E r.ep ⟨r.pl,(s.E r.ep).ba,(s.E r.ep).val⟩) (hl:s'.lt=max s.lt r.ep)
 |AS (hk:r.kd=6) (h:v.wh=1) (h0:0<r.pl) (hp:(s.E r.ep).pr<=r.pl) (hv:v.ba=0) (hn:r.ct.val≠[]) (he:s'.E=oh s.E r.ep ⟨r.pl,r.pl,r.ct.val⟩) (hl:s'.lt=max s.lt r.ep)
 |NJ (hk:r.kd=7) (h:v.wh=1) (hv:v.ba=(s.E r.ep).ba/\v.val=(s.E r.ep).val) (he:s'.E=s.E) (hl:s'.lt=s.lt)
def SN(s)(r)(hk:r.kd=5\/r.kd=6\/r.kd=7):Jv s r (nL s r).1 (nL s r).2:=by
 unfold nL pM;dsimp only;obtain hk|hk|hk:=hk
 .rw[aE hk];split
  .refine .no rfl rfl rfl ?_;show(if(6:Int)=1/\r.kd≠7 then max s.lt r.ep else s.lt)=s.lt;rw[az (λe=>absurd e.1 bT)]
  rename_i h;simp only[not_or]at h;refine .prom hk rfl C ⟨rfl,rfl⟩ rfl ?_;show(if(1:Int)=1/\r.kd≠7 then max s.lt r.ep else s.lt)=_;rw[aE ⟨rfl,qH hk⟩]
 .rw[az (qH hk),aE hk];split
  .refine .no rfl rfl rfl ?_;show(if(6:Int)=1/\r.kd≠7 then max s.lt r.ep else s.lt)=s.lt;rw[az (λe=>absurd e.1 bT)]
  rename_i h;simp only[not_or,Classical.not_not]at h;refine .AS hk rfl C C rfl (λe=>by rw[e]at h;have:=h.2.2.2.1;simp at this) rfl ?_;show(if(1:Int)=1/\r.kd≠7 then max s.lt r.ep else s.lt)=_;rw[aE ⟨rfl,qH hk⟩]
 rw[az (qH hk),az (qH hk)];refine .NJ hk rfl ⟨rfl,rfl⟩ rfl ?_;show(if(1:Int)=1/\r.kd≠7 then max s.lt r.ep else s.lt)=_;rw[az (λe=>e.2 hk)]
theorem ZD{s':VS}(h:Jv s r v s'):UT s s':=λe=>by
 cases h with
 |no _ _ j _=>rw[j];exact BJ.refl _
 |NJ _ _ _ j _=>rw[j];exact BJ.refl _
 |prom _ _ y _ j _=>
  rw[j];by_cases q:e=r.ep
  .rw[q,sQ];exact⟨by show _<=r.pl;omega,.inl ⟨rfl,rfl⟩⟩
  rw[zw _ _ q];exact BJ.refl _
 |AS _ _ _ y _ _ j _=>
  rw[j];by_cases q:e=r.ep
  .rw[q,sQ];exact⟨y,.inr y⟩
  rw[zw _ _ q];exact BJ.refl _
theorem Zd{s':VS}(h:Jv s r v s')(j:Vi K s)(M:XL K r):Vi K s':=by
 have Z:=j.lt;have h2:=M.e1
 cases h with
 |no _ _ H L=>exact⟨by rw[H];exact j.b0,by rw[H];exact j.bp,by rw[H];exact j.f,by rw[L];exact j.lt⟩
 |NJ _ _ _ H L=>exact⟨by rw[H];exact j.b0,by rw[H];exact j.bp,by rw[H];exact j.f,by rw[L];exact j.lt⟩
 |prom _ _ Q _ H L=>
  have y:∀e,(0<=(s'.E e).ba/\(s'.E e).ba<=(s'.E e).pr)/\(0<(s'.E e).ba->K.b e (s'.E e).ba (s'.E e).val):=λe=>by
   rw[H];by_cases q:e=r.ep
   .rw[q,sQ];exact⟨⟨j.b0 _,by have:=j.bp r.ep;show(s.E r.ep).ba<=r.pl;omega⟩,j.f _⟩
   rw[zw _ _ q];exact⟨⟨j.b0 e,j.bp e⟩,j.f e⟩
  exact⟨λe=>(y e).1.1,λe=>(y e).1.2,λe=>(y e).2,qD L⟩
 |AS T _ h0 Q _ Y H L=>
  have y:∀e,(0<=(s'.E e).ba/\(s'.E e).ba<=(s'.E e).pr)/\(0<(s'.E e).ba->K.b e (s'.E e).ba (s'.E e).val):=λe=>by
   rw[H];by_cases q:e=r.ep
   .rw[q,sQ];exact⟨⟨by show 0<=r.pl;omega,iG⟩,λ_=>M.a6 T Y⟩
   rw[zw _ _ q];exact⟨⟨j.b0 e,j.bp e⟩,j.f e⟩
  exact⟨λe=>(y e).1.1,λe=>(y e).1.2,λe=>(y e).2,qD L⟩
def FT{q:List Qe}{a e:Qe}(h:e∈uU q a):e∈q\/e=a:=by
 unfold uU at h;split at h
 .simp_all
 split at h
 .simp_all
 obtain⟨x,j,rfl⟩:=aD.1 h;split
 .simp
 simp_all
def Cs(S:Cf)(K:Kn)(F:Nat->Nat->Fl)(J:Nat->Jq)(ac:List Ac):Prop:=∀(i:Nat) (A:Ac),ac[i]?=some A->XI S K (F i) (J i) (λ_=>True) A.X/\A.X.id=ja i
variable{J:Nat->Jq}
def Cs.mv(h:Cs S K F J ac):∀(i:Nat) (A:Ac),ac[i]?=some A->rF S K A.X:=λi A j=>(h i A j).1.mv
theorem tW.recv(h:tW S K F ac i P)(kw:Kw S K)(hc:Cs S K F J ac)(hl:vY S K F ac l)(hk:ui b S.n S.m S.v l)(a1:jP S.n S.m i=l.tt):∃K',mE S K K'/\Kw S K'/\(K'.P0=K.P0/\K'.b=K.b/\K'.Fu=K.Fu)/\(∀x,x≠jP S.n S.m i->K'.D x=K.D x/\K'.c x=K.c x)/\tW S K' F ac i (P.recv S.n S.m S.v S.ce l.fr l.pk):=by
 have a6:=rj S.A.1.2 S.A.2.1.2;obtain⟨fr,tt,p⟩:=l
 cases p with
 |rep nr A=>exact⟨K,mE.refl ..,kw,⟨rfl,rfl,rfl⟩,λ_ _=>⟨rfl,rfl⟩,h⟩
 |vot nr lt v=>exact⟨K,mE.refl ..,kw,⟨rfl,rfl,rfl⟩,λ_ _=>⟨rfl,rfl⟩,h⟩
 |req r=>
  obtain⟨j,A,h1,h2,h3,h4,h5⟩:=hl;obtain⟨_,hu⟩:=hk;simp only at h1 a1 hu h4 h5;obtain⟨a7,q,up,nf⟩:=P
  cases a7 with
  |unit ch s=>
   obtain⟨⟨g0,M⟩,rfl,g6⟩:=h;have gN:jP S.n S.m i=i:=by unfold jP;rw[aE (by unfold nN at M;have:=M.2;exact_mod_cast this)]
   have a8:nN S.n S.m tt:=by rw[<-a1,gN];exact M
   have hR:OH b r:=by
    obtain⟨u1,u2⟩|⟨u1,u2⟩:=hu
    .exact u2
    unfold n9 at u1;unfold nN at a8;have:(S.n:Int)*S.m<=9:=by exact_mod_cast a6
    omega
   have al:Ul S K i r:=by have:=h4 a8;rwa[<-a1,gN]at this
   have a5:=kw.sd i M;show∃K',_/\_/\_/\_/\tW S K' F ac i ⟨.unit ch (mh S.n S.m S.v S.ce ch (K.D i) r).2,uU q ⟨fr,r.ln,r.nr,.rep r.nr (mh S.n S.m S.v S.ce ch (K.D i) r).1⟩,up,nf⟩;rw[g0];obtain⟨s',y⟩:=gG ((mh S.n S.m S.v S.ce ((i:Int)/S.m) (K.D i) r).2);have a2:xb (K.D i) s':=by rw[<-y];exact TL
   have T:Ow S K i s':=by rw[<-y];exact a5.D al hR.kd hR.c2
   have kl:mE S K (K.NX i s'):=KP a2;have hD:(K.NX i s').D i=s':=aE rfl;rw[y];refine⟨K.NX i s',kl,TX kw a2 T,⟨rfl,rfl,rfl⟩,λx hx=>⟨az (j9 gN hx),rfl⟩,⟨rfl,M⟩,hD,λe he=>?_⟩;obtain he|he:=FT he
   .exact⟨(g6 e he).1,(g6 e he).2.L kl hc.mv⟩
   subst he;refine⟨trivial,j,A,h1,h2,h3.na,λe5=>?_,λc a9 e ab=>?_⟩
   .show(mh S.n S.m S.v S.ce ((i:Int)/S.m) (K.D i) r).1.ep<=_;rw[(Yx e5).1];exact a5.e1
   rw[h3.c c a9 (bM ab) e];exact⟨K.D i,a5.mr,((hc j A h2).1.f c a9 trivial).fl i,rfl,by rw[y];exact T.L kl,by rw[y,hD];exact xb.refl _⟩
  |voter s=>
   obtain⟨M,rfl,g6⟩:=h;obtain⟨Q,hQ⟩:=gG (jP S.n S.m i);rw[hQ]at M g6;have ad:n9 S.v tt:=by rw[<-a1,hQ];exact M
   have hR:Sp b r:=by
    obtain⟨u1,u2⟩|⟨u1,u2⟩:=hu
    .unfold n9 at ad;unfold nN at u1;have:(S.n:Int)*S.m<=9:=by exact_mod_cast a6
     omega
    exact u2
   have ag:=h5 ad;have H:=kw.vd Q M;show∃K',_/\_/\_/\_/\n9 S.v (jP S.n S.m i)/\K'.c (jP S.n S.m i)=(nL (K.c (jP S.n S.m i)) r).2/\∀e∈uU q ⟨fr,r.ln,r.nr,.vot r.nr (nL (K.c (jP S.n S.m i)) r).2.lt (nL (K.c (jP S.n S.m i)) r).1⟩,e.D/\vY S K' F ac ⟨jP S.n S.m i,e.cl,e.pk⟩;rw[hQ];generalize hs:K.c Q=s at H|-;obtain⟨v,hv⟩:=gG ((nL s r).1);obtain⟨s',y⟩:=gG ((nL s r).2);have ht:=SN s r hR.kd;rw[hv,y]at ht;have a2:=ZD ht;have T:=Zd ht H ag;rw[y,hv];have a4:UT (K.c Q) s':=jf hs a2;have kl:mE S K (K.zE Q s'):=KI kw M a4;have hD:(K.zE Q s').c Q=s':=aE rfl;refine⟨K.zE Q s',kl,UP kw M a4 T,⟨rfl,rfl,rfl⟩,λx hx=>⟨rfl,az hx⟩,M,hD,λe he=>?_⟩;obtain he|he:=FT he
   .exact⟨(g6 e he).1,(g6 e he).2.L kl hc.mv⟩
   subst he;refine⟨trivial,j,A,h1,h2,h3.na,T.lt,λhn e ab=>?_⟩;have ai:=h3.v hn e;have a3:=(hc j A h2).1.mv;rw[ai];have ak:r.ep=A.X.mv.b:=by rw[<-a3.ep hn,ai]
   have am:∀b2,(K.zE Q s').d Q r.ep b2->b2<=(s.E r.ep).ba\/b2=(s'.E r.ep).ba:=λb2 Y=>by
    obtain Y|⟨_,_,rfl⟩:=Y
    .have:=(kw.av _ _ _ Y).2;rw[hs]at this;exact .inl this
    exact .inr rfl
   cases ht with
   |no t1 t2 t3 t4=>
    refine⟨by show 0<=v.ba;omega,λe7=>?_,λ_ e1=>?_,λ_ e1=>?_⟩
    .exfalso;have:(nL s r).1.wh=1:=by unfold nL pM;rw[e7];rfl
     rw[hv,t1]at this;exact absurd this bT
    .have Z:v.wh=1:=e1;rw[t1]at Z;exact absurd Z bT
    have Z:v.wh=1:=e1;rw[t1]at Z;exact absurd Z bT
   |prom t0 t1 t2 t3 t4 t5=>
    refine⟨by show 0<=v.ba;rw[t3.1];exact H.b0 _,λe7=>tD t0 e7,λ_ _=>⟨?_,?_,λhb=>?_,λb2 Y=>?_⟩,λe6=>tD t0 e6⟩
    .show r.pl<=(((K.zE Q s').c Q).E r.ep).pr;rw[hD,t4,sQ];exact iG
    .show v.ba<r.pl;rw[t3.1];have:=H.bp r.ep;omega
    .show K.b r.ep v.ba v.val;rw[t3.1,t3.2];exact H.f _ (by have a0:0<v.ba:=hb;rwa[t3.1]at a0)
    show b2<=v.ba\/_;rw[t3.1];obtain q|q:=am b2 Y
    .exact .inl q
    left;rw[q,t4,sQ];exact iG
   |AS t0 t1 t2 t3 t4 t5 t6 t7=>exact⟨by show 0<=v.ba;omega,λe7=>tD t0 e7,λe5=>tD t0 e5,λ_ _=>⟨.inr ⟨rfl,t2,by rw[t6,sQ]⟩,ag.a6 t0 t5⟩⟩
   |NJ t0 t1 t2 t3 t4=>
    refine⟨by show 0<=v.ba;rw[t2.1];exact H.b0 _,λ_=>⟨λhb=>?_,λan hq=>?_⟩,λe5=>tD t0 e5,λe6=>tD t0 e6⟩
    .have a0:0<v.ba:=hb;rw[t2.1]at a0;refine⟨?_,.inr ⟨rfl,hb,?_⟩⟩
     .show K.b r.ep v.ba v.val;rw[t2.1,t2.2];exact H.f _ a0
     show _=v.ba;rw[t3,t2.1]
    show K.cb r.ep.toNat<=v.ba;have ap:=(a3.hc hn an).1;have aq:=(a3.me hn).1;have ar:=a3.e0;rw[<-ak]at ap aq;have:=(kw.lc r.ep.toNat C C).2.2 Q hq;rw[show((r.ep.toNat:Nat):Int)=r.ep by omega]at this;have h8:=(kw.av _ _ _ this).2;rw[hs]at h8;rw[t2.1];omega
end
def Kl.ij(c:Kl):Ct:=⟨if c.kind=1 then 8 else 0,ja c.a,c.b,c.value⟩
def EM(o:Kl)(t:Ct)(a:Int):Prop:=t=o.ij/\o.kind=1/\a∈o.A
def XS(l:List Kl)(t:Ct)(a:Int):Prop:=∃o∈l,EM o t a
def Yq(S:Cf)(l:List Kl)(t:Ct):Prop:=∃o∈l,t=o.ij/\o.kind=1/\∃a∈o.A,¬Ok S a
def XP(c:Kl)(t:Ct)(a:Int):Prop:=(c.kind=1/\c.r.wh=1/\t=c.ij/\a=c.r.ad)\/(c.kind=2/\c.r=Cx.vh t/\a=c.pos/\t.kd=8)
def WB(c:Kl):Prop:=(c.kind=1/\c.r.wh=1)\/(c.kind=2/\c.r.wh=8)
structure FX(S:Cf)(K:Kn)(F:Nat->Nat->Fl)(W:Wd)(c:Kl):Prop where
 r:Sy S K (F c.a c.b) (W.J c.a) (ja c.a) c.b c.r
 m:WB c->∃t a o,(XP c t a/\uW S K a t)/\o∈W.gF/\o.c<c.fin/\EM o t a
structure Xx(S:Cf)(K:Kn)(o:Kl):Prop where
 b:WB o->∃t a,XP o t a/\uW S K a t
structure IC(o o':Kl):Prop where
 s:o'.a=o.a/\o'.b=o.b/\o'.kind=o.kind/\o'.pos=o.pos/\o'.value=o.value/\o'.c=o.c
 tk:∀a∈o.A,a∈o'.A
 e:o.fin≠0->o'.fin=o.fin/\o'.r=o.r
structure SI(S:Cf)(K:Kn)(F:Nat->Nat->Fl)(W:Wd):Prop where
 s:(W.n=S.n/\W.m=S.m)/\W.v=S.v/\W.ce=S.ce
 k:Kw S K
 nd:∀i P,W.pl[i]?=some P->tW S K F W.ac i P
 cl:Cs S K F W.J W.ac
 nr:∀(i:Nat) (A:Ac),W.ac[i]?=some A->Ke A.X
 po:∀l∈W.iN,vY S K F W.ac l
 p0:∀t a e,K.P0 t a e->XS W.gF t a
 fu:∀t,K.Fu t->Yq S W.gF t
 f:∀e b v,K.b e b v->∃i,i<W.ac.length/\b%100=ja i-1000
 ca:∀c∈W.gF,c.fin≠0->FX S K F W c
 fl:∀o∈W.gF,∀c∈W.gF,o.fin≠0->o.fin<c.c->Xx S (K.kY (F c.a c.b)) o
section
variable{o:Kl}
def IC.refl(o):IC o o:=⟨⟨rfl,rfl,rfl,rfl,rfl,rfl⟩,λ_ h=>h,λ_=>⟨rfl,rfl⟩⟩
def IC.ij(h:IC o o'):o'.ij=o.ij:=by obtain⟨j,y,H,L,M,Q⟩:=h.s;unfold Kl.ij;simp_all
def IC.Ou(h:IC o o')(k:EM o t a):EM o' t a:=by obtain⟨y,H,j,L,M,Q⟩:=h.s;exact⟨by rw[h.ij];exact k.1,j.H k.2.1,h.tk a k.2.2⟩
def Gb(l l':List Kl):Prop:=∀o∈l,∃o'∈l',IC o o'
def Gb.refl(l):Gb l l:=λo h=>⟨o,h,IC.refl o⟩
def Gb.Ou{l y:List Kl}(h:Gb l y)(k:XS l t a):XS y t a:=by obtain⟨o,H,k⟩:=k;obtain⟨o',j,g⟩:=h o H;exact⟨o',j,g.Ou k⟩
def Gb.J(h:Gb W.gF W'.gF)(i):∀a b c d e,W.J i a b c d e->W'.J i a b c d e:=by rintro a b c d e⟨k,H,L,M,Q,T,Y,Z,h7⟩;obtain⟨k',j,g⟩:=h k H;obtain⟨g1,g2,g3,y,g5,g6⟩:=g.s;exact⟨k',j,g1.H L,g2.H M,g3.H Q,jf g5 T,λe=>(Y e).imp (λx=>x) λx=>g.tk _ x,λe=>by rw[y];exact Z e,λe=>by rw[y];exact h7 e⟩
def Vm{D:Int->St}(k:mE S K K'):mE S (K.kY D) (K'.kY D):=⟨k.ls,λ_=>xb.refl ..,k.dv,k.av,k.an,k.f,k.cb,k.p0,k.fu⟩
def Xx.L(h:Xx S K o)(k:mE S K K'):Xx S K' o:=⟨λe=>by
 obtain⟨t,a,j,y⟩:=h.b e
 exact⟨t,a,j,y.L k⟩⟩
def FX.ahd(h:FX S K F W c):Xx S K c:=⟨λe=>by
 obtain⟨t,a,o,j,_⟩:=h.m e
 exact⟨t,a,j⟩⟩
def FX.go(h:FX S K F W c)(k:mE S K K')(y:Gb W.gF W'.gF)(H:Sy S K' (F' c.a c.b) (W'.J c.a) (ja c.a) c.b c.r):FX S K' F' W' c:=by refine⟨H,λe=>?_⟩;obtain⟨t,a,o,⟨L,M⟩,Q,T,Y⟩:=h.m e;obtain⟨o',j,g⟩:=y o Q;exact⟨t,a,o',⟨L,M.L k⟩,j,by rw[g.s.2.2.2.2.2];exact T,g.Ou Y⟩
theorem tW.go(h:tW S K F W.ac i P)(k:mE S K K')(Q:K'.D i=K.D i)(T:K'.c (jP S.n S.m i)=K.c (jP S.n S.m i))(H:∀(i:Nat) (A:Ac),W.ac[i]?=some A->rF S K A.X)(L:∀(i:Nat) (A:Ac),W.ac[i]?=some A->∃M,W'.ac[i]?=some M/\Qg A.X M.X/\∀c∈A.X.a,F' i c.gL=F i c.gL):tW S K' F' W'.ac i P:=by
 obtain⟨j,q,Y,Z⟩:=P
 cases j with
 |unit ch s=>exact⟨h.1,Q.H h.2.1,λe y=>⟨(h.2.2 e y).1,(h.2.2 e y).2.go k H L⟩⟩
 |voter s=>exact⟨h.1,T.H h.2.1,λe y=>⟨(h.2.2 e y).1,(h.2.2 e y).2.go k H L⟩⟩
def SI.act(h:SI S K F W)(hA:W.ac[i]?=some A)(hd:Dq S K (F i) (W.J i) gQ A.X X')(hG:∀t a,gQ t a->XS W.gF t a)(gN:X'.id=A.X.id)(Z:∀(k:Nat) (r:Rz),A.X.e[k]?=some r->r.wh≠0->X'.e[k]?=some r)(a0:∀c∈W.gF,c.a=i->c.fin≠0->A.X.e[c.b]?=some c.r/\c.r.wh≠0)(h1:(W'.n=W.n/\W'.m=W.m)/\W'.v=W.v/\W'.ce=W.ce)(h2:W'.pl=W.pl)(h3:W'.iN=W.iN)(h4:W'.gF=W.gF)(h5:∀j:Nat,W'.ac[j]?=if j=i then some {A with X:=X'}else W.ac[j]?):∃K',mE S K K'/\SI S K' F W'/\∀l,vY S K F W.ac l->vY S K' F W'.ac l:=by
 obtain⟨K',M,k2,k3,k4⟩:=hd;have Y:=M.tomE;have a3:Gb W.gF W'.gF:=by rw[h4];exact Gb.refl _
 have hJ:=λj=>a3.J (W:=W) (W':=W') j;have H:=(h.cl i A hA).2;have hm:=h.cl.mv;have hg:∀(j:Nat) (B:Ac),W.ac[j]?=some B->∃B',W'.ac[j]?=some B'/\Qg B.X B'.X/\∀c∈B.X.a,F j c.gL=F j c.gL:=λj B y=>by
  rw[h5];by_cases e:j=i
  .rw[aE e];rw[e,hA]at y;simp at y;subst y;exact⟨_,rfl,k4,λ_ _=>rfl⟩
  rw[az e];exact⟨B,y,Qg.refl _,λ_ _=>rfl⟩
 obtain⟨s1,s2,s3⟩:=h.s;obtain⟨w1,w2,w3⟩:=h1;have hi:i<W.ac.length:=(aj.1 hA).1;have a4:W'.ac.length=W.ac.length:=by
  have a5:∀j:Nat,W'.ac[j]?=none↔W.ac[j]?=none:=λj=>by
   rw[h5];by_cases e:j=i
   .rw[aE e,e,hA];simp
   rw[az e]
  have a1:=(a5 W.ac.length).2 bz;have a2:=(a5 W'.ac.length).1 bz;simp at a1 a2;omega
 have a6:∀c∈W.gF,c.fin≠0->Sy S K' (F c.a c.b) (W'.J c.a) (ja c.a) c.b c.r:=λc Q hf=>by
  by_cases e:c.a=i
  .obtain⟨q1,q2⟩:=a0 c Q e hf;have q3:=k3.e _ _ (Z _ _ q1 q2) q2;rw[gN,H]at q3;rw[e];obtain⟨kd,ow,un,ad,z1,z2,z3⟩:=q3;exact⟨kd,ow,un,ad,hJ i _ _ _ _ _ z1,z2,z3⟩
  exact((h.ca c Q hf).r).L Y (M.np _ _ λe'=>e (oT (kz e' H))) (hJ _)
 refine⟨K',Y,⟨⟨⟨w1.1.H s1.1,w1.2.H s1.2⟩,w2.H s2,w3.H s3⟩,M.w,λj P hP=>?_,λj B y=>?_,λj B y=>?_,λl hl=>?_,λt a e x=>?_,λt x=>?_,λe b v x=>?_,λc Q hf=>?_,λo ho c Q e1 e2=>?_⟩,λl hl=>hl.go Y hm hg⟩
 .rw[h2]at hP;exact(h.nd j P hP).go Y (by rw[M.dd.1]) (by rw[M.dd.2.1]) hm hg
 .rw[h5]at y;by_cases e:j=i
  .rw[aE e]at y;simp at y;subst y;rw[e];exact⟨k3.L (mE.refl ..) (λca=>uT.refl K' _ ca) (Su.refl K' _) (hJ i),gN.H H⟩
  rw[az e]at y;obtain⟨x1,x2⟩:=h.cl j B y;have T:ja j≠A.X.id:=λe'=>e (oT (kz e' H));exact⟨x1.L Y (λca=>by rw[x2];exact M.np _ _ T) (by rw[x2];exact M.na _ (gM x1.mv.id) (gM x1.mv.id) T) (hJ j),x2⟩
 .rw[h5]at y;by_cases e:j=i
  .rw[aE e]at y;simp at y;subst y;exact k4.n (h.nr i A hA)
  rw[az e]at y;exact h.nr j B y
 .rw[h3]at hl;exact(h.po l hl).go Y hm hg
 .rw[h4];obtain⟨e',x⟩|x:=k2 t a e x
  .exact h.p0 _ _ _ x
  exact hG t a x
 .rw[h4];rw[M.dd.2.2.2]at x;exact h.fu t x
 .rw[a4];by_cases hx:K.b e b v
  .exact h.f e b v hx
  refine⟨i,hi,?_⟩;refine bk λT=>hx ?_;have a7:=dq b (show(100:Int)≠0 by decide);have a8:=de b (show(0:Int)<100 by decide);exact M.na (b%100+1000) C C (λe'=>T (Zk H)) e b v x C
 .rw[h4]at Q;exact(h.ca c Q hf).go Y a3 (a6 c Q hf)
 rw[h4]at ho Q;exact(h.fl o ho c Q e1 e2).L (Vm Y)
end
section
variable{o:Kl}
theorem D1{α:Type}{f:α->Nat}:∀{l:List α},(l.map f).Nodup->∀x∈l,∀y∈l,f x=f y->x=y
 |[],_,x,hx,_,_,_=>mR hx
 |z::l,h,x,hx,y,hy,e=>by
  simp only[bj,bY]at h;obtain hx|hx:=bh.1 hx
  .obtain hy|hy:=bh.1 hy
   .rw[hx,hy]
   exact absurd (aD.2 ⟨y,hy,by rw[<-e,hx]⟩) h.1
  obtain hy|hy:=bh.1 hy
  .exact absurd (aD.2 ⟨x,hx,kz e hy⟩) h.1
  exact D1 h.2 x hx y hy e
def tT(h:Wk W)(y:c∈W.gF)(j:c'∈W.gF)(H:c.a=c'.a)(L:c.b=c'.b):c=c':=by
 obtain⟨A,M,_⟩:=(h.ca c y).ac;have Q:((W.gF.filter λx=>x.a==c.a).map (·.b)).Nodup:=by rw[((h.ac _ A M).nm)];exact dU
 exact D1 Q c (aU.2 ⟨y,bz⟩) c' (aU.2 ⟨j,mZ H⟩) L
def SI.Ou(h:SI S K F W)(Q:uW S K a t):XS W.gF t a:=by obtain⟨⟨T,L⟩,e,y,Y⟩:=Q;obtain⟨g,l,Z⟩:=bQ (h.k.ne y a);have H:g∈K.C S e a:=J1 Z;have M:=(Y g H).1;have j:=(h.k.sd g (h.k.un y H)).rt a (h.k.T y H L.1 L.2) (jf M T);rw[M]at j;obtain⟨e0,e1,l1,l2,j⟩:=j;exact h.p0 _ _ _ j.p
def JT(h:EM o t a):t.kd=8:=by rw[h.1];unfold Kl.ij;rw[h.2.1];rfl
def sC(W:Wd):Prop:=∀(i:Nat) (c:Kl),W.gF[i]?=some c->c.value=if c.kind=1 then kP i else []
def sC.map{f:Kl->Kl}(h:sC W)(j:∀c,(f c).kind=c.kind/\(f c).value=c.value)(H:W'.gF=W.gF.map f):sC W':=λi c y=>by rw[H,aK]at y;obtain⟨d,L,rfl⟩:=bN.1 y;rw[(j d).1,(j d).2];exact h i d L
def sC.D(h:sC W)(j:W'.gF=W.gF):sC W':=λi c y=>h i c (j9 j y)
def D2(t)(c)(a):IC c (c.D t a):=by
 obtain⟨h,j,y,H,L,M,Q⟩:=qo t c a;refine⟨⟨h,j,y,H,L,Q⟩,λx T=>jf M T,λY=>?_⟩;unfold Kl.D;split
 .simp
 split
 .split;all_goals simp_all
 simp
def CW(t)(c:Kl)(a):(c.D t a=c)\/∃A r,a=some A/\A.up=true/\A.X.e[c.b]?=some r/\r.wh≠0/\c.fin=0/\c.D t a={c with fin:=t,r:=r}:=by
 unfold Kl.D;split
 .simp
 rename_i A;split
 .rename_i h;split
  .exact .inl rfl
  rename_i r j;split
  .simp_all
  exact .inl rfl
 exact .inl rfl
def SI.ends(h:SI S K F W)(hw:Wk W){r:Rz}(hc:c∈W.gF)(hA:W.ac[c.a]?=some A)(hr:A.X.e[c.b]?=some r)(Q:r.wh≠0)(hg:Gb W.gF W'.gF):FX S K F W' {c with fin:=W.a+1,r:=r}:=by
 obtain⟨x1,x2⟩:=h.cl _ A hA;have T:=x1.e _ _ hr Q;rw[x2]at T;obtain⟨kind,ij,a2,Y,⟨q,hq,q1,q2,Z,q4,q5,q6,q7⟩,z2,z3⟩:=id T;have a0:q=c:=tT hw hq hc q1 q2;subst a0;have M:∀t a,XP {q with fin:=W.a+1,r:=r} t a->uW S K a t->∃t a o,(XP {q with fin:=W.a+1,r:=r} t a/\uW S K a t)/\o∈W'.gF/\o.c<W.a+1/\EM o t a:=λt a b1 H=>by obtain⟨o,ho,L⟩:=h.Ou H;obtain⟨o',a1,g⟩:=hg o ho;have:=(hw.ca o ho).bg;exact⟨t,a,o',⟨b1,H⟩,a1,by rw[g.s.2.2.2.2.2];omega,g.Ou L⟩
 refine⟨T.L (mE.refl ..) (uT.refl K _ _) (hg.J (W:=W) (W':=W') q.a),λhb=>?_⟩;rw[<-Z]at z3;obtain⟨b1,H⟩|⟨b1,H⟩:=hb
 .have j:q.kind=1:=b1;have y:r.wh=1:=H;obtain⟨_,_,z|z⟩|⟨z,_⟩|⟨z,_⟩:=z3
  .refine M ij Y (.inl ⟨b1,H,by show ij=Kl.ij _;unfold Kl.ij;rw[q4,Z],?_⟩) z.2.1;show Y=r.ad;rw[z.1]
  .rw[z.1]at y;exact absurd y bT
  .rw[j]at z;exact absurd z bT
  rw[j]at z;exact absurd z bT
 have j:q.kind=2:=b1;have y:r.wh=8:=H;obtain⟨z,_⟩|⟨_,zo,⟨t,t1,t2⟩|z⟩|⟨z,_⟩:=z3
 .rw[j]at z;exact absurd z bT
 .obtain⟨o,ho,L⟩:=h.Ou t2;exact M t Y (.inr ⟨b1,t1,q6 (j9 Z j),JT L⟩) t2
 .rw[z.1]at y;exact absurd y bT
 rw[j]at z;exact absurd z bT
theorem SI.jx(h:SI S K F W)(hw:Wk W)(hv:sC W):SI S K F W.jx/\sC W.jx:=by
 have j:Gb W.gF W.jx.gF:=λo Q=>⟨_,aD.2 ⟨o,Q,rfl⟩,D2 _ _ _⟩;have hJ:=λi=>j.J (W:=W) (W':=W.jx) i;refine⟨⟨h.s,h.k,h.nd,λi A hA=>⟨(h.cl i A hA).1.L (mE.refl ..) (λca=>uT.refl K _ ca) (Su.refl K _) (hJ i),(h.cl i A hA).2⟩,h.nr,h.po,λt a e x=>j.Ou (h.p0 t a e x),λt x=>?_,h.f,λc T hf=>?_,λo Q c T e1 Y=>?_⟩,hv.map (λc=>?_) rfl⟩
 .obtain⟨o,h1,h2,h3,a,h4,h5⟩:=h.fu t x;obtain⟨o',Z,g⟩:=j o h1;exact⟨o',Z,by rw[g.ij];exact h2,g.s.2.2.1.H h3,a,g.tk a h4,h5⟩
 .obtain⟨d,H,rfl⟩:=aD.1 T;obtain e|⟨A,r,a1,a2,a3,a4,a5,e⟩:=CW (W.a+1) d W.ac[d.a]?
  .rw[e]at hf|-;have hE:=h.ca d H hf;exact hE.go (mE.refl ..) j (hE.r.L (mE.refl ..) (uT.refl K _ _) (hJ _))
  rw[e];exact h.ends hw H a1 a3 a4 j
 .obtain⟨d,H,rfl⟩:=aD.1 Q;obtain⟨M,y,rfl⟩:=aD.1 T;obtain⟨s1,s2,_,_,_,_,s7⟩:=qo (W.a+1) M W.ac[M.a]?;rw[s7]at Y;rw[s1,s2];have hb:=(hw.ca M y).bg;obtain e|⟨A,r,a1,a2,a3,a4,a5,e⟩:=CW (W.a+1) d W.ac[d.a]?
  .rw[e]at e1 Y|-;exact h.fl d H M y e1 Y
  grind
 obtain⟨_,_,s3,_,s5,_⟩:=qo (W.a+1) c W.ac[c.a]?;exact⟨s3,s5⟩
theorem SI.plain(h:SI S K F W)(Y:(W'.n=W.n/\W'.m=W.m)/\W'.v=W.v/\W'.ce=W.ce)(Z:∀i P,W'.pl[i]?=some P->tW S K F W.ac i P)(h3:∀l∈W'.iN,vY S K F W.ac l)(j:W'.gF=W.gF)(y:W'.ac=W.ac):SI S K F W':=by
 obtain⟨H,s2,s3⟩:=h.s;obtain⟨L,w2,w3⟩:=Y;have M:∀i,W'.J i=W.J i:=λi=>by
  unfold Wd.J
  grind
 refine⟨⟨⟨L.1.H H.1,L.2.H H.2⟩,w2.H s2,w3.H s3⟩,h.k,jf y Z,by rw[y];exact λi A hA=>by rw[M];exact h.cl i A hA,by rw[y];exact h.nr,jf y h3,by rw[j];exact h.p0,by rw[j];exact h.fu,by rw[y];exact h.f,λc Q hf=>?_,by rw[j];exact h.fl⟩;rw[j]at Q;have T:=h.ca c Q hf;refine T.go (mE.refl ..) (by rw[j];exact Gb.refl _) ?_;rw[M];exact T.r
end
section
variable{o:Kl}
def ER(y:Wk W)(M:W.ac[i]?=some A)(h:A.up=true):∀c∈W.gF,c.a=i->c.fin≠0->A.X.e[c.b]?=some c.r/\c.r.wh≠0:=λc H e L=>by obtain⟨B,j,T,Q⟩:=(y.ca c H).ac;rw[e,M]at j;simp at j;subst j;exact⟨Q h L,(y.ca c H).fw L⟩
def SI.V7(h:SI S K F W)(Y:mE S K K')(kw:Kw S K')(hP:K'.P0=K.P0)(hA:K'.b=K.b)(hF:∀t,K'.Fu t->K.Fu t\/Yq S W'.gF t)(h1:(W'.n=W.n/\W'.m=W.m)/\W'.v=W.v/\W'.ce=W.ce)(h2:∀i P,W'.pl[i]?=some P->tW S K' F' W.ac i P)(h3:∀l∈W'.iN,vY S K' F' W.ac l)(Z:W'.ac=W.ac)(hg:Gb W.gF W'.gF)(j:∀c'∈W'.gF,(c'.fin=0/\F' c'.a c'.b=K'.D)\/∃c∈W.gF,IC c c'/\c'.fin=c.fin/\c'.r=c.r/\F' c.a c.b=F c.a c.b)(hx:∀(i:Nat) (A:Ac),W.ac[i]?=some A->(∀k,k<A.X.e.length->F' i k=F i k)/\∀c∈A.X.a,c.gL<A.X.e.length):SI S K' F' W':=by
 obtain⟨s1,s2,s3⟩:=h.s;obtain⟨w1,w2,w3⟩:=h1;have hp:∀cl ca:Int,uT K K' cl ca:=λcl ca t a e _ _ x=>j9 hP x;have ha:∀id,Su K K' id:=λid e b v x _=>j9 hA x;have hJ:=λi=>hg.J (W:=W) (W':=W') i;refine⟨⟨⟨w1.1.H s1.1,w1.2.H s1.2⟩,w2.H s2,w3.H s3⟩,kw,jf Z h2,?_,by rw[Z];exact h.nr,jf Z h3,λt a e x=>hg.Ou (h.p0 t a e (j9 hP x)),λt x=>?_,by rw[Z,hA];exact h.f,λc M hf=>?_,λo ho c M e1 e2=>?_⟩
 .rw[Z];intro i A hi;obtain⟨x1,x2⟩:=h.cl i A hi;obtain⟨f1,f2⟩:=hx i A hi;have Q:=x1.L Y (λca=>hp _ ca) (ha _) (hJ i);refine⟨⟨Q.b,λc M hP=>?_,λk r hr hw=>?_,Q.g,Q.nd,Q.mv⟩,x2⟩
  .rw[f1 _ (f2 c M)];exact Q.f c M hP
  rw[f1 k (aj.1 hr).1];exact Q.e k r hr hw
 .obtain x|x:=hF t x
  .obtain⟨o,o1,o2,o3,a,o4,o5⟩:=h.fu t x;obtain⟨o',a3,g⟩:=hg o o1;exact⟨o',a3,by rw[g.ij];exact o2,g.s.2.2.1.H o3,a,g.tk a o4,o5⟩
  exact x
 .obtain⟨n1,_⟩|⟨d,hd,g,g1,T,g3⟩:=j c M
  .exact absurd n1 hf
  have hE:=h.ca d hd (j9 g1 hf);obtain⟨k1,k2,k3,k4,k5,k6⟩:=g.s;have a4:Sy S K' (F' d.a d.b) (W'.J d.a) (ja d.a) d.b d.r:=by rw[g3];exact hE.r.L Y (hp _ _) (hJ _)
  have a0:FX S K' F' W' d:=hE.go Y hg a4;refine⟨by rw[k1,k2,T];exact a0.r,λy=>?_⟩;have H:WB d:=by unfold WB at y|-;rwa[k3,T]at y
  obtain⟨t,a,o,⟨b1,b2⟩,b4,b5,b6⟩:=a0.m H;refine⟨t,a,o,⟨?_,b2⟩,b4,jf g1 b5,b6⟩;unfold XP at b1|-;rw[k3,T,g.ij,k4];exact b1
 obtain⟨n1,_⟩|⟨d,hd,g,g1,T,_⟩:=j o ho
 .exact absurd n1 e1
 obtain⟨k1,k2,k3,k4,k5,k6⟩:=g.s;have a1:d.fin≠0:=j9 g1 e1;have a2:∀{K:Kn},Xx S K d->Xx S K o:=fun{K} hh=>⟨λy=>by
  have H:WB d:=by unfold WB at y|-;rwa[k3,T]at y
  obtain⟨t,a,b1,b2⟩:=hh.b H
  refine⟨t,a,?_,b2⟩
  unfold XP at b1|-
  rw[k3,T,g.ij,k4];exact b1⟩
 refine a2 ?_;obtain⟨_,n2⟩|⟨q,hq,gq,_,_,q3⟩:=j c M
 .rw[n2];exact(h.ca d hd a1).ahd.L Y
 obtain⟨z1,z2,_,_,_,z6⟩:=gq.s;rw[z1,z2,q3];exact(h.fl d hd q hq a1 (by rw[<-g1,<-z6];exact e2)).L (Vm Y)
end
section
variable{o:Kl}
theorem SI.Yn(h:SI S K F W)(L:Wk W)(M:mE S K K')(Q:Kw S K')(T:K'.P0=K.P0)(j:K'.b=K.b)(hF:K'.Fu=K.Fu)(Y:(W'.n=W.n/\W'.m=W.m)/\W'.v=W.v/\W'.ce=W.ce)(Z:∀i P,W'.pl[i]?=some P->tW S K' F W.ac i P)(h3:∀l∈W'.iN,vY S K' F W.ac l)(H:W'.gF=W.gF)(h5:W'.ac=W.ac):SI S K' F W':=
 h.V7 M Q T j (λt x=>.inl (by grind)) Y Z h3 h5 (by rw[H];exact Gb.refl _) (by rw[H];exact λc y=>.inr ⟨c,y,IC.refl c,rfl,rfl,rfl⟩) λi A j=>⟨λ_ _=>rfl,λc y=>(L.ac i A j).x.a.lt c y⟩
def LP(S:Cf){x:Int}(h:nN S.n S.m x)(j:n9 S.v x):False:=by have:=rj S.A.1.2 S.A.2.1.2;unfold nN at h;unfold n9 at j;omega
def Qy(S:Cf){j:Nat}(h:jP S.n S.m i=jP S.n S.m j):i=j:=by have:=rj S.A.1.2 S.A.2.1.2;unfold jP at h;omega
def C5(h:nN S.n S.m i):jP S.n S.m i=i:=by unfold jP;rw[aE (by unfold nN at h;have:=h.2;exact_mod_cast this)]
def XI.iH{F:Nat->Fl}{J:Jq}(h:XI S K F J (λ_=>True) X)(kw:Kw S K)(hx:Xk b X)(T:Ke X):∀z∈X.iH,YE X z.2/\(nN S.n S.m z.1->Ul S K z.1 z.2)/\(n9 S.v z.1->XL K z.2):=by
 have Z:=h.b;have Y:∀{α:Type} (q:Qn α) (z:Int×Rq),z∈q.iH->z.1∈q.nodes/\z.2=q.A:=λq z hz=>by
  unfold Qn.iH at hz;split at hz
  .obtain⟨nd,h1,rfl⟩:=aD.1 hz;exact⟨(aU.1 h1).1,rfl⟩
  simp at hz
 have a0:∀(q:Qn An) (u:Int),VB K q->u∈q.nodes->Ul S K u q.A:=λq u hq hu=>by obtain⟨e1,e2⟩:=hq (bM hu);exact⟨e1.1,e1.2,λe=>tD e2 e⟩
 intro z hz;unfold Cx.iH at hz;simp only[aT]at hz;obtain ((hz|hz)|hz)|hz:=hz
 .obtain⟨c,hc,hz⟩:=eB.1 hz;obtain⟨M,z2⟩:=Y _ z hz;have j:c.q.nodes≠[]:=bM M;have y:nN S.n S.m z.1:=by rw[<-Z.n,<-Z.m];exact(hx.f c hc).q.id _ M
  rw[z2];refine⟨⟨T.c c hc j,λd hd H e=>?_,λQ e=>absurd e.symm ((T.v Q).2.1 c hc j)⟩,λ_=>(h.f c hc trivial).A kw.toKv Z.e M,λL=>(LP S y L).elim⟩;rw[hx.nk d hd c hc H j e]
 .obtain⟨M,z2⟩:=Y _ z hz;have j:X.c.nodes≠[]:=bM M;have y:nN S.n S.m z.1:=by rw[<-Z.n,<-Z.m];exact hx.pr.id _ M
  rw[z2];exact⟨⟨(T.p j).1,λd hd H e=>absurd e ((T.p j).2 d hd H),λQ e=>absurd e.symm ((T.v Q).2.2.1 j)⟩,λ_=>a0 _ _ h.mv.pb M,λL=>(LP S y L).elim⟩
 .obtain⟨M,z2⟩:=Y _ z hz;have j:X.mv.a.nodes≠[]:=bM M;have y:nN S.n S.m z.1:=by rw[<-Z.n,<-Z.m];exact hx.sl.id _ M
  rw[z2];exact⟨⟨(T.s j).1,λd hd H e=>absurd e ((T.s j).2 d hd H),λQ e=>absurd e.symm ((T.v Q).2.2.2 j)⟩,λ_=>a0 _ _ h.mv.sl M,λL=>(LP S y L).elim⟩
 obtain⟨M,z2⟩:=Y _ z hz;have j:X.mv.A.nodes≠[]:=bM M;have L:n9 S.v z.1:=by rw[<-Z.v];exact hx.vt.id _ M
 rw[z2];refine⟨⟨(T.v j).1,λd hd H e=>absurd e ((T.v j).2.1 d hd H),λ_ _=>rfl⟩,λy=>(LP S y L).elim,λ_=>⟨by rw[h.mv.ep j];exact(h.mv.me j).2,λe6 hv=>?_⟩⟩;obtain⟨p1,p2,p3⟩:=h.mv.q6 j e6;rw[h.mv.ep j,p1,p2];exact p3 (j9 p2 hv)
theorem SI.lM(h:SI S K F W)(hw:Wk W)(k):∃K',SI S K' F (W.lM k)/\∀l,vY S K F W.ac l->vY S K' F (W.lM k).ac l:=by
 obtain⟨⟨s1,s2⟩,s3,s4⟩:=h.s;have hm:=h.cl.mv;unfold Wd.lM;split
 .split
  .exact⟨K,h,λ_ e=>e⟩
  rename_i P hP;split
  .have L:=h.nd k P hP;have hq:∀e∈P.q,vY S K F W.ac ⟨jP W.n W.m k,e.cl,e.pk⟩:=λe Z=>by
    rw[s1,s2];obtain⟨y,q,up,nf⟩:=P
    cases y with
    |unit ch s=>rw[C5 L.1.2];exact(L.2.2 e Z).2
    |voter s=>exact(L.2.2 e Z).2
   refine⟨K,h.plain ⟨⟨rfl,rfl⟩,rfl,rfl⟩ (λj Q hQ=>?_) (λl hl=>?_) rfl rfl,λ_ e=>e⟩
   .have H:(W.pl.set k P.jE)[j]?=some Q:=hQ;by_cases e:j=k
    .subst e;rw[aQ (aj.1 hP).1]at H;simp at H;subst H;obtain⟨y,q,up,nf⟩:=P
     cases y with
     |unit ch s=>exact⟨L.1,L.2.1,by simp[Pl.jE]⟩
     |voter s=>exact⟨L.1,L.2.1,by simp[Pl.jE]⟩
    rw[aH (λe'=>e e'.symm)]at H;exact h.nd j Q H
   obtain hl|hl:=aT.1 hl
   .exact h.po l hl
   obtain⟨e,Z,rfl⟩:=aD.1 hl;exact hq e Z
  exact⟨K,h,λ_ e=>e⟩
 split
 .exact⟨K,h,λ_ e=>e⟩
 rename_i A M;split
 .rename_i a0;have T:=h.cl _ A M;have a1:=(hw.ac _ A M).x;have Y:∀l∈W.iN++A.X.iH.map λz=>(⟨ja (k-W.pl.length),z.1,.req z.2⟩:Le),vY S K F W.ac l:=λl hl=>by
   obtain hl|hl:=aT.1 hl
   .exact h.po l hl
   obtain⟨z,hz,rfl⟩:=aD.1 hl;obtain⟨o1,o2,o3⟩:=T.1.iH h.k a1 (h.nr _ A M) z hz;exact⟨_,A,rfl,M,o1,o2,o3⟩
  have h0:SI S K F {W with iN:=W.iN++A.X.iH.map (λz=>(⟨ja (k-W.pl.length),z.1,.req z.2⟩:Le))}:=h.plain ⟨⟨rfl,rfl⟩,rfl,rfl⟩ h.nd Y rfl rfl;obtain⟨K',k1,k2,k3⟩:=h0.act (W':={W with jl:=W.jl+1,ac:=W.ac.set (k-W.pl.length) {A with X:=A.X.jE},iN:=W.iN++A.X.iH.map (λz=>(⟨ja (k-W.pl.length),z.1,.req z.2⟩:Le))}) (i:=k-W.pl.length) (A:=A) M (Oz (G:=G0) T.1 h.k) (λ_ _ e=>e.elim) rfl (λ_ _ e _=>e) (ER (W:=W) hw M a0) ⟨⟨rfl,rfl⟩,rfl,rfl⟩ rfl rfl rfl (λj=>by
   show(W.ac.set _ _)[j]?=_
   by_cases e:j=k-W.pl.length
   .rw[aE e,e,aQ (aj.1 M).1]
   .rw[az e,aH (λe'=>e e'.symm)])
  exact⟨K',k2,k3⟩
 exact⟨K,h,λ_ e=>e⟩
end
def Sf(S:Cf)(W:Wd):Prop:=∃K F,SI S K F W/\sC W
section
variable{o:Kl}
theorem zN(W:Wd)(l)(j):(W.oz l).pl[j]?=(W.pl[j]?).map λP=>if jP W.n W.m j=l.tt/\P.up=true then P.recv W.n W.m W.v W.ce l.fr l.pk else P:=by
 show(W.qp l W.pl.length)[j]?=_;rw[pf]
 cases e:W.pl[j]? with
 |none=>rfl
 |some P=>have h:=(aj.1 e).1;simp_all
theorem G3(W:Wd)(l)(j):(W.oz l).ac[j]?=(W.ac[j]?).map λA=>if ja j=l.tt/\A.up=true then{A with X:=A.X.recv l.fr l.pk}else A:=by
 show(W.sA l W.ac.length)[j]?=_;rw[oV]
 cases e:W.ac[j]? with
 |none=>rfl
 |some P=>have h:=(aj.1 e).1;simp_all
theorem Us(h:SI S K F W)(Y:W.ac[i]?=some A)(hx:Xk b A.X)(hl:vY S K F W.ac l)(T:ja i=l.tt)(hp:∀y B,l.pk=.rep y B->Ei b B)(hv:∀y M v,l.pk=.vot y M v->(0<=M/\M<=b.E+1)/\BM b v):Dq S K (F i) (W.J i) G0 A.X (A.X.recv l.fr l.pk):=by
 have H:=(h.cl i A Y).1;obtain⟨fr,tt,pk⟩:=l
 cases pk with
 |req r=>exact Dq.D H h.k
 |rep y B=>obtain⟨j,B',Z,L,Q⟩:=hl;have:i=j:=oT (T.H Z);subst this;rw[Y]at L;simp at L;subst L;exact JO H h.k hx (hp y B rfl) Q.e5 Q.c
 |vot y M v=>obtain⟨j,B',Z,L,Q⟩:=hl;have:i=j:=oT (T.H Z);subst this;rw[Y]at L;simp at L;subst L;exact RD H h.k hx (hv y M v rfl).2 (hv y M v rfl).1 Q.tl Q.na Q.v
theorem SI.oz(h:SI S K F W)(hw:Wk W)(hl:vY S K F W.ac l)(hk:ui (W.A 0) W.n W.m W.v l):∃K',SI S K' F (W.oz l)/\∀l',vY S K F W.ac l'->vY S K' F (W.oz l).ac l':=by
 obtain⟨⟨s1,s2⟩,s3,s4⟩:=h.s;by_cases a5:∃i A,W.ac[i]?=some A/\ja i=l.tt/\A.up=true
 .obtain⟨i,A,hA,y,T⟩:=a5;have a3:=hw.ac i A hA;obtain⟨r1,r2⟩:=a3.recv hk;obtain⟨a1,a2⟩:=hk.D (W.A i) (sD W W 0 i jr jr);have gN:(A.X.recv l.fr l.pk).id=A.X.id:=by have e1:=r1.d.2.2.2;have e2:=a3.x.d.2.2.2;exact e1.H e2.symm
  have Y:(W.oz l).pl=W.pl:=by
   apply bJ;intro j;rw[zN]
   cases e:W.pl[j]? with
   |none=>rfl
   |some P=>simp only[bG];rw[az];rintro⟨q,_⟩;have hj:=(aj.1 e).1;have a7:=hw.pl;have a8:=hw.v1;have:=rj hw.n1.2 hw.m1.2;rw[<-y]at q;unfold jP ja at q;split at q<;>omega
  obtain⟨K',k1,k2,k3⟩:=h.act (W':=W.oz l) hA (Us h hA a3.x hl y a1 a2) (λ_ _ e=>e.elim) gN r2.nB (ER hw hA T) ⟨⟨rfl,rfl⟩,rfl,rfl⟩ Y rfl rfl (λj=>by
   rw[G3]
   by_cases e:j=i
   .rw[aE e,e,hA]
    simp only[bG]
    rw[aE ⟨y,T⟩]
   .rw[az e]
    cases e2:W.ac[j]? with
    |none=>rfl
    |some B=>
     simp only[bG]
     rw[az]
     rintro⟨q,_⟩
     exact e (oT (q.H y.symm)))
  exact⟨K',k2,k3⟩
 have Z:(W.oz l).ac=W.ac:=by
  apply bJ;intro j;rw[G3]
  cases e:W.ac[j]? with
  |none=>rfl
  |some B=>simp only[bG];rw[az];rintro⟨q1,q2⟩;exact a5 ⟨j,B,e,q1,q2⟩
 by_cases Y:∃i P,W.pl[i]?=some P/\jP S.n S.m i=l.tt/\P.up=true
 .obtain⟨i,P,hP,y,T⟩:=Y;rw[s1,s2,s3]at hk;obtain⟨K',kl,kw,⟨e1,e2,e3⟩,e4,hN⟩:=(h.nd i P hP).recv h.k h.cl hl hk y;refine⟨K',h.Yn hw kl kw e1 e2 e3 ⟨⟨rfl,rfl⟩,rfl,rfl⟩ (λj Q hQ=>?_) (λl hl=>(h.po l hl).L kl h.cl.mv) rfl Z,λ_ e=>by rw[Z];exact e.L kl h.cl.mv⟩;rw[zN,s1,s2,s3,s4]at hQ;obtain⟨Q',a4,e⟩:=bN.1 hQ;by_cases q:j=i
  .subst q;rw[hP]at a4
   cases a4;rw[aE ⟨y,T⟩]at e;rw[<-e];exact hN
  have a0:jP S.n S.m j≠jP S.n S.m i:=λe'=>q (Qy S e');rw[az (λq2=>a0 (q2.1.H y.symm))]at e;rw[<-e];have M:=h.nd j Q' a4;obtain⟨a6,qq,up,nf⟩:=Q';have gN:∀(i:Nat) (A:Ac),W.ac[i]?=some A->∃A',W.ac[i]?=some A'/\Qg A.X A'.X/\∀c∈A.X.a,F i c.gL=F i c.gL:=λi A hA=>⟨A,hA,Qg.refl _,λ_ _=>rfl⟩
  cases a6 with
  |unit ch s=>refine M.go kl ?_ (e4 _ a0).2 h.cl.mv gN;rw[<-C5 M.1.2];exact(e4 _ a0).1
  |voter s=>exact⟨M.1,(e4 _ a0).2.H M.2.1,λe he=>⟨(M.2.2 e he).1,(M.2.2 e he).2.L kl h.cl.mv⟩⟩
 refine⟨K,h.plain ⟨⟨rfl,rfl⟩,rfl,rfl⟩ (λj P hP=>?_) h.po rfl Z,by rw[Z];exact λ_ e=>e⟩;rw[zN,s1,s2]at hP;obtain⟨Q,hQ,e⟩:=bN.1 hP;rw[az (λq=>Y ⟨j,Q,hQ,q.1,q.2⟩)]at e;rw[<-e];exact h.nd j Q hQ
def SI.mQ(h:SI S K F W)(j:Wk W)(y:sC W)(L:vY S K F W.ac l)(H:ui (W.A 0) W.n W.m W.v l):∃K',SI S K' F (W.mQ l)/\sC (W.mQ l)/\∀l',vY S K F W.ac l'->vY S K' F (W.mQ l).ac l':=by
 unfold Wd.mQ;split
 .exact⟨K,h.plain ⟨⟨rfl,rfl⟩,rfl,rfl⟩ h.nd h.po rfl rfl,y,λ_ e=>e⟩
 obtain⟨K',M,Q⟩:=h.oz j L H;obtain⟨T,Y⟩:=M.jx (j.oz H) y;exact⟨K',T,Y,Q⟩
theorem vD{l:List Ac}(h:l[i]?=some A)(X)(j):(l.modify i λB=>{B with X:=X})[j]?=if j=i then some {A with X:=X}else l[j]?:=by
 rw[bS];by_cases e:j=i
 .simp_all
 rw[az e];have e':¬i=j:=λq=>e q.symm
 cases l[j]? with
 |none=>rfl
 |some B=>simp[e']
def SI.jG(h:SI S K F W)(M:Wk W)(i):∃K',mE S K K'/\SI S K' F (W.jG i):=by
 unfold Wd.jG;split
 .exact⟨K,mE.refl ..,h⟩
 rename_i A y;split
 .rename_i L;have H:=M.ac i A y;obtain⟨Q,T⟩:=H.kG;obtain⟨K',Y,Z,_⟩:=h.act (W':=W.pN i A.X.kG) y (Qr (G:=G0) (h.cl i A y).1 h.k) (λ_ _ e=>e.elim) (Q.d.2.2.2.H H.x.d.2.2.2.symm) T.nB (ER M y L) ⟨⟨rfl,rfl⟩,rfl,rfl⟩ rfl rfl rfl (λj=>by exact vD y _ j)
  exact⟨K',Y,Z⟩
 exact⟨K,mE.refl ..,h⟩
theorem SI.ks(h:SI S K F W):SI S K F W.ks:=by
 obtain⟨⟨T,Y⟩,Z,s4⟩:=h.s;unfold Wd.ks;split
 .exact h
 rename_i jt;have hg:∀(i:Nat) (A:Ac),W.ac[i]?=some A->∃A',(W.ac++[⟨Cx.new W.n W.m W.v W.ce (ja W.ac.length),true⟩])[i]?=some A'/\Qg A.X A'.X/\∀c∈A.X.a,F i c.gL=F i c.gL:=λi A H=>⟨A,by rw[aB (aj.1 H).1];exact H,Qg.refl _,λ_ _=>rfl⟩;have L:∀(i:Nat) (A:Ac),(W.ac++[⟨Cx.new W.n W.m W.v W.ce (ja W.ac.length),true⟩])[i]?=some A->W.ac[i]?=some A\/(i=W.ac.length/\A.X=Cx.new W.n W.m W.v W.ce (ja W.ac.length)):=λi A H=>by grind
 refine⟨⟨⟨T,Y⟩,Z,s4⟩,h.k,λj P hP=>(h.nd j P hP).go (mE.refl ..) rfl rfl h.cl.mv hg,λi A H=>?_,λi A H=>?_,λl hl=>(h.po l hl).go (mE.refl ..) h.cl.mv hg,h.p0,h.fu,λe b v x=>?_,λc hc hf=>?_,h.fl⟩
 .obtain H|⟨e,M⟩:=L i A H
  .exact h.cl i A H
  rw[M,e,T,Y,Z,s4];refine⟨SG h.k (by unfold ja;omega) λe b v x y=>?_,rfl⟩;obtain⟨j,j1,Q⟩:=h.f e b v x;unfold ja at Q y;omega
 .obtain H|⟨e,M⟩:=L i A H
  .exact h.nr i A H
  rw[M];exact⟨by simp[Cx.new],λe=>absurd rfl e,λe=>absurd rfl e,λe=>absurd rfl e⟩
 .obtain⟨j,j1,Q⟩:=h.f e b v x;exact⟨j,by show j<(W.ac++_).length;simp;omega,Q⟩
 have hE:=h.ca c hc hf;exact hE.go (mE.refl ..) (Gb.refl _) hE.r
end
def Tryz.Xp:(prog.info? 60).map (λi=>(i.zero,i.size,i.bytes))=some (some (.agg #[I 0,I 0,I 0,I 0,.string {data:=#[]},OO,I 0,I 0,I 0,I 0,OO]),11,128):=rfl
def zC(ys):(js ys).size=ys.length:=by have:=Z5 List.length (ri ys);simp_all
def tO(ys):(js ys).data.size=ys.length:=zC ys
def Pf(w:World)(ys)(y:∀d∈ys,0<=d/\d<=255)(cap)(f):Bs (w.alloc (ig (bytesRow (js ys) cap) 5 f)) (gK (G w.heap.size) ys.length cap) (ys.map B8):=by
 refine .inr ⟨(U w.heap.size 0),cap,bz,λj u H=>?_⟩;rw[nW,bP,ax _ _ j _ 5 f (ao w _)];obtain⟨h,rfl⟩:=aj.1 H;rw[ay]at h;rw[bytesRow_at _ _ _ (by rw[tO];exact h)];have L:(js ys).data[j]'(by rw[tO];exact h)=UInt8.ofNat (ys[j]).toNat:=by
  have:=ri ys;have M:(js ys).data.toList[j]?=(ys.map λn=>UInt8.ofNat n.toNat)[j]?:=by rw[this]
  rw[aK,ah h,gw,dW (by rw[tO];exact h)]at M;simp_all
 have Q:=y ys[j] (aL h);rw[L,dC];simp only[B8,UInt8.toNat_ofNat',aJ,Value.int.injEq,ZU];omega
def Jf(w:World)(ys)(h:∀d∈ys,0<=d/\d<=255)(cap)(f)(y:ys.length<=cap)(H:cap<=maxLen):sJ (w.alloc (ig (bytesRow (js ys) cap) 5 f)) (gK (G w.heap.size) ys.length cap) ys:=by
 refine⟨w.heap.size,0,cap,rfl,bz,y,by unfold maxLen at H;omega,λj d L=>?_⟩;obtain⟨e,_⟩|⟨T,c,e,M⟩:=Pf w ys h cap f
 .simp_all
 simp at e;obtain⟨Q,_⟩:=e;have:=M j _ (by rw[aK,L];rfl);rw[<-Q,nW]at this;omega
theorem Dd(w)(n:Nat):iU 40 #[I n] w λh w'=>h=gU (.string (js (kP n)))/\Bl w w':=by
 have H:IntKind.u8.wrap (n:Int)=(n:Int)%256:=IntKind.wrap_u8 _;have L:IntKind.u8.wrap ((n:Int)/256)=(n:Int)/256%256:=IntKind.wrap_u8 _;have M:=mm (gK (G w.heap.size) 5 5) (kP n) (w.alloc (ig #[.int .u8 ((n:Int)%256),.int .u8 ((n:Int)/256%256),.int .u8 ((n:Int)/65536%256),.int .u8 ((n:Int)/16777216%256),.int .u8 118] 5)) (by
  refine Bs.sl (.inr ⟨(U w.heap.size 0),5,by simp[kP],λj u y=>?_⟩)
  rw[nW,bP,ax _ _ j _ 5 (0,0) (ao w _)]
  simpa [kP,B8]using y)
 go_enter func40,ntmps40;go_wp2;go_ret;exact⟨rfl,jZ.alloc _⟩
def Dn(X:Cx)(kind pos:Int)(val:List Int)(rn er:Int)(X2:Cx):Prop:=(X.a.length=8/\rn=0/\er=7/\X2=X)\/(X.a.length<8/\rn=X.e.length/\er=0/\X2=X.lV kind pos val)
def Wk.cx(h:Wk W)(j:W.ac[i]?=some A):A.X.n=W.n/\A.X.m=W.m/\A.X.ce=W.ce:=by obtain⟨⟨c1,c2⟩,_,y,_⟩:=(h.ac i A j).x.d;exact⟨c1,c2,y⟩
def KK(hW:Wk W)(hS:Sw W)(hA:W.ac[i]?=some A)(kind b:Int)(f:Nat)(hk:(kind=2/\f=19)\/(kind=5/\f=22))(hC:Cl w cP (100+32*i) p qb A.X):∃rn er X2,Dn A.X kind (W.lO kind b) [] rn er X2/\iU f #[O p,I (W.lO kind b)] w λH w'=>H=gU (.tuple #[I rn,I er])/\∃fz h,j4 (Mc (100+32*i)) w cP w' fz/\Cl w' fz (100+32*i) p h X2:=by
 obtain⟨VC,M⟩:=hC;have Z:=(hW.ac i A hA).x;have y:=hS.sm i;have j:=Z.Q8 y;have hr:=Z.MZ y;obtain⟨c1,c2,c3⟩:=hW.cx hA;obtain⟨Q,p2,p3,p5⟩:=Al hW kind b C;rw[<-c1,<-c3]at p3;rw[<-c1,<-c2]at p5;obtain⟨pos,T⟩:=gG (W.lO kind b);rw[T]at Q p2 p3 p5|-;have h8:=Z.pl;by_cases hf:A.X.a.length=8
 .refine⟨0,7,A.X,.inl ⟨hf,rfl,rfl,rfl⟩,?_⟩;have fin:∀w',Bl w w'->∃fz h,j4 (Mc (100+32*i)) w cP w' fz/\Cl w' fz (100+32*i) p h A.X:=λw' hb=>⟨cP,qb,j4.A hb λ_ _=>rfl,Cl.bl ⟨VC,M⟩ hb λ_ _=>rfl⟩;obtain⟨rfl,rfl⟩|⟨rfl,rfl⟩:=hk
  .exact(CE _ _ _ _ (Mt M j hf pos ⟨Q,p3 rfl⟩)).L λH w' e=>⟨e.1,fin w' e.2⟩
  exact(Cd _ _ _ _ (Ip M j hf C pos ⟨Q,p5 rfl⟩)).L λH w' e=>⟨e.1,fin w' e.2⟩
 refine⟨A.X.e.length,0,A.X.lV kind pos [],.inr ⟨C,rfl,rfl,rfl⟩,?_⟩;have fin:∀w' X' h,CS w cP (100+32*i) p h X' w'->∃fz h,j4 (Mc (100+32*i)) w cP w' fz/\Cl w' fz (100+32*i) p h X':=λw' X' h Y=>by obtain⟨fz,k,hc⟩:=Y.A;exact⟨fz,h,k,hc⟩
 obtain⟨rfl,rfl⟩|⟨rfl,rfl⟩:=hk
 .exact(CE _ _ _ _ (Uf M C j C C pos ⟨Q,p3 rfl⟩)).L λH w'⟨e,q,_,Y⟩=>⟨e,fin w' _ _ Y⟩
 exact(Cd _ _ _ _ (NI M C j (Z.xn y) C C pos ⟨Q,p5 rfl⟩)).L λH w'⟨e,q,_,Y⟩=>⟨e,fin w' _ _ Y⟩
def Qd(Z:Wk W)(hS:Sw W)(hA:W.ac[i]?=some A)(pos)(a)(cap)(val)(h0:val.length=5)(hv:sJ w (gK a 5 cap) val)(h:∀b,(gK a 5 cap).ownBlock=some b->¬Mc (100+32*i) (cP b))(hC:Cl w cP (100+32*i) p qb A.X):∃M Q X2,Dn A.X 1 pos val M Q X2/\iU 18 #[O p,gK a 5 cap] w λj w'=>j=gU (.tuple #[I M,I Q])/\∃fz y,j4 (Mc (100+32*i)) w cP w' fz/\Cl w' fz (100+32*i) p y X2:=by
 obtain⟨VC,H⟩:=hC;have T:=(Z.ac i A hA).x;have hr:=T.MZ (hS.sm i);have h8:=T.pl;by_cases Y:A.X.a.length=8
 .refine⟨0,7,A.X,.inl ⟨Y,rfl,rfl,rfl⟩,?_⟩;exact(AF _ _ _ _ ⟨_,_,_,rfl⟩ (GG H Y a 5 cap C C)).L λj w' e=>⟨e.1,cP,qb,j4.A e.2 λ_ _=>rfl,Cl.bl ⟨VC,H⟩ e.2 λ_ _=>rfl⟩
 refine⟨A.X.e.length,0,A.X.lV 1 pos val,.inr ⟨C,rfl,rfl,rfl⟩,?_⟩;refine(AF _ _ _ _ ⟨_,_,_,rfl⟩ (N8 H C C _ val C C hv h)).L λj w'⟨e,q,_,hs⟩=>⟨e,?_⟩;obtain⟨fz,k,hc⟩:=hs.A;exact⟨fz,_,k,hc⟩
def Jh(h:Wk W)(Y:W.ac[i]?=some A)(hu:A.up=true):W.jx.uz i=A.X.a.length:=by
 have L:=h.ac i A Y;have hn:=h.nw;have j:∀c∈W.gF,c.a=i->((c.D (W.a+1) W.ac[c.a]?).fin=0↔∃d∈A.X.a,d.gL=c.b):=λc y ha=>by
  obtain⟨B,b1,b2,b3⟩:=(h.ca c y).ac;rw[ha,Y]at b1;obtain rfl:A=B:=je b1;obtain⟨r,Z⟩:=nS b2;rw[<-L.x.g c.b r Z,ha,Y];have e:c.D (W.a+1) (some A)=if c.fin=0/\r.wh≠0 then{c with fin:=W.a+1,r:=r}else c:=by unfold Kl.D;dsimp only;rw[aE hu,Z]
  rw[e];by_cases H:c.fin=0
  .by_cases T:r.wh=0
   .rw[az (λe=>e.2 T)];exact⟨λ_=>T,λ_=>H⟩
   rw[aE ⟨H,T⟩];exact⟨λe=>absurd e (by show¬W.a+1=0;omega),λe=>absurd e T⟩
  rw[az (λe=>H e.1)];have h2:=b3 hu H;rw[Z]at h2;obtain rfl:r=c.r:=je h2;exact⟨λe=>absurd e H,λe=>absurd e ((h.ca c y).fw H)⟩
 have a0:((W.gF.filter λc=>c.a==i).map (·.b)).Nodup:=by rw[L.nm];exact dU
 have hp:(A.X.a.map (·.gL)).Nodup:=(cj.2 L.x.a.gL).imp λe=>Nat.ne_of_lt e;have e1:W.jx.uz i=(((W.gF.filter λc=>c.a==i).filter λc=>decide ((c.D (W.a+1) W.ac[c.a]?).fin=0)).map (·.b)).length:=by show((W.gF.map λc=>c.D (W.a+1) W.ac[c.a]?).filter λc=>c.a==i&&decide (c.fin=0)).length=_;rw[dZ,ay,ay,List.filter_filter];congr 1;refine dH λc _=>?_;simp only[Function.comp,(qo _ c _).1];rw[Bool.and_comm]
 have e2:(((W.gF.filter λc=>c.a==i).filter λc=>decide ((c.D (W.a+1) W.ac[c.a]?).fin=0)).map (·.b)).Perm (A.X.a.map (·.gL)):=by
  refine(fG (a0.sublist (List.filter_sublist.map _)) hp).2 λk=>⟨λM=>?_,λM=>?_⟩
  .obtain⟨c,y,rfl⟩:=aD.1 M;obtain⟨m1,m2⟩:=aU.1 y;obtain⟨m3,m4⟩:=aU.1 m1;obtain⟨d,d1,d2⟩:=(j c m3 (je m4)).1 (je m2);exact aD.2 ⟨d,d1,d2⟩
  obtain⟨d,hd,rfl⟩:=aD.1 M;have hl:=L.x.a.lt d hd;have M:d.gL∈(W.gF.filter λc=>c.a==i).map (·.b):=by rw[L.nm];exact di.2 C
  obtain⟨c,y,Q⟩:=aD.1 M;obtain⟨m3,m4⟩:=aU.1 y;exact aD.2 ⟨c,aU.2 ⟨y,by simpa using(j c m3 (je m4)).2 ⟨d,hd,Q.symm⟩⟩,Q⟩
 rw[e1,e2.length_eq,ay]
section
variable{K:Wd}
def Cu(c:Kl):List Value:=[I c.a,I c.b,I c.kind,I c.pos,.string (js c.value),OO,I c.c,I c.fin,I c.r.wh,I c.r.ad,OO]
def kM.RR{cc:Nat}(h:kM w cP g K {V with cv:=gK ca K.gF.length cc})(Y:Bl w W1)(hc:c.A=[])(hr:c.r.val=[]){gg cp:Nat}(T:w5.ownsRow 0 60 11 (gK (G gg) (K.gF.length+1) cp) (K.gF.length+1) (V.cs++Cu c))(M:W1.grownBy w5 (gK ca K.gF.length cc).ownBlock)(a2:(gK ca K.gF.length cc).ownBlock=some gg\/w.heap.size<=gg):∃tag2,j4 (λt=>t=1\/t=4) w cP (w5.setCell (U g 7) (gK (G gg) (K.gF.length+1) cp)) tag2/\kM (w5.setCell (U g 7) (gK (G gg) (K.gF.length+1) cp)) tag2 g {K with gF:=K.gF++[c]} {V with cv:=gK (G gg) (K.gF.length+1) cp,cs:=V.cs++Cu c}:=by
 have lw:=h.lt;have l2:=Y.lt;have l3:=M.size;have n3:V.tp=8\/V.tp=97:=h.ht;have tl:∀b,(gK ca K.gF.length cc).ownBlock=some b->cP b=4:=h.ca.row.cP;have ll:=λb Z=>(h.ca.row.ij.lt b Z).2;obtain⟨tag2,a0⟩:∃tag2:Nat->Nat,tag2=λb=>if b<w.heap.size then cP b else if b=gg then 4 else 9:=⟨_,rfl⟩
 have Q:∀b,b<w.heap.size->tag2 b=cP b:=λb Z=>by rw[a0];simp[Z]
 have a3:tag2 gg=4:=by
  obtain e|e:=a2
  .rw[Q gg (ll gg e)];exact tl gg e
  rw[a0];dsimp only;rw[az C,aE rfl]
 have oQ:gI (λb=>cP b=1\/cP b=4) w (w5.setCell (U g 7) (gK (G gg) (K.gF.length+1) cp)):=((gI.D Y).H ((gI.A M).L λb _ e=>.inr (tl b e.symm))).setCell (U g 7) (.inl (.inl h.tg)) _;have k:j4 (λt=>t=1\/t=4) w cP (w5.setCell (U g 7) (gK (G gg) (K.gF.length+1) cp)) tag2:=⟨oQ,Q⟩;have a1:w5.heap[g]?=some (ig (Fb K {V with cv:=gK ca K.gF.length cc}).toArray 66 (0,0)):=by rw[M.block g C λe=>by have:=tl g e.symm;rw[h.tg]at this;omega,Y.heap lw];exact h.hg
 refine⟨tag2,k,jO 7 _ w5 _ a1,(Q g lw).H h.tg,h.b.A k C λi _ _=>C,h.D.A k C λi _ _=>C,⟨⟨?_,λb Z=>?_⟩,λj y hy=>?_⟩,h.po.A k (show¬(V.tp=1\/V.tp=4) by omega) C,h.ha.A k C,h.ms.A k C,h.a,h.an,n3⟩
 .simp only[aO,df,dA];exact mW T λb Z=>Z8 _ _ _ _ λe=>gW T a1 bT (kz Z e)
 .have e:gg=b:=by simpa [Value.ownBlock]using Z
  rw[<-e];exact a3
 have hl:V.cs.length=K.gF.length*11:=h.ca.row.ij.1;by_cases hj:j<K.gF.length
 .rw[aB hj]at hy;obtain⟨tv,rv,e0,e1,e2,e3,e4,e5,e6,e7,e8,e9,a4,a5,a6⟩:=(h.ca.c j y hy).A k C C;have L:=λo (ho:o<11)=>aB (l₁:=V.cs) (l₂:=Cu c) (show j*11+o<V.cs.length by omega);exact⟨tv,rv,(L 0 C).H e0,(L 1 C).H e1,(L 2 C).H e2,(L 3 C).H e3,(L 4 C).H e4,(L 5 C).H e5,(L 6 C).H e6,(L 7 C).H e7,(L 8 C).H e8,(L 9 C).H e9,(L 10 C).H a4,a5,a6⟩
 have a7:=(aj.1 hy).1;simp at a7;have a8:j=K.gF.length:=C;subst a8;rw[aC jr]at hy;simp at hy;subst hy;have R:=λo (ho:o<11)=>show(V.cs++Cu c)[K.gF.length*11+o]?=(Cu c)[o]? by rw[aC C,hl];congr 1;omega
 exact⟨OO,OO,R 0 C,R 1 C,R 2 C,R 3 C,R 4 C,R 5 C,R 6 C,R 7 C,R 8 C,R 9 C,R 10 C,by rw[hc];exact nh.nil _ _ _,by rw[hr];exact Rd.nil⟩
end
def Pc(t:Nat):Prop:=Pg t\/t=9
def Wk.uS(h:Wk W):Wk {W with jl:=W.jl+1}:=by have H:=sD W {W with jl:=W.jl+1} 0 0 rE jr;have a1:=h.a;have Q:=h.nw;have a3:=h.cl;have a4:=h.hd;refine⟨h.n1,h.m1,h.v1,h.v2,h.c1,h.pl,λj P T=>(h.pk j P T).L H,h.b,λj B M=>⟨(h.ac j B M).x.L (FU W {W with jl:=W.jl+1} j rE jr rfl rfl rfl rfl λ_ _ _ _ _ e=>e),(h.ac j B M).nm⟩,λl Y=>(h.po l Y).L H,by show W.iN.length<=200*(W.jl+1);omega,⟨Q.1,by show W.a<=4*((W.jl+1:Nat):Int);omega⟩,by show W.gF.length<=W.jl+1;omega,λc Z=>?_,by show W.mC.length<=W.jl+1;omega,h.ms⟩;have y:=h.ca c Z;have:=y.tk;exact⟨y.ac,y.kd,y.po,y.vl,by show c.A.length<=W.jl+1;omega,y.bg,y.fi,y.r,y.fw⟩
def MQ{l:List Ac}(h:l[i]?=some A):(l.modify i λB=>{B with X:=A.X})=l:=by
 refine bJ λj=>?_;rw[bS];by_cases e:i=j
 .subst e;rw[h];simp
 cases l[j]?<;>simp[e]
def tP(b)(n:Nat)(h:0<n):pk b n=(ju b n:Int):=by have:=mO b n C;unfold ju;omega
def Yd(h:Wk W)(b:Int):pk b ((W.n:Int)*W.ce)=W.lO 2 b/\pk b ((W.n:Int)*W.m)=W.lO 5 b:=by have H:0<W.n*W.ce:=dQ h.n1.1 h.c1.1;have L:0<W.n*W.m:=dQ h.n1.1 h.m1.1;have j:=tP b (W.n*W.ce) H;have y:=tP b (W.n*W.m) L;have c1:((W.n*W.ce:Nat):Int)=(W.n:Int)*W.ce:=bz;have M:((W.n*W.m:Nat):Int)=(W.n:Int)*W.m:=bz;rw[c1]at j;rw[M]at y;exact⟨by rw[j];simp[Wd.lO,Wd.lQ],by rw[y];simp[Wd.lO]⟩
def Bb{wc Z:World}{L h j:Nat->Nat}{gb:Nat}{W1:Wd}{M:Array Value}{kind pos rn er:Int}{val:List Int}(k:j4 Pc w cP wc L)(k4:j4 (λs=>s=9) wc L Z h)(h4:kM Z h g W1 V)(a0:Rk V.aw i p A.up)(hA:W1.ac[i]?=some A)(a1:h gb=9)(a2:Z.heap[gb]?=some (ig M 60 (0,0)))(k5:j4 (Mc (100+32*i)) Z h w5 j)(hC:Cl w5 j (100+32*i) p qb X2)(hD:Dn A.X kind pos val rn er X2):∃Q T Y y,I rn=I Q/\I er=I T/\Hid (Dn A.X kind pos val Q T Y)/\Hid (j4 Pc w cP w5 y)/\Hid (kM w5 y g {W1 with ac:=W1.ac.modify i λB=>{B with X:=Y}} V)/\Hid (y gb=9/\w5.heap[gb]?=some (ig M 60 (0,0))):=by
 have hi:i<8:=by have:=(aj.1 hA).1;have:=h4.an;omega
 have e:=k5.heap a2 a1 (by unfold Mc;omega);exact⟨rn,er,X2,j,rfl,rfl,hD,(k.H (k4.L λs e=>.inr e)).H (k5.L λs e=>.inl (by unfold Mc at e;unfold Pg;omega)),h4.Tj k5 (λt e=>.inl (by unfold Mc at e;omega)) hA a0 hC,e.2,e.1⟩
theorem AX(h:kM w cP g W V)(hW:Wk W)(hS:W.jl+3<=3000000000)(hC:W.gF.length+1<=9999999)(kind a b:Int)(hk:kind=1\/kind=2\/kind=5)(dO:vZ a)(c6:vZ b)(cS:0<W.ac.length):Calls prog 28 #[.pointer (some ⟨g,0,none⟩),.int .i64 kind,.int .i64 a,.int .i64 b] w λen w'=>en=.returned (.bool true)/\∃fz,j4 Pc w cP w' fz/\Wx w' fz g (W.call kind a b):=by
 obtain⟨ff,fi,r0,r1,r2⟩:=fx Tryz.Xp;have gd:=h.a;have ge:=h.an;have fl:=hW.nw;obtain⟨i,hi⟩:=gG (ju a W.ac.length);have e0:i<W.ac.length:=by rw[<-hi];exact qO a cS
 have gi:(i:Int)<(W.ac.length:Int):=C;have e2:pk a W.ac.length=(i:Int):=by rw[tP a _ cS,hi]
 obtain⟨A,hA⟩:=nS e0;have c9:=gN λWm=>nT a W.ac.length Wm dO.1 dO.2 C C;rw[e2]at c9;obtain⟨W0,bs⟩:=gG (({W with jl:=W.jl+1}:Wd):Wd);have h0:kM w cP g W0 V:=by rw[<-bs];exact h.uS (Nat.le_succ _)
 have be:Wk W0:=by rw[<-bs];exact hW.uS
 have ar:W.call kind a b=if A.up then(if A.X.a.length=8 then W0.jx else((W0.jx).mu kind b i A).jx)else W:=by subst bs;unfold Wd.call;rw[hi,hA]
 have q0:W0.a=W.a/\W0.jl=W.jl+1/\W0.ac=W.ac/\W0.gF=W.gF:=by rw[<-bs];exact⟨rfl,rfl,rfl,rfl⟩
 have cV:=gN (uB h0 be C (by rw[q0.2.2.2];omega));have T:=be.jx (by rw[q0.1,q0.2.1];omega);have d0:A.up=true->W0.jx.uz i=A.X.a.length:=λhu=>Jh be (by rw[q0.2.2.1];exact hA) hu;have q1:W0.jx.ac=W.ac/\W0.jx.jl=W.jl+1/\W0.jx.gF.length=W.gF.length/\W0.jx.a=W.a+1:=by refine⟨q0.2.2.1,q0.2.1,?_,by show W0.a+1=_;rw[q0.1]⟩;show(W0.gF.map _).length=_;rw[ay,q0.2.2.2]
 obtain⟨W1,e3⟩:=gG W0.jx;rw[e3]at ar cV T d0 q1;obtain⟨d5,e4,e5,e6⟩:=q1;have cb:W1.ac[i]?=some A:=by rw[d5];exact hA
 have cl:Sw W1:=⟨C,C⟩;have cn:W1.nM i=A.X.e.length:=sP T cb;obtain⟨aa,ac,d6⟩:=h.D.row.D;obtain⟨ab,_,e7,a2,c5⟩:∃ab,aa=some ⟨ab,0,none⟩/\ab<w.heap.size/\w.cell? ⟨ab,i*3+2,none⟩=some (.bool A.up)/\w.cell? ⟨g,5,none⟩=some (gK (some ⟨ab,0,none⟩) W.ac.length ac):=by have hr:=h.D.row;rw[d6]at hr;obtain⟨ab,rfl,_,e7,bg,_⟩:=hr.cells cS;obtain⟨p,qb,bv,_⟩:=h.D.ac i A hA;exact⟨ab,rfl,e7,(bg (i*3+2) C).H bv.2.2,by rw[<-d6];exact h.cellAt 5 rfl⟩
 have lg:=h.lt;have au:=Yd T b;have d7:=LL T.n1.2 T.c1.2;have d8:=rj T.n1.2 T.m1.2;have d9:0<W1.n*W1.ce:=dQ T.n1.1 T.c1.1;have da:0<W1.n*W1.m:=dQ T.n1.1 T.m1.1;have e8:((W1.n*W1.ce:Nat):Int)=(W1.n:Int)*W1.ce:=bz;have e9:((W1.n*W1.m:Nat):Int)=(W1.n:Int)*W1.m:=bz;obtain⟨nc,cd⟩:=gG ((W1.n:Int)*W1.ce:Int);obtain⟨nu,ce⟩:=gG ((W1.n:Int)*W1.m:Int);rw[cd,ce]at au;rw[cd]at e8;rw[ce]at e9;have co:=uy T cb;obtain⟨up,cf⟩:=gG A.up;rw[cf]at a2;obtain⟨H,Hn,Hq⟩:=iI (And.intro h (And.intro T (And.intro cb (And.intro cl (And.intro cn (And.intro au (And.intro d0 (And.intro co cf)))))))) (And.intro cd ce) (And.intro d5 (And.intro e4 (And.intro e5 e6)));have b1:0<nc/\nc<=48:=C;have b2:0<nu/\nu<=9:=C;have b3:-2<=W1.a/\W1.a<=100000000000:=C;have b4:W1.gF.length<=9999998:=C;rw[ar,cf];clear h hW hA e2 hi T cb cl cn au d0 co cf cd ce d5 e4 e5 e6 ar h0 be e3 q0 bs d7 d8 d9 da e8 e9 d6 fl
 cases up with
 |false=>rw[az bz];go_enter func28,ntmps28;go_wp2_with(first|(go_at_call 15;refine gS (c9 _) λw' M=>?_;have M:=M.symm;subst M));go_ret;exact⟨rfl,cP,j4.refl,⟨_,H.1⟩⟩
 |true=>
 rw[aE rfl];generalize ea:(if A.X.a.length=8 then W1 else(W1.mu kind b i A).jx)=WR;have eb:=gN ea;clear ea;go_enter func28,ntmps28;go_upto_region 7 with(first|(go_at_call 15;refine gS (c9 _) λw' M=>?_;have M:=M.symm;subst M)|(go_at_call 53;refine cV.L ?_;rintro en w1⟨rfl,al,k1,h1⟩;obtain⟨ec,ee⟩:=gO k1 h1;clear k1 h1));obtain⟨V1,h1⟩:=ee.o;obtain⟨ca,cc,ef⟩:=h1.ca.row.D;obtain⟨gj,eg,cq⟩:=h1.D.row.D;obtain⟨pv,av,lv,cv,hv,mv,ps,aw,ls,cs,tp⟩:=V1;simp only at ef cq;subst ef cq;obtain⟨p,qb,bv,_⟩:=h1.D.ac i A H.2.2.1;have g6:i<W1.ac.length:=by rw[Hq.1];exact e0
 obtain⟨ei,rfl,_,g7,bg,_⟩:=h1.D.row.cells (by show 0<W1.ac.length;omega);have a1:=(bg (i*3+1) (by show i*3+1<W1.ac.length*3;omega)).H bv.2.1;obtain⟨fn,c8⟩:=h1.R 5 8 rfl;have gl:=h1.lt;have g8:(i:Int)<(W1.ac.length:Int):=C;obtain⟨nm,db⟩:=gG (W1.nM i);have ej:Hid (∀Wm,Bl w1 Wm->Calls prog 54 #[.pointer (some ⟨g,0,none⟩),.int .i64 i] Wm λen w'=>en=.returned (.int .i64 nm)/\w'=Wm):=λWm hb=>by have:=D5 (h1.bl (fz:=al) hb λ_ _=>rfl) i C;rwa[db]at this
 obtain⟨ek,cg⟩:=gO db (And.intro h1 bv);clear h1 bv bg ee cV c9 a2 db c5;go_upto_region 8 with fail;go_cut[12]from 12 to 162 λy wx=>∃Y,y=.pointer (some ⟨Y,0,none⟩)/\Hid (Bl w1 wx/\w1.heap.size<=Y/\wx.heap[Y]?=some (.cells #[.int .i64 i,.int .i64 nm,.int .i64 kind,.int .i64 0,.string {data:=#[]},gK none 0 0,.int .i64 W1.a,.int .i64 0,.int .i64 0,.int .i64 0,gK none 0 0] 60 (0,0)))
 case first=>
  go_region_with(go_at_call 54;refine(ej _ ?hb).L ?_;(case hb=>exact nH);rintro en w2⟨rfl,rfl⟩);all_goals(go_wp2_with fail;go_meet)
  all_goals(refine⟨_,rfl,?_,Nat.le_refl _,ao _ _⟩;(first|exact((Bl.refl w1).alloc _).drew|exact((Bl.refl w1).drew).alloc _|exact(Bl.refl w1).alloc _))
 obtain⟨Y,rfl,HG⟩:=hcut;have bc:=HG.1;have dc:Y<wc.heap.size:=(ae.1 HG.2.2).1;have dd:=cg.1.bl (fz:=ir al w1.heap.size 9) bc λb hb=>gV _ _ _ _ hb;have a7:ir al w1.heap.size 9 Y=9:=jc _ _ _ _ HG.2.1;have bw:Hid (j4 Pc w cP wc (ir al w1.heap.size 9)):=(ec.L λt e=>.inl (by unfold T8 at e;unfold Pg;omega)).H (j4.A bc λb hb=>gV _ _ _ _ hb);obtain⟨am,an⟩:=gO HG.2.2 dd;have gm:=dd.lt;obtain⟨j,bx⟩:=gG (ir al w1.heap.size 9);rw[bx]at an bw a7;obtain⟨pos,a4⟩:=gG (W1.lO kind b);obtain⟨val,a5⟩:=gG (W1.mF kind);clear dd bc HG ej a1 fn c8 bx ec;go_upto_block 0 with fail;go_cut[13,14]from 13 to 162 λx y wx=>∃rn er X2 ag,x=.int .i64 rn/\y=.int .i64 er/\Hid (Dn A.X kind pos val rn er X2)/\Hid (j4 Pc w cP wx ag)/\Hid (kM wx ag g {W1 with ac:=W1.ac.modify i λB=>{B with X:=X2}} ⟨pv,gK (some ⟨ei,0,none⟩) W1.ac.length eg,lv,gK ca W1.gF.length cc,hv,mv,ps,aw,ls,cs,tp⟩)/\Hid (ag Y=9/\wx.heap[Y]?=some (.cells #[.int .i64 i,.int .i64 nm,.int .i64 kind,.int .i64 pos,.string (js val),gK none 0 0,.int .i64 W1.a,.int .i64 0,.int .i64 0,.int .i64 0,gK none 0 0] 60 (0,0)))
 case first=>
  have ch:Hid (∀Wm,Bl wc Wm->Calls prog 27 #[.pointer (some ⟨g,0,none⟩)] Wm λen w'=>en=.returned (.int .i64 nc)/\Bl Wm w'):=λWm hb=>by have:=xN (an.bl (fz:=j) hb λ_ _=>rfl) H.2.1;rwa[Hn.1]at this
  obtain rfl|rfl|rfl:=hk
  .
   have aY:pos=0:=by rw[<-a4];simp[Wd.lO]
   have bo:kP W1.gF.length=val:=by rw[<-a5];simp[Wd.mF]
   obtain⟨bA,cr⟩:=vL W1.gF.length;have dg:=gN λWm=>Dd Wm W1.gF.length;rw[bo]at dg bA cr;have c7:=an.cellAt 7 rfl;subst aY;clear a5 bo a4;go_upto_region 16 with(go_at_call 40;refine gS (dg _) λw3 ba=>?_;have a8:=(ba.heap dc).H am;have z3:w3.cell? ⟨Y,4,none⟩=some (.string {data:=#[]}):=(ax w3 Y 4 _ 60 (0,0) a8);have bB:=aP w3 Y 4 _ 60 a8;have el:Y<w3.heap.size:=(ae.1 a8).1;obtain⟨bb,bC⟩:=gO ba a8;clear ba a8);have bD:=an.bl (fz:=j) bb λ_ _=>rfl;obtain⟨W4,bE,bR,a9,a3⟩:∃W4,w3.setCell ⟨Y,4,none⟩ (.string (js val))=W4/\j4 (λs=>s=9) w3 j W4 j/\kM W4 j g W1 _/\W4.heap[Y]?=some (.cells #[.int .i64 i,.int .i64 nm,.int .i64 1,.int .i64 0,.string (js val),gK none 0 0,.int .i64 W1.a,.int .i64 0,.int .i64 0,.int .i64 0,gK none 0 0] 60 (0,0)):=⟨_,rfl,mo a7 _ _,bD.A (mo a7 _ _) λt e=>by unfold Tv;omega,fy w3 Y 4 _ 60 (.string (js val)) bC⟩;rw[bE];have bp:=gN ((j4.A (P:=λs=>s=9) (fz:=j) bb λ_ _=>rfl).H bR);have z4:=ax W4 Y 4 _ 60 (0,0) a3;have bi:Y<W4.heap.size:=(ae.1 a3).1;have kc:=run_bytes_of_string (P:=prog) W4 9 40 5 (js val) underlying9 underlying40 underlying5;rw[zC,bA]at kc;have bl:=Jf W4.drew val cr (grownCap W4 5 0 5) ((bytesRow (js val) (grownCap W4 5 0 5)).size,(bytesRow (js val) (grownCap W4 5 0 5)).size+1) (by rw[bA];exact grownCap_ge _ _ _ _) (grownCap_le_maxLen _ _ _ _ bT);rw[bA]at bl;have b5:Bl W4 (W4.drew.alloc (.cells (bytesRow (js val) (grownCap W4 5 0 5)) 5 ((bytesRow (js val) (grownCap W4 5 0 5)).size,(bytesRow (js val) (grownCap W4 5 0 5)).size+1))):=((Bl.refl W4).drew).alloc _;obtain⟨W5,em⟩:=gG (W4.drew.alloc (.cells (bytesRow (js val) (grownCap W4 5 0 5)) 5 ((bytesRow (js val) (grownCap W4 5 0 5)).size,(bytesRow (js val) (grownCap W4 5 0 5)).size+1)));rw[em]at kc bl b5;have dj:=a9.bl (fz:=ir j W4.heap.size 9) b5 λb hb=>gV _ _ _ _ hb;have ep:=(b5.heap bi).H a3;have eq:ir j W4.heap.size 9 Y=9:=(gV _ _ _ _ bi).H a7;have fu:=gN (bp.H (j4.A (P:=λs=>s=9) (fz:=ir j W4.heap.size 9) b5 λb hb=>gV _ _ _ _ hb));generalize grownCap W4 5 0 5=gc at*;obtain⟨p',es,a0,a6⟩:=dj.D.ac i A H.2.2.1;have bV:p'=p:=by have e1:=a0.2.1.symm.H cg.2.2.1;simpa using e1
   subst bV;obtain⟨rn,er,X2,hD,ad⟩:=Qd H.2.1 H.2.2.2.1 H.2.2.1 0 (some ⟨W4.heap.size,0,none⟩) gc val bA bl (λb hb=>by
    have e:W4.heap.size=b:=by simpa [Value.ownBlock]using hb
    rw[<-e,jc _ _ _ _ (Nat.le_refl _)]
    unfold Mc;omega) a6
   obtain⟨ap,bW,bX,HD⟩:=kN (And.intro dj a0) ep ad hD;clear bD a9 a3 bE bb bC bB ch dg ad hD a0 a6 bR dj ep b5 bl em;go_wp2_with(go_at_call 18;refine bX.L ?_;rintro en w5⟨rfl,ct,eu,k5,aq⟩;have HS:=nI k5 aq;clear k5 aq);go_meet;exact Bb bw fu ap.1 ap.2 H.2.2.1 eq bW HS.1 HS.2 HD
  .
   have aY:pk b nc=pos:=by rw[<-a4];exact H.2.2.2.2.2.1.1
   have bo:[]=val:=by rw[<-a5];simp[Wd.mF]
   subst bo;have bd:=gN λWm=>nT b nc Wm c6.1 c6.2 C C;rw[aY]at bd;clear a5 aY;go_upto_region 19 with(first|(go_at_call 27;refine gS (ch _ (Bl.refl _)) λw3 ba=>?_;have a8:=(ba.heap dc).H am;have z3:w3.cell? ⟨Y,3,none⟩=some (.int .i64 0):=(ax w3 Y 3 _ 60 (0,0) a8);have bB:=aP w3 Y 3 _ 60 a8;have el:Y<w3.heap.size:=(ae.1 a8).1;obtain⟨bb,bC⟩:=gO ba a8;clear ba a8)|(go_at_call 15;refine gS (bd _) λw' M=>?_;have M:=M.symm;subst M));have bD:=an.bl (fz:=j) bb λ_ _=>rfl;obtain⟨W4,bE,bR,a9,a3⟩:∃W4,w3.setCell ⟨Y,3,none⟩ (.int .i64 pos)=W4/\j4 (λs=>s=9) w3 j W4 j/\kM W4 j g W1 _/\W4.heap[Y]?=some (.cells #[.int .i64 i,.int .i64 nm,.int .i64 2,.int .i64 pos,.string {data:=#[]},gK none 0 0,.int .i64 W1.a,.int .i64 0,.int .i64 0,.int .i64 0,gK none 0 0] 60 (0,0)):=⟨_,rfl,mo a7 _ _,bD.A (mo a7 _ _) λt e=>by unfold Tv;omega,fy w3 Y 3 _ 60 (.int .i64 pos) bC⟩;rw[bE];have bp:=gN ((j4.A (P:=λs=>s=9) (fz:=j) bb λ_ _=>rfl).H bR);have z4:=ax W4 Y 3 _ 60 (0,0) a3;have bi:Y<W4.heap.size:=(ae.1 a3).1;obtain⟨p',es,a0,a6⟩:=a9.D.ac i A H.2.2.1;have bV:p'=p:=by have e1:=a0.2.1.symm.H cg.2.2.1;simpa using e1
   subst bV;obtain⟨rn,er,X2,hD,ad⟩:=KK H.2.1 H.2.2.2.1 H.2.2.1 2 b 19 C a6;rw[a4]at hD ad;obtain⟨ap,bW,bX,HD⟩:=kN (And.intro a9 a0) a3 ad hD;clear bD a9 a3 bE bb bC bB ch bd ad hD a0 a6 bR;go_wp2_with(go_at_call 19;refine bX.L ?_;rintro en w5⟨rfl,ct,eu,k5,aq⟩;have HS:=nI k5 aq;clear k5 aq);go_meet;exact Bb bw bp ap.1 ap.2 H.2.2.1 a7 bW HS.1 HS.2 HD
  --kind 5
  obtain⟨wz,dl⟩:∃wz,wz=wc:=⟨_,rfl⟩;subst dl;have aY:pk b nu=pos:=by rw[<-a4];exact H.2.2.2.2.2.1.2
  have bo:[]=val:=by rw[<-a5];simp[Wd.mF]
  subst bo;have bd:=gN λWm=>nT b nu Wm c6.1 c6.2 C C;rw[aY]at bd;obtain⟨c0,c1⟩:=an.R 0 1 rfl;have z3:wz.cell? ⟨Y,3,none⟩=some (.int .i64 0):=ax wz Y 3 _ 60 (0,0) am;have bB:=aP wz Y 3 _ 60 am;have gn:IntKind.i64.wrap ((W1.n:Int)*W1.m)=nu:=by rw[Hn.2,IntKind.wrap_i64];omega
  clear a5 aY;go_upto_region 12 with fail;go_cut[]from 53 to 162 λwy=>Hid (j4 (λs=>s=9) wz j wy j/\wy.heap[Y]?=some (.cells #[.int .i64 i,.int .i64 nm,.int .i64 5,.int .i64 pos,.string {data:=#[]},gK none 0 0,.int .i64 W1.a,.int .i64 0,.int .i64 0,.int .i64 0,gK none 0 0] 60 (0,0)))
  case first=>
   go_region_with(go_at_call 15;refine gS (bd _) λw' M=>?_;have M:=M.symm;subst M);all_goals(go_wp2_with fail;go_meet)
   all_goals(first|exact⟨((j4.A (P:=λs=>s=9) (fz:=j) ((Bl.refl wz).drew) λ_ _=>rfl).H (mo a7 _ _)),fy wz.drew Y 3 _ 60 (.int .i64 pos) am⟩|exact⟨(mo a7 _ _),fy wz Y 3 _ 60 (.int .i64 pos) am⟩|exact⟨((mo a7 _ _).H (j4.A (P:=λs=>s=9) (fz:=j) ((Bl.refl _).drew) λ_ _=>rfl)),fy wz Y 3 _ 60 (.int .i64 pos) am⟩)
  have bp:Hid (j4 (λs=>s=9) wz j wc j):=hcut.1;have a3:=hcut.2;have a9:=an.A bp (λt e=>by unfold Tv;omega);have z4:=ax wc Y 3 _ 60 (0,0) a3;have bi:Y<wc.heap.size:=(ae.1 a3).1;obtain⟨p',es,a0,a6⟩:=a9.D.ac i A H.2.2.1;have bV:p'=p:=by have e1:=a0.2.1.symm.H cg.2.2.1;simpa using e1
  subst bV;obtain⟨rn,er,X2,hD,ad⟩:=KK H.2.1 H.2.2.2.1 H.2.2.1 5 b 22 C a6;rw[a4]at hD ad;obtain⟨ap,bW,bX,HD⟩:=kN (And.intro a9 a0) a3 ad hD;clear a9 a3 bB z3 ch bd ad hD a0 a6 c0 c1 hcut;go_wp2_with(go_at_call 22;refine bX.L ?_;rintro en w5⟨rfl,ct,eu,k5,aq⟩;have HS:=nI k5 aq;clear k5 aq);go_meet;exact Bb bw bp ap.1 ap.2 H.2.2.1 a7 bW HS.1 HS.2 HD
 obtain⟨rn,er,X2,ag,rfl,rfl,HD,ev,ai,dn⟩:=hcut;obtain⟨wz,dl⟩:∃wz,wz=wc:=⟨_,rfl⟩;subst dl;have ds:({W1 with ac:=W1.ac.modify i λB=>{B with X:=X2}}:Wd).uz i=A.X.a.length:=H.2.2.2.2.2.2.1 H.2.2.2.2.2.2.2.2;have bq:=gN (Fa ai i (by show W1.gF.length<=_;omega));rw[ds]at bq;obtain⟨d1,d2,d3,d4⟩|⟨d1,d2,d3,d4⟩:=HD.o
 .subst d2 d3 d4;have hR:Hid (W1=WR):=by unfold Hid;rw[<-eb.o,aE d1]
  rw[d1]at bq;clear ds HD;go_wp2_with(go_at_call 55;refine gS bq λw' M=>?_;have M:=M.symm;subst M);go_ret;have hx:=ai.o;rw[MQ H.2.2.1]at hx;rw[<-hR.o];exact⟨rfl,ag,ev,⟨_,hx⟩⟩
 have hR:Hid ((W1.mu kind b i A).jx=WR):=by unfold Hid;rw[<-eb.o,az C]
 obtain⟨fv,cx⟩:=gG A.X.a.length;rw[cx]at bq d1;have go:¬((8:Int)<=(fv:Int)):=C;have ew:Hid ((⟨i,W1.nM i,kind,W1.lO kind b,W1.mF kind,[],W1.a,0,Rz.zero⟩:Kl)=⟨i,nm,kind,pos,val,[],W1.a,0,Rz.zero⟩):=by unfold Hid;rw[ek.o,a4,a5]
 have fw:rn=(nm:Int):=by rw[d2,<-ek.o,H.2.2.2.2.1]
 subst fw d3;obtain⟨c,hc⟩:=gG ((⟨i,nm,kind,pos,val,[],W1.a,0,Rz.zero⟩:Kl):Kl);have ci:Hid (Wk (W1.mu kind b i A)/\W1.mu kind b i A={W1 with jl:=W1.jl+1,ac:=W1.ac.modify i λB=>{B with X:=X2},gF:=W1.gF++[c]}):=by refine⟨H.2.2.2.2.2.2.2.1 C kind b C,?_⟩;unfold Wd.mu Wd.pN;rw[ew.o,a4,a5,hc,d4]
 have c2:=dn.o;have ex:=ai.lt;have c7:=ai.cellAt 7 rfl;have f7:=ai.N 7;have g9:Y<wz.heap.size:=(ae.1 c2.2).1;obtain⟨b0,ez,f0,f1⟩:=pD c2.2 0 1 2 3 rfl;obtain⟨f2,b5,b6,b7⟩:=pD c2.2 4 5 6 7 rfl;obtain⟨b8,b9,f3⟩:=sy c2.2 8 9 10 rfl;simp at b0 ez f0 f1 f2 b5 b6 b7 b8 b9 f3;have bm:=ai.ca.row;simp only at bm;have f4:Hid ((gK ca W1.gF.length cc).ownBlock≠some g):=gW bm.ij ai.hg bT;have f5:=gN bm;have g0:Hid (W1.gF.length+1<=maxLen):=nZ;have g1:Hid ((W1.gF.length+1)*128<=140737488355328):=nC;have Hc:=gN hc;clear ds HD c2 bm hc d2 d4 cx ew dc am a7 bw an;go_upto_region 28 with(go_at_call 55;refine gS bq λw' M=>?_;have M:=M.symm;subst M);go_cut[]from 53 to 162 λwy=>∃c3 Vy,Hid (j4 (λt=>t=1\/t=4) wz ag wy c3)/\Hid (kM wy c3 g {W1 with ac:=W1.ac.modify i λB=>{B with X:=X2},gF:=W1.gF++[c]} Vy)
 case first=>
  go_region_law
   ((refine step_append_lies _ ko _ _ _ ko 0 60 ff _ 11 128 underlying64 fi r0 r1 r2 rfl C _ W1.gF.length cs ko ((f5.ij.alloc _).drew) ⟨wz.heap.size,0,none⟩ 1 1 [.int .i64 i,.int .i64 nm,.int .i64 kind,.int .i64 pos,.string (js val),gK none 0 0,.int .i64 W1.a,.int .i64 0,.int .i64 0,.int .i64 0,gK none 0 0] ko ko (fW (cs:=#[.int .i64 i,.int .i64 nm,.int .i64 kind,.int .i64 pos,.string (js val),gK none 0 0,.int .i64 W1.a,.int .i64 0,.int .i64 0,.int .i64 0,gK none 0 0]) (t:=60) (fr:=(0,0)) (ao wz _)) (by simp[Value.oneCell']) C g0 g1 bz (wz.heap.size+1) bz ?_;intro gg cp w6 ak Z bn c4;have kc:=(C4 (((Bl.refl wz).alloc _).drew) Z (o:=7) ex f4).1.H c7;have kf:=(C4 (((Bl.refl wz).alloc _).drew) Z (o:=7) ex f4).2.H f7;have gq:g<w6.heap.size:=(by have:=Z.size;simp at this;omega);have g2:=oH ak Z bn c4;clear ak Z bn c4))
  all_goals(go_wp2_with fail;go_meet)
  all_goals
   obtain⟨ak,Z,bn,c4⟩:=g2.o;have dt:Cu c=[.int .i64 i,.int .i64 nm,.int .i64 kind,.int .i64 pos,.string (js val),gK none 0 0,.int .i64 W1.a,.int .i64 0,.int .i64 0,.int .i64 0,gK none 0 0]:=by rw[<-Hc.o];rfl
   obtain⟨f6,p1,p2⟩:=kM.RR (V:=⟨pv,gK (some ⟨ei,0,none⟩) W1.ac.length eg,lv,gK ca W1.gF.length cc,hv,mv,ps,aw,ls,cs,tp⟩) ai (((Bl.refl wz).alloc (.cells #[.int .i64 i,.int .i64 nm,.int .i64 kind,.int .i64 pos,.string (js val),gK none 0 0,.int .i64 W1.a,.int .i64 0,.int .i64 0,.int .i64 0,gK none 0 0] 60)).drew) (c:=c) (by rw[<-Hc.o]) (by rw[<-Hc.o];rfl) (gg:=gg) (cp:=cp) (by rw[dt];exact ak) Z (bn.imp (λe=>e) λe=>C);exact⟨f6,_,p1,p2⟩
 case rest=>obtain⟨c3,Vy,dv,f8⟩:=hcut;have dw:=dv.heap dn.2 dn.1 C;have y1:=ax wc Y 1 _ 60 (0,0) dw.1;simp at y1;have ga:Y<wc.heap.size:=(ae.1 dw.1).1;have ck:=f8.uS (a:=W1.jl+1) (Nat.le_succ _);simp only at ck;rw[<-ci.2]at ck;have f9:=gN (uB ck ci.1 (by rw[ci.2];show W1.jl+1<=_;have:=Hq.2.1;omega) (by rw[ci.2];show(W1.gF++[c]).length<=_;simp;omega));rw[hR.o]at f9;have g3:=gN (ev.H (dv.L (Q:=Pc) λt e=>.inl (by unfold Pg;omega)));clear dw dv f5 bq b0 ez f0 f1 f2 b5 b6 b7 b8 b9 f3 c7 f7 ck ai f8;go_wp2_with(go_at_call 53;refine f9.L ?_;rintro en w9⟨rfl,fd,k9,h9⟩;obtain⟨g4,g5⟩:=gO k9 h9;clear k9 h9);go_ret;exact⟨rfl,fd,g3.H (g4.L λt e=>.inl (by unfold T8 at e;unfold Pg;omega)),g5⟩
def Wd.r9(W:Wd):Wd:={W with jl:=W.jl+1}
def sR(W:Wd)(kind a b):W.call kind a b=W\/(∃A,W.ac[ju a W.ac.length]?=some A/\A.up=true/\W.call kind a b=W.r9.jx)\/∃A,W.ac[ju a W.ac.length]?=some A/\A.up=true/\A.X.a.length≠8/\W.call kind a b=(W.r9.jx.mu kind b (ju a W.ac.length) A).jx:=by
 unfold Wd.call;split
 .exact .inl rfl
 rename_i A h;split
 .rename_i j;split
  .exact .inr (.inl ⟨A,h,j,rfl⟩)
  rename_i y;exact .inr (.inr ⟨A,h,j,y,rfl⟩)
 exact .inl rfl
def xj(h:Wk W)(kind a b:Int)(Q:kind=1\/kind=2\/kind=5):Wk (W.call kind a b)/\(W.call kind a b).jl<=W.jl+2/\(W.call kind a b).gF.length<=W.gF.length+1/\(W.call kind a b).iP=W.iP/\(W.call kind a b).ac.length=W.ac.length/\(W.call kind a b).iN=W.iN/\(W.call kind a b).pl=W.pl:=by
 have hn:=h.nw;have j:Wk W.r9.jx:=Wk.jx (W:=W.r9) h.uS (by show W.a+1<=4*((W.jl+1:Nat):Int);omega);have T:W.r9.jx.gF.length=W.gF.length:=by show(W.gF.map _).length=_;rw[ay]
 obtain e|⟨A,L,Y,e⟩|⟨A,L,Y,h8,e⟩:=sR W kind a b
 .rw[e];exact⟨h,C,C,rfl,rfl,rfl,rfl⟩
 .rw[e];exact⟨j,by show W.jl+1<=_;omega,C,rfl,rfl,rfl,rfl⟩
 have M:W.r9.jx.ac[ju a W.ac.length]?=some A:=L;have h9:=(j.ac _ A M).x.pl;have Z:=uy j M C kind b Q;have y:(W.r9.jx.mu kind b (ju a W.ac.length) A).gF.length=W.r9.jx.gF.length+1:=by show(W.r9.jx.gF++[_]).length=_;rw[aO];rfl
 have H:=Z.jx (by show W.a+1+1<=4*((W.jl+1+1:Nat):Int);omega);rw[e];refine⟨H,by show W.jl+1+1<=_;omega,?_,rfl,cy ..,rfl,rfl⟩;show((W.r9.jx.mu kind b (ju a W.ac.length) A).gF.map _).length<=_;rw[ay,y,T];exact jr
def Wk.ks(h:Wk W):Wk W.ks:=by
 unfold Wd.ks;split
 .exact h
 rename_i h8;have j:=h.uS;have h0:=Y3 W W.ac.length;have Q:∀c∈W.gF,c.a<W.ac.length:=λc L=>by obtain⟨B,b1,_⟩:=(h.ca c L).ac;exact(aj.1 b1).1
 refine⟨j.n1,j.m1,j.v1,j.v2,j.c1,j.pl,j.pk,by show(W.ac++[_]).length<=8;rw[aO];show W.ac.length+1<=8;omega,λk A Y=>?_,j.po,j.a,j.nw,j.cl,λc L=>?_,j.hd,j.ms⟩
 .have y:(W.ac++[⟨Cx.new W.n W.m W.v W.ce (ja W.ac.length),true⟩])[k]?=some A:=Y;by_cases H:k<W.ac.length
  .rw[aB H]at y;exact⟨(j.ac k A y).x,(j.ac k A y).nm⟩
  have T:=(aj.1 y).1;rw[aO]at T;have M:k=W.ac.length:=by have:k<W.ac.length+1:=T;omega
  subst M;rw[aC jr,dR]at y;obtain rfl:(⟨Cx.new W.n W.m W.v W.ce (ja W.ac.length),true⟩:Ac)=A:=je y;refine⟨Xk.new h.n1 h.m1 h.v1 h.v2 h.c1 ?_ ?_ ⟨rfl,⟨rfl,rfl⟩,rfl,rfl,rfl⟩,?_⟩
  .unfold ja;omega
  .exact⟨by show(0:Int)<=((W.jl+1:Nat):Int);omega,by show(0:Int)<=200*((W.jl+1:Nat):Int);omega,by show(0:Int)<=20*((W.jl+1:Nat):Int);omega,by show(0:Int)<=(W.gF.length:Int);omega⟩
  show(W.gF.filter λc=>c.a==W.ac.length).map (·.b)=List.range 0;rw[List.filter_eq_nil_iff.2 λc L=>by have:=Q c L;simp;omega];rfl
 have H:=j.ca c L;obtain⟨B,b1,Z⟩:=H.ac;exact⟨⟨B,by show(W.ac++[_])[c.a]?=_;rw[aB (Q c L)];exact b1,Z⟩,H.kd,H.po,H.vl,H.tk,H.bg,H.fi,H.r,H.fw⟩
def Tryz.U3:(prog.info? 129).map (λi=>(i.zero,i.size,i.bytes))=some (some (.agg #[I 0,.pointer none,.bool false]),3,24):=iu
def kM.WL{ac:Nat}(h:kM w cP g W {V with av:=gK aa W.ac.length ac})(h8:W.ac.length<8)(hC:Cl w cP (100+32*W.ac.length) p qb X)(Y:Bl w W1){gg cp:Nat}(T:w5.ownsRow 0 129 3 (gK (G gg) (W.ac.length+1) cp) (W.ac.length+1) (V.aw++[I (ja W.ac.length),O p,.bool true]))(M:W1.grownBy w5 (gK aa W.ac.length ac).ownBlock)(a3:(gK aa W.ac.length ac).ownBlock=some gg\/w.heap.size<=gg):∃tag2,j4 (λs=>s=1\/s=3) w cP (w5.setCell (U g 5) (gK (G gg) (W.ac.length+1) cp)) tag2/\kM (w5.setCell (U g 5) (gK (G gg) (W.ac.length+1) cp)) tag2 g {W with ac:=W.ac++[⟨X,true⟩]} {V with av:=gK (G gg) (W.ac.length+1) cp,aw:=V.aw++[I (ja W.ac.length),O p,.bool true]}:=by
 have lw:=h.lt;have l2:=Y.lt;have l3:=M.size;have n1:=h.a;have n2:=h.an;have n3:V.tp=8\/V.tp=97:=h.ht;have tl:∀b,(gK aa W.ac.length ac).ownBlock=some b->cP b=3:=h.D.row.cP;have ll:=λb Z=>(h.D.row.ij.lt b Z).2;obtain⟨tag2,a1⟩:∃tag2:Nat->Nat,tag2=λb=>if b<w.heap.size then cP b else if b=gg then 3 else 9:=⟨_,rfl⟩
 have Q:∀b,b<w.heap.size->tag2 b=cP b:=λb Z=>by rw[a1];simp[Z]
 have a4:tag2 gg=3:=by
  obtain e|e:=a3
  .rw[Q gg (ll gg e)];exact tl gg e
  rw[a1];dsimp only;rw[az C,aE rfl]
 have oQ:gI (λb=>cP b=1\/cP b=3) w (w5.setCell (U g 5) (gK (G gg) (W.ac.length+1) cp)):=((gI.D Y).H ((gI.A M).L λb _ e=>.inr (tl b e.symm))).setCell (U g 5) (.inl (.inl h.tg)) _;have k:j4 (λs=>s=1\/s=3) w cP (w5.setCell (U g 5) (gK (G gg) (W.ac.length+1) cp)) tag2:=⟨oQ,Q⟩;have a2:w5.heap[g]?=some (ig (Fb W {V with av:=gK aa W.ac.length ac}).toArray 66 (0,0)):=by rw[M.block g C λe=>by have:=tl g e.symm;rw[h.tg]at this;omega,Y.heap lw];exact h.hg
 have a0:V.aw.length=W.ac.length*3:=h.D.row.ij.1;refine⟨tag2,k,jO 5 _ w5 _ a2,(Q g lw).H h.tg,h.b.A k C λi _ _=>C,⟨⟨?_,λb Z=>?_⟩,λj B hB=>?_⟩,h.ca.A k C C λi _=>C,h.po.A k (show¬(V.tp=1\/V.tp=3) by omega) C,h.ha.A k C,h.ms.A k C,n1,ik,n3⟩
 .simp only[aO,df,dA];exact mW T λb Z=>Z8 _ _ _ _ λe=>gW T a2 bT (kz Z e)
 .have e:gg=b:=by simpa [Value.ownBlock]using Z
  rw[<-e];exact a4
 by_cases hj:j<W.ac.length
 .rw[aB hj]at hB;obtain⟨p',a5,e1,e2⟩:=h.D.ac j B hB;have y:=λo (ho:o<3)=>aB (l₁:=V.aw) (l₂:=[I (ja W.ac.length),O p,.bool true]) (show j*3+o<V.aw.length by omega);exact⟨p',a5,⟨(y 0 C).H e1.1,(y 1 C).H e1.2.1,(y 2 C).H e1.2.2⟩,e2.A k λs _ _=>C⟩
 have a6:=(aj.1 hB).1;simp at a6;have a7:j=W.ac.length:=C;subst a7;rw[aC jr]at hB;simp at hB;subst hB;refine⟨p,qb,⟨?_,?_,?_⟩,hC.A k λs _ _=>C⟩
 .rw[aC C,a0];simp
 .rw[aC C,a0];simp
 rw[aC C,a0];simp
theorem Ai(h:kM w cP g W V)(hW:Wk W):iU 38 #[O g] w λen w'=>en=gU (.bool true)/\∃fz,j4 (λt=>t=1\/t=3) w cP w' fz/\Wx w' fz g W.ks:=by
 obtain⟨a3,a4,r0,r1,r2⟩:=fx Tryz.U3;obtain⟨aa,ac,a5⟩:=h.D.row.D;obtain⟨pv,av,lv,cv,hv,mv,ps,aw,ls,cs,tp⟩:=V;simp only at a5;subst a5;have c5:=h.cellAt 5 rfl;have lg:=h.lt;have am:=h.an;by_cases h8:8<=W.ac.length
 .have ab:(8:Int)<=(W.ac.length:Int):=C;have T:W.ks=W:=by unfold Wd.ks;rw[aE h8]
  rw[T];have H:=gN h;clear h hW T;go_enter func38,ntmps38;go_wp2;go_ret;exact⟨rfl,cP,j4.refl,⟨_,H⟩⟩
 have ab:¬((8:Int)<=(W.ac.length:Int)):=C;obtain⟨c0,c1,c2,c3⟩:=h.T 0 1 2 3 rfl;obtain⟨x,hx⟩:=gG (1000+7*(W.ac.length:Int):Int);have an:IntKind.i64.wrap (7*(W.ac.length:Int))=7*(W.ac.length:Int):=zI;have ap:IntKind.i64.wrap (1000+7*(W.ac.length:Int))=x:=zI;have HN:=gN (DF W.n W.m W.v W.ce x w hW.oE C C cP (100+32*W.ac.length));have T:W.ks={W with jl:=W.jl+1,ac:=W.ac++[⟨Cx.new W.n W.m W.v W.ce x,true⟩]}:=by unfold Wd.ks;rw[az h8,<-hx];rfl
 rw[T];have H:=gN h;have Hx:Hid (x=ja W.ac.length):=by unfold Hid ja;exact hx.symm
 clear h hW T hx;go_enter func38,ntmps38;go_upto_region 5 with(go_at_call 16;refine HN.L ?_;rintro en w1⟨p,rfl,aq,Y,a2,Z,a6,a0⟩;have a1:=nJ Y Z a0;clear Y Z a6 a0);obtain⟨Y,Z,a0⟩:=a1.o;have L:=H.bl (fz:=a2) Y Z;have ad:=L.cellAt 5 rfl;have ag:=L.N 5;have a7:=L.lt;have HR:=gN L.D.row;have ng:Hid ((gK aa W.ac.length ac).ownBlock≠some g):=gW L.D.row.ij L.hg bT;have ai:Hid (W.ac.length+1<=maxLen):=nZ;have ak:Hid ((W.ac.length+1)*24<=140737488355328):=nC;have al:=gN L;clear L Y Z a0 c0 c1 c2 c3 c5;go_upto_region 6 with(at_builtin;refine fm _ rfl _ _ 62 rfl 0 129 a3 _ 3 24 underlying62 a4 r0 r1 r2 rfl bT _ W.ac.length aw rfl (HR.ij.alloc _) (U w1.heap.size 0) 1 1 [I x,O p,.bool true] rfl rfl (fW (cs:=#[I x,O p,.bool true]) (t:=129) (fr:=(0,0)) (ao w1 _)) tx bT ai ak bz (w1.heap.size+1) bz ?_;intro gg cp w6 y j M Q;have ar:=(C4 ((Bl.refl w1).alloc _) j (o:=5) a7 ng).1.H ad;have au:=(C4 ((Bl.refl w1).alloc _) j (o:=5) a7 ng).2.H ag;have aY:g<w6.heap.size:=(by have:=j.size;simp at this;omega);have a8:=oH y j M Q;clear y j M Q);obtain⟨y,j,M,Q⟩:=a8.o;obtain⟨a9,k7,h7⟩:=kM.WL (V:=⟨pv,gK aa W.ac.length ac,lv,cv,hv,mv,ps,aw,ls,cs,tp⟩) al C (a1.2.2 λ_=>0) ((Bl.refl w1).alloc (ig #[I x,O p,.bool true] 129)) (gg:=gg) (cp:=cp) (j9 Hx.o y) j (M.imp (λe=>e) λe=>C);have h8:=h7.uS (a:=W.jl+1) rE;have HE:=nI ((j4.A (P:=λt=>t=1\/t=3) (fz:=a2) a1.1 a1.2.1).H k7) h8;clear y j M Q k7 h7 h8 a8;go_wp2;go_ret;exact⟨rfl,a9,HE.1,⟨_,HE.2⟩⟩
end Go.Proofs.YtbghhbpacijmmaaGreat
