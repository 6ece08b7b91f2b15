import Derived.Test.YtbghhbpacijmmaaGreatL12
open Go.Proofs.Tryz
namespace Go.Proofs.YtbghhbpacijmmaaGreat
set_option maxRecDepth 99999
set_option maxHeartbeats 0
set_option linter.defProp false
set_option linter.unusedVariables false
open Go.RowKit Go.Maps
variable {i n g t p ce iN m gi mk sz j k0:Nat} {S:Cf} {W W':Wd} {K K':Kn} {b:Bd} {F F':Nat->Nat->Fl} {w w':World} {X X':Cx} {c o' c':Kl} {xs cs ps aw ls:List Value} {a u q nr fr:Int} {ac ac':List Ac} {e:TypeId} {P:Pl} {l:Le} {v pv:Value} {qb gH:Nat->Nat} {r:Rq} {s s':VS} {h:List VS} {iQ:Int->Prop} {pl:List Pl} {D:Int->St} {zz:List (Int×Vo)} {gQ:Ct->Int->Prop} {rs:List Rc} {ns:List Int} {gK:List Kl} {iA:List Le}
section
variable{K2:Kn}{F:Nat->Fl}{J J':Jq}{G:Ct->Int->Prop}{P:Nat->Prop}{X2:Cx}{c:jz}
def qI.Yh{F:Fl}{id E:Int}(h:qI S K F J id E c){q:Qn An}(y:q.A=c.q.A)(A:q.nodes=c.q.nodes)(H:q.B=c.q.B):qI S K F J id E {c with q:=q}:=by
 refine⟨h.toCb.A rfl rfl rfl rfl rfl,λe e'=>h.g1 e (jJ A e'),λe e'=>h.o1 e (jJ A e'),λe=>by show q.nodes≠[];rw[A];exact h.tR e,λe=>by show q.nodes=[];rw[A];exact h.a5 e,λe=>by show q.A.kd=2\/q.A.kd=3\/q.A.kd=4;rw[y];exact h.qk (jJ A e),λe=>by show q.A.ep=E;rw[y];exact h.ep (jJ A e),λe e'=>?_,λe e'=>?_,λe e'=>?_⟩
 .have w:=h.q2 (jJ A e) (jJ y e');refine⟨w.kd,w.ok,by show q.A.pl=_;rw[y];exact w.pl,by show q.A.ct=_;rw[y];exact w.ct,?_,w.c0,w.c1,w.rt,w.p0⟩;obtain⟨u,l1,l2,L,w2,M,Q⟩:=w.jU;exact⟨u,l1,l2,L,w2,A.H M,Q⟩
 .have w:=h.q3 (jJ A e) (jJ y e');refine⟨w.kd,by show q.A.pl=_;rw[y];exact w.pl,A.H w.nd,?_⟩;show∀z∈q.B,_/\sN S K F z.1 q.A z.2;rw[H,y];exact w.an
 have w:=h.q4 (jJ A e) (jJ y e');refine⟨A.H w.nd,by show K.e q.A.pl;rw[y];exact w.b,?_,by show UD S K E _ q.A.pl;rw[y];exact w.D⟩;show∀z∈q.B,_/\sN S K F z.1 q.A z.2;rw[H,y];exact w.an
def XI.WM(h:XI S K F J P X)(f:Qn An->Qn An)(L:∀q,(f q).A=q.A/\(f q).nodes=q.nodes/\(f q).B=q.B)(T:Sc {X with a:=X.a.map λ(c:jz)=>{c with q:=f c.q}} X')(V:qh S K X'):XI S K F J P X':=by
 refine XI.sc (X:={X with a:=X.a.map λ(c:jz)=>{c with q:=f c.q}}) ⟨⟨h.b.n,h.b.m,h.b.v,h.b.c,h.b.e,h.b.l⟩,λd y Y=>?_,h.c,λd y=>?_,λd y Z M e=>?_,h.mv.A rfl rfl rfl rfl rfl rfl⟩ T V
 .obtain⟨c,H,rfl⟩:=aD.1 y;exact(h.d c H Y).Yh (L _).1 (L _).2.1 (L _).2.2
 .obtain⟨c,H,rfl⟩:=aD.1 y;exact h.f c H
 obtain⟨c,H,rfl⟩:=aD.1 y;obtain⟨c',Q,rfl⟩:=aD.1 M;rw[h.nd c H c' Q e]
def Cx.PV(X:Cx):Cx:={X with wl:=X.wb,e:=0,mv:=Mv.zero,a:=X.a.map λ(c:jz)=>{c with q:={c.q with qU:=true}}}
def Cx.Ri(X:Cx):Cx:=if X.PV.jA.length<X.PV.a.length then X.PV.jM else X.PV
def TY(X:Cx):X.nM=if X.Ri.jn then X.Ri.jH else X.Ri:=rfl
def Ql(h:XI S K F J (λ_=>True) X)(V:Kw S K):Dq S K F J G X X.nM:=by
 have hb:=h.b;have hl:=V.pos;rw[TY];unfold Cx.Ri;let⟨Y,y⟩:=gJ (X.PV:Cx);rw[y];have A:VX K Y:=by rw[<-y];exact⟨by show(0:Int)<=_;omega,hb.e,h.mv.pb,h.mv.bl,h.mv.b0,h.mv.id⟩
 have L:qh S K Y:=CU A (by rw[<-y];rfl);have iY:XI S K F J (λ_=>True) Y:=h.WM (λq=>{q with qU:=true}) (λq=>⟨rfl,rfl,rfl⟩) (by rw[<-y];exact⟨⟨⟨rfl,rfl⟩,rfl,rfl,rfl⟩,rfl,rfl,rfl,rfl⟩) L;have qY:Qg X Y:=by
  rw[<-y];refine⟨⟨iK,λd M _=>?_,λe=>absurd rfl e⟩,λhN=>hN.Py 4 iK (λd M hn=>?_) (λe=>.inl ⟨e,rfl⟩) (λe=>absurd rfl e) λe=>absurd rfl e⟩
  .obtain⟨c,Q,rfl⟩:=aD.1 M;exact .inl ⟨c,Q,rfl,rfl,rfl⟩
  obtain⟨c,Q,rfl⟩:=aD.1 M;exact .inl ⟨c,Q,hn,rfl⟩
 have mz:qh S K (if Y.jA.length<Y.a.length then Y.jM else Y)/\Sc Y (if Y.jA.length<Y.a.length then Y.jM else Y)/\Qg Y (if Y.jA.length<Y.a.length then Y.jM else Y):=by
  split
  .exact OR L A.e
  exact⟨L,Sc.refl _,Qg.refl _⟩
 let⟨Z,hZ⟩:=gJ (if Y.jA.length<Y.a.length then Y.jM else Y);rw[hZ]at mz|-;let⟨z1,T,z3⟩:=mz;have fin:∀X2,qh S K X2->Sc Z X2->Qg Z X2->Dq S K F J G X X2:=λX2 a1 a2 a3=>⟨K,Kx.refl V,yF.B rfl,iY.sc (T.H a2) a1,(qY.H z3).H a3⟩;split
 .let⟨s1,s2,s3⟩:=wi (S:=S) (X:=Z) (z1.a (by rw[T.e];exact A.e)) (by rw[T.s.2.1,<-y];exact hb.VN);exact fin _ s1 s2 s3
 exact fin _ z1 (Sc.refl _) (Qg.refl _)
def OD(h:XI S K F J (λ_=>True) X)(L:Kw S K):Dq S K F J G X X.mF:=by
 have y:=h.mv;refine⟨K,Kx.refl L,yF.B rfl,h.WM Qn.mF (λq=>⟨rfl,rfl,rfl⟩) ⟨⟨⟨rfl,rfl⟩,rfl,rfl,rfl⟩,rfl,rfl,rfl,rfl⟩ ⟨y.tl,y.e0,y.pb,y.sl,y.sc,y.ep,y.me,y.nc,y.hc,y.k,y.an,y.q5,y.q6,y.bg,y.bl,y.b0,y.id⟩,⟨iK,λd A _=>?_,λ_=>.inl ⟨rfl,rfl,rfl⟩⟩,λM=>M.Py 4 iK (λd A Q=>?_) (λe=>.inl ⟨e,rfl⟩) (λe=>.inl ⟨e,rfl⟩) λe=>.inl ⟨e,rfl⟩⟩
 .obtain⟨c,H,rfl⟩:=aD.1 A;exact .inl ⟨c,H,rfl,rfl,rfl⟩
 obtain⟨c,H,rfl⟩:=aD.1 A;exact .inl ⟨c,H,Q,rfl⟩
def XI.put(h:XI S K F J (λ_=>True) X){c1:jz}(V:c∈X.a)(y:c1.gU=c.gU):XI S K F J (λn=>n≠c.gU) (X.put c1):=by
 refine⟨⟨h.b.n,h.b.m,h.b.v,h.b.c,h.b.e,h.b.l⟩,λd A Z=>?_,h.c,λd A=>?_,λd A Y H e=>?_,h.mv.A rfl rfl rfl rfl rfl rfl⟩
 .obtain e|⟨L,_⟩:=jV A
  .simp_all
  exact h.d d L trivial
 .obtain e|⟨L,_⟩:=jV A
  .rw[e,y];exact h.f c V
  exact h.f d L
 obtain q|⟨L,e2⟩:=jV A
 .obtain T|⟨M,Q⟩:=jV H
  .rw[q,T]
  simp_all
 obtain T|⟨M,Q⟩:=jV H
 .simp_all
 exact h.nd d L Y M e
def XI.Wt{Q:Nat}(h:XI S K F J (λn=>n≠Q) X)(T:Kw S K)(hc:c∈X.a)(hn:c.gU=Q)(V:Cb S K (F c.gU) J X.id X.b c)(h5:c.kind≠5)(ho:c.kind=1->Ok S c.ij):Dq S K F J (λt a=>t=c.ie/\a=c.ij/\c.kind=1) X (X.dO c):=by
 let⟨K',Y,k2,Z,k4,k5,k6,k7,k8,k9,A,H,L⟩:=JP h.b T V h5 ho;obtain⟨y,x2⟩:=h.step T Y Z k4 hc L;refine⟨K',⟨Y,k2,λcl ca M=>Z cl ca λe=>M e.1,λj _ _ _=>λe b v x _=>jJ k4 x,k7,A,H,k8,k9⟩,λt a e x=>?_,⟨y.b,λd hd _=>y.d d hd ?_,y.c,y.f,y.nd,y.mv⟩,x2⟩
 .obtain x|⟨rfl,rfl,x|x⟩:=k6 t a e x
  .exact .inl ⟨e,x⟩
  .simp_all
  exact .inr (.inl ⟨c.gU,c.unit,by rw[<-x];exact V.st⟩)
 omega
theorem NL(h:XI S K F J (λ_=>True) X)(kw:Kw S K)(L:c∈X.a)(hw:Cx.ml c=true){t:Int}(hJ:J c.gU c.kind c.ie c.unit t)(hF:X.pD t=false->K.Fu c.ie):Dq S K F J (λt' a=>t'=c.ie/\a=t/\X.pD t=true) X (X.ld c.gU t):=by
 have A:=h.d c L trivial;unfold Cx.ml Qn.T at hw;simp at hw;let⟨M,hq⟩:=hw;have hf:X.a.find? (λd=>d.gU==c.gU)=some c:=by
  cases e:X.a.find? (λd=>d.gU==c.gU)with
  |none=>exact absurd (bU.1 e c L) gG
  |some d=>have h2:=cR e;simp at h2;rw[h.nd d (bu e) c L h2]
 have Y:∀a,Gu S K c.ie a:=λa=>by
  by_cases e:a=c.ij
  .rw[e];exact A.g1 M hq
  exact A.gu M a e
 unfold Cx.ld;rw[hf];dsimp only;split
 .rename_i y;have a0:Ok S t:=by unfold Cx.pD at y;simp only[bL,ZX]at y;rwa[h.b.n,h.b.c]at y
  have H:=A.toCb;have a1:Cb S K (F c.gU) J X.id X.b {c with ij:=t}:=⟨H.kd,H.oc,hJ,H.fl,H.ow,λ_ a _=>Y a,λe=>by
   have e':c.kind=2\/c.kind=3:=e
   rw[M]at e';exact absurd e' gF,λe=>by
   have e':c.kind=4:=e
   rw[M]at e';exact absurd e' gF⟩
  obtain⟨K',d1,d2,d3,d4⟩:=(h.put (c1:={c with ij:=t}) L rfl).Wt kw (DY L rfl) rfl a1 (by show c.kind≠5;rw[M];decide) λ_=>a0;have Z:∀d∈(X.put {c with ij:=t}).a,∃c∈X.a,c.gU=d.gU/\c.q.A=d.q.A/\c.q.nodes=d.q.nodes:=λd Q=>by
   obtain e|⟨e1,_⟩:=jV Q
   .exact⟨c,L,mf e,mf e,mf e⟩
   exact⟨d,e1,rfl,rfl,rfl⟩
  refine⟨K',d1,λt' a e x=>?_,d3,Qg.H (X':=X.put {c with ij:=t}) ⟨⟨iK,λd Q hn=>.inl (Z d Q),λ_=>.inl ⟨rfl,rfl,rfl⟩⟩,λhN=>hN.Py 4 iK (λd Q hn=>?_) (λe=>.inl ⟨e,rfl⟩) (λe=>.inl ⟨e,rfl⟩) λe=>.inl ⟨e,rfl⟩⟩ d4⟩
  .obtain x|x|x:=d2 t' a e x
   .exact .inl x
   .exact .inr (.inl x)
   exact .inr (.inr ⟨x.1,x.2.1,y⟩)
  let⟨c2,z1,z2,z3,z4⟩:=Z d Q;exact .inl ⟨c2,z1,jk z4 hn,mf z3⟩
 rename_i y;have T:X.pD t=false:=iU y;obtain⟨V,x2⟩:=h.step (c:=c) kw (kZ.refl ..) (λcl ca _=>uO.refl K cl ca) rfl L (.fin ⟨7,0,[]⟩ rfl ⟨c.kind,c.ie,c.unit,t,hJ,A.oc,.inl ⟨M,(A.ow (.inl M)).kd,.inr ⟨rfl,hF T,Y⟩⟩⟩ gF);exact⟨K,Kx.refl kw,yF.B rfl,⟨V.b,λd Q _=>V.d d Q (.inl trivial),V.c,V.f,V.nd,V.mv⟩,x2⟩
structure Rg(S:Cf)(K:Kn)(F:Nat->Fl)(X:Cx):Prop where
 f:F X.c.length=K.D
 p:∀t a e,K.P0 t a e->¬(t.cl=X.id/\t.ca=X.c.length)
def Rg.ie(h:Rg S K F X)(M:Kw S K)(Q:qh S K X){ie:Ct}(H:ie.kd≠0)(y:ie.cl=X.id)(A:ie.ca=X.c.length):NH S K (F X.c.length) X.b ie:=by have gP:=Q.id;refine⟨H,C,λa e x=>absurd ⟨y,A⟩ (h.p _ a e x),λt a e x T V=>absurd ⟨T.H y,V.H A⟩ (h.p _ a e x),λu a Y Z e=>?_⟩;rw[h.f]at e;obtain⟨e0,e1,l1,l2,L⟩:=(M.sd u Y).rt a Z (jk e H);rw[e]at L;exact h.p _ _ _ L.p ⟨y,A⟩
def XI.begin(h:XI S K F J (λ_=>True) X)(ja:∀d∈X.a,d.gU<X.c.length)(T:c.gU=X.c.length):XI S K F J (λn=>n≠X.c.length) (X.je c)/\(c.q.nodes=[]->Qg X (X.je c)):=by
 have y:∀d∈(X.je c).a,d=c\/(d∈X.a/\d.gU<X.c.length):=λd hd=>by
  obtain hd|hd:=aT.1 hd
  .exact .inr ⟨hd,ja d hd⟩
  simp at hd;exact .inl hd
 refine⟨⟨⟨h.b.n,h.b.m,h.b.v,h.b.c,h.b.e,h.b.l⟩,λd hd hP=>?_,λk r V Y=>?_,λd hd r V=>?_,λd hd Z M e=>?_,h.mv.A rfl rfl rfl rfl rfl rfl⟩,λhq=>⟨⟨iK,λd hd H=>?_,λ_=>.inl ⟨rfl,rfl,rfl⟩⟩,λhN=>hN.Py 4 iK (λd hd H=>?_) (λe=>.inl ⟨e,rfl⟩) (λe=>.inl ⟨e,rfl⟩) λe=>.inl ⟨e,rfl⟩⟩⟩
 .obtain e|⟨L,_⟩:=y d hd
  .rw[e,T]at hP;exact absurd rfl hP
  exact h.d d L trivial
 .have A:(X.c++[Rz.zero])[k]?=some r:=V;by_cases hk:k<X.c.length
  .rw[aB hk]at A;exact h.c k r A Y
  rw[aC C]at A;have:=aR A;simp at this;rw[this]at Y;exact absurd rfl Y
 .have A:(X.c++[Rz.zero])[d.gU]?=some r:=V;obtain e|⟨L,e2⟩:=y d hd
  .rw[e,T,aC jl]at A;simp at A;rw[<-A];rfl
  rw[aB e2]at A;exact h.f d L r A
 .obtain q|⟨L,e2⟩:=y d hd
  .obtain q'|⟨Q,a0⟩:=y Z M
   .rw[q,q']
   rw[q,T]at e;omega
  obtain q'|⟨Q,a0⟩:=y Z M
  .rw[q',T]at e;omega
  exact h.nd d L Z Q e
 .obtain q|⟨L,_⟩:=y d hd
  .rw[q]at H;exact absurd hq H
  exact .inl ⟨d,L,rfl,rfl,rfl⟩
 obtain q|⟨L,_⟩:=y d hd
 .rw[q]at H;exact absurd hq H
 exact .inl ⟨d,L,H,rfl⟩
def Rg.cb(h:Rg S K F X)(L:Kw S K)(M:qh S K X)(A:c.gU=X.c.length)(Q:c.kind=1\/c.kind=2\/c.kind=3\/c.kind=4\/c.kind=5)(y:c.ie.cl=X.id/\c.ie.ca=c.gU)(T:J c.gU c.kind c.ie c.unit c.ij)(V:c.kind=1\/c.kind=3->c.ie.kd≠0)(Y:c.kind=2\/c.kind=3->Ok S c.ij)(H:c.kind=4->K.e c.ij):Cb S K (F c.gU) J X.id X.b c:=by refine⟨Q,y,T,λu=>by rw[A,h.f];exact rb.refl ..,λe=>by rw[A];exact h.ie L M (V e) y.1 (jS y.2 A),λe a _=>.inl λZ x=>h.p _ _ _ x ⟨y.1,jS y.2 A⟩,Y,H⟩
def IV(h:XI S K F J (λ_=>True) X)(Q:Kw S K)(T:Rg S K F X)(Y:∀d∈X.a,d.gU<X.c.length){val:List Int}(Z:J X.c.length 1 ⟨8,X.id,X.c.length,val⟩ 0 0):Dq S K F J G X (X.append val):=by
 unfold Cx.append;dsimp only;let⟨c,M⟩:=gJ (({X.iP 1 with ie:={(X.iP 1).ie with kd:=8,val:=val}}:jz):jz);have y:Cb S K (F c.gU) J X.id X.b c:=by rw[<-M];exact T.cb Q h.mv rfl (.inl rfl) ⟨rfl,rfl⟩ Z (λ_=>by show(8:Int)≠0;decide) (λe=>absurd e (by show¬((1:Int)=2\/(1:Int)=3);decide)) λe=>absurd e (by show¬((1:Int)=4);decide)
 have H:c.kind=1/\c.q=Qn.zero/\c.gU=X.c.length:=by rw[<-M];exact⟨rfl,rfl,rfl⟩
 obtain⟨b1,b2⟩:=h.begin Y H.2.2;have A:c.q.nodes=[]:=by rw[H.2.1];rfl
 have L:qI S K (F c.gU) J X.id X.b c:=⟨y,λ_ _=>.inl λe0 x=>T.p _ _ _ x ⟨y.oc.1,by rw[y.oc.2,H.2.2]⟩,λ_ e=>absurd A e,λe=>pS H.1 e,λ_=>A,λe=>absurd A e,λe=>absurd A e,λe=>absurd A e,λe=>absurd A e,λe=>absurd A e⟩;refine⟨K,Kx.refl Q,yF.B rfl,?_,?_⟩
 .show XI S K F J (λ_=>True) _;rw[M];refine⟨b1.b,λd V _=>?_,b1.c,b1.f,b1.nd,b1.mv⟩;by_cases e:d.gU=X.c.length
  .have:d=c:=b1.nd d V c (qD X c) (e.H H.2.2.symm);rw[this];exact L
  exact b1.d d V e
 simp_all
def vG(h:XI S K F J (λ_=>True) X)(L:Kw S K)(M:∀d∈X.a,d.gU<X.c.length)(A:c.gU=X.c.length)(Q:c.q.nodes=[])(y:Cb S K (F c.gU) J X.id X.b c)(T:c.kind≠1)(V:c.kind≠5):Dq S K F J G0 X ((X.je c).dO c):=by
 obtain⟨b1,Y⟩:=h.begin M A;obtain⟨K',Z,d2,d3,d4⟩:=b1.Wt L (qD X c) A y V λe=>absurd e T;refine⟨K',Z,λt a e x=>?_,d3,(Y Q).H d4⟩;obtain x|x|x:=d2 t a e x
 .simp_all
 .simp_all
 omega
def QY(h:XI S K F J (λ_=>True) X)(y:Kw S K)(A:Rg S K F X)(H:∀d∈X.a,d.gU<X.c.length)(L:Ok S a)(M:J X.c.length 2 ⟨0,X.id,X.c.length,[]⟩ 0 a):Dq S K F J G0 X (X.D2 a):=vG h y H rfl rfl (A.cb y h.mv rfl (.inr (.inl rfl)) ⟨rfl,rfl⟩ M (λe=>absurd e (by show¬(2=1\/(2:Int)=3);decide)) (λ_=>L) λe=>absurd e (by show¬(2=4);decide)) (by show(2:Int)≠1;decide) (by show(2:Int)≠5;decide)
def Qc(h:XI S K F J (λ_=>True) X)(y:Kw S K)(A:Rg S K F X)(H:∀d∈X.a,d.gU<X.c.length)(L:Ok S a)(M:J X.c.length 3 ⟨9,X.id,X.c.length,[]⟩ 0 a):Dq S K F J G0 X (X.fill a):=vG h y H rfl rfl (A.cb y h.mv rfl (.inr (.inr (.inl rfl))) ⟨rfl,rfl⟩ M (λ_=>by show(9:Int)≠0;decide) (λ_=>L) λe=>absurd e (by show¬(3=4);decide)) (by show(3:Int)≠1;decide) (by show(3:Int)≠5;decide)
def Oz(h:XI S K F J (λ_=>True) X)(y:Kw S K)(A:Rg S K F X)(H:∀d∈X.a,d.gU<X.c.length)(L:K.e a)(M:J X.c.length 4 ⟨0,X.id,X.c.length,[]⟩ 0 a):Dq S K F J G0 X (X.uU a):=vG h y H rfl rfl (A.cb y h.mv rfl (.inr (.inr (.inr (.inl rfl)))) ⟨rfl,rfl⟩ M (λe=>absurd e (by show¬(4=1\/(4:Int)=3);decide)) (λe=>absurd e (by show¬(4=2\/(4:Int)=3);decide)) λ_=>L) (by show(4:Int)≠1;decide) (by show(4:Int)≠5;decide)
def Ju(h:XI S K F J (λ_=>True) X)(kw:Kw S K)(hw:Rg S K F X)(ja:∀d∈X.a,d.gU<X.c.length)(hJ:J X.c.length 5 ⟨0,X.id,X.c.length,[]⟩ u 0):Dq S K F J G0 X (X.change u):=by
 let⟨c,T⟩:=gJ (({X.iP 5 with unit:=u}:jz):jz);have M:c.kind=5/\c.q=Qn.zero/\c.gU=X.c.length:=by rw[<-T];exact⟨rfl,rfl,rfl⟩
 have V:Cb S K (F c.gU) J X.id X.b c:=by rw[<-T];exact hw.cb kw h.mv rfl (.inr (.inr (.inr (.inr rfl)))) ⟨rfl,rfl⟩ hJ (λe=>absurd e (by show¬((5:Int)=1\/(5:Int)=3);decide)) (λe=>absurd e (by show¬((5:Int)=2\/(5:Int)=3);decide)) λe=>absurd e (by show¬((5:Int)=4);decide)
 obtain⟨b1,b2⟩:=h.begin ja M.2.2;have A:c.q.nodes=[]:=by rw[M.2.1];rfl
 have Q:qI S K (F c.gU) J (X.je c).id (X.je c).b c:=⟨V,λe=>pS M.1 e,λ_ e=>absurd A e,λe=>pS M.1 e,λ_=>A,λe=>absurd A e,λe=>absurd A e,λe=>absurd A e,λe=>absurd A e,λe=>absurd A e⟩;let⟨K',k1,k2,k3,y,Y⟩:=KW (G:=G0) b1 kw (qD X c) iK Q;have Z:(X.je c).kP c=(X.je c).kE c:=by unfold Cx.kP;rw[aE M.1]
 rw[Z]at y Y;have L:XI S K' F J (λ_=>True) ((X.je c).kE c):=⟨y.b,λd hd _=>y.d d hd (by
  by_cases e:d.gU=X.c.length
  .exact .inr (e.H M.2.2.symm)
  .exact .inl e),y.c,y.f,y.nd,y.mv⟩
 unfold Cx.change;dsimp only;rw[T];have gP:(X.je c).id=X.id:=rfl;split
 .let⟨m1,m2,m3⟩:=wi (S:=S) (X:=(X.je c).kE c) (y.mv.a y.b.e) y.b.VN;exact⟨K',k1,k3,L.sc m2 m1,((b2 A).H Y).H m3⟩
 exact⟨K',k1,k3,L,(b2 A).H Y⟩
def SR(H:Kw S K){id:Int}(gP:1000<=id/\id<=1099)(L:∀e b v,K.b e b v->b%100=id-1000->False):XI S K F J (λ_=>True) (Cx.new S.n S.m S.v S.ce id):=by have M:=H.pos;have A:K.In 0:=⟨iK,C⟩;refine⟨⟨rfl,rfl,rfl,rfl,A,?_⟩,by simp[Cx.new],by simp[Cx.new],by simp[Cx.new],by simp[Cx.new],CU ⟨by show(0:Int)<=_;omega,A,λe=>absurd rfl e,λe b v x y=>(L e b v x y).elim,iK,gP⟩ rfl⟩;show jD S.n S.m=K.lay 0;unfold Kn.lay;rw[aS,show(0:Int).toNat=0 from rfl,H.l0];rfl
end
structure VO(K:Kn)(r:Rq):Prop where
 e1:r.ep<=K.a.length
 a6:r.kd=6->r.ct.val≠[]->K.b r.ep r.pl r.ct.val
structure Wi(X:Cx)(r:Rq):Prop where
 na:r.nr<=X.ib
 c:∀c∈X.a,c.q.nodes≠[]->c.q.A.nr=r.nr->c.q.A=r
 v:X.mv.A.nodes≠[]->X.mv.A.A.nr=r.nr->X.mv.A.A=r
structure RP(S:Cf)(K:Kn)(F:Nat->Fl)(X:Cx)(u nr:Int)(B:An):Prop where
 na:nr<=X.ib
 e5:B.wh=5->B.ep<=K.a.length
 c:∀c∈X.a,c.q.A.nr=nr->u∈c.q.nodes->sN S K (F c.gU) u c.q.A B
structure Rx(S:Cf)(K:Kn)(X:Cx)(q nr lt:Int)(v:Vo):Prop where
 na:nr<=X.ib
 tl:lt<=K.a.length
 v:X.mv.A.nodes≠[]->X.mv.A.A.nr=nr->q∈X.mv.A.nodes->Ee S K X.mv.c X.mv.A.A (q,v)
def wH(S:Cf)(K:Kn)(F:Nat->Nat->Fl)(ac:List Ac)(l:Le):Prop:=match l.pk with
 | .req r=>∃i A,l.fr=kg i/\ac[i]?=some A/\Wi A.X r/\(nL S.n S.m l.tt->Td S K l.tt r)/\(oj S.v l.tt->VO K r)
 | .rep nr B=>∃i A,l.tt=kg i/\ac[i]?=some A/\RP S K (F i) A.X l.fr nr B
 | .vot nr lt v=>∃i A,l.tt=kg i/\ac[i]?=some A/\Rx S K A.X l.fr nr lt v
 | .noi _=>True
def Qe.B(e:Qe):Prop:=match e.pk with
 | .req _=>False
 |_=>True
def Kn.vz(K:Kn)(u:Int)(s:St):Kn:={K with D:=λx=>if x=u then s else K.D x}
def Kn.su(K:Kn)(q:Int)(s:VS)(h:List VS):Kn:={K with c:=λx=>if x=q then s else K.c x,d:=λx e b=>K.d x e b\/(x=q/\0<b/\∃y∈h,(y.E e).ba=b)}
def rh(s s':VS):Prop:=∀e,yj (s.E e) (s'.E e)
def pA(S:Cf)(K:Kn)(F:Nat->Nat->Fl)(ac:List Ac)(i:Nat)(P:Pl):Prop:=match P.part with
 | .unit ch s h=>(ch=(i:Int)/S.m/\nL S.n S.m i)/\(∃t,h=K.D i::t)/\h.getLast?=some s/\h.Pairwise (rb S.n ((i:Int)/S.m))/\(∀x∈h,Ha S K i x)/\∀e∈P.q,e.B/\wH S (K.vz i s) F ac ⟨i,e.cl,e.pk⟩
 | .voter s h=>oj S.v (jZ S.n S.m i)/\(∃t,h=K.c (jZ S.n S.m i)::t)/\h.getLast?=some s/\h.Pairwise rh/\(∀x∈h,Ra K x)/\∀e∈P.q,e.B/\wH S (K.su (jZ S.n S.m i) s h) F ac ⟨jZ S.n S.m i,e.cl,e.pk⟩
def qK(h:kg i=kg j):i=j:=by unfold kg at h;omega
def VO.L(h:VO K r)(k:kZ S K K'):VO K' r:=⟨by have:=h.e1;have:=k.len;omega,λe e'=>k.a _ _ _ (h.a6 e e')⟩
def RP.L{F:Nat->Fl}{B:An}(h:RP S K F X u nr B)(k:kZ S K K'):RP S K' F X u nr B:=⟨h.na,λe=>by have:=h.e5 e;have:=k.len;omega,λc y e e'=>(h.c c y e e').L k⟩
def Rx.L{A:Int}{v:Vo}(h:Rx S K X q nr A v)(k:kZ S K K')(y:qh S K X):Rx S K' X q nr A v:=⟨h.na,by have:=h.tl;have:=k.len;omega,λe e' H=>(h.v e e' H).L k λ_ M=>by
 have Q:=(y.me e).1
 have T:=y.e0
 rw[y.ep e]
 exact⟨C,((y.hc e M).1)⟩⟩
theorem wH.L(h:wH S K F ac l)(k:kZ S K K')(Q:∀(i:Nat) (A:Ac),ac[i]?=some A->qh S K A.X):wH S K' F ac l:=by
 let⟨fr,tt,pk⟩:=l
 cases pk with
 |req r=>let⟨i,A,H,y,M,T,V⟩:=h;exact⟨i,A,H,y,M,λe=>(T e).L k,λe=>(V e).L k⟩
 |rep nr B=>let⟨i,A,H,y,M⟩:=h;exact⟨i,A,H,y,M.L k⟩
 |vot nr Y v=>let⟨i,A,H,y,M⟩:=h;exact⟨i,A,H,y,M.L k (Q i A y)⟩
 |noi ds=>exact trivial
theorem wH.go(h:wH S K F ac l)(k:kZ S K K')(hm:∀(i:Nat) (A:Ac),ac[i]?=some A->qh S K A.X)(hg:∀(i:Nat) (A:Ac),ac[i]?=some A->∃Q,ac'[i]?=some Q/\Qg A.X Q.X/\∀c∈A.X.a,F' i c.gU=F i c.gU):wH S K' F' ac' l:=by
 have hl:=k.len;let⟨fr,tt,pk⟩:=l
 cases pk with
 |req r=>
  let⟨i,A,h1,h2,y,h4,h5⟩:=h;let⟨Q,Z,M,g3⟩:=hg i A h2;have ga:=M.a;have a0:=y.na;refine⟨i,Q,h1,Z,⟨C,λc hc T e=>?_,λT e=>?_⟩,λe=>(h4 e).L k,λe=>(h5 e).L k⟩
  .obtain⟨d,hd,_,H,Y⟩|q:=M.c c hc T
   .rw[<-H];exact y.c d hd (jk Y T) (jk H e)
   omega
  obtain⟨V,H,Y⟩|q:=M.v T
  .rw[V];exact y.v (jJ H T) (jJ V e)
  omega
 |rep nr B=>
  let⟨i,A,e1,hA,y⟩:=h;let⟨Q,Z,M,g3⟩:=hg i A hA;have ga:=M.a;have a0:=y.na;refine⟨i,Q,e1,Z,C,λe=>by have:=y.e5 e;omega,λc hc e hu=>?_⟩;obtain⟨d,hd,V,H,Y⟩|q:=M.c c hc (bM hu)
  .have:=(y.c d hd (jk H e) (jk Y hu)).L k;rw[<-V,g3 d hd,<-H];exact this
  omega
 |vot nr lt v=>
  let⟨i,A,e1,hA,y⟩:=h;let⟨Q,Z,M,g3⟩:=hg i A hA;have y:=y.L k (hm i A hA);have ga:=M.a;have a0:=y.na;refine⟨i,Q,e1,Z,C,y.tl,λT e hu=>?_⟩;obtain⟨V,H,Y⟩|q:=M.v T
  .rw[V,Y];exact y.v (jJ H T) (jJ V e) (jJ H hu)
  omega
 |noi ds=>exact trivial
def wU{s:St}(h:rb S.n (u/S.m) (K.D u) s):kZ S K (K.vz u s):=⟨⟨[],by simp[Kn.vz]⟩,λx=>by
 show rb _ _ _ (if x=u then s else K.D x)
 split
 .simp_all
 .exact rb.refl ..,λ_ _=>yj.refl _,λ_ _ _ h=>h,λ_ _ _ h=>.inl h,λ_ _ _ h=>h,λ_ _=>⟨rfl,rfl⟩,λ_ _ _ h=>h,λ_ h=>h,λ_ h=>h⟩
def BP{s s':St}(k:kZ S K K')(h:rb S.n (u/S.m) s s'):kZ S (K.vz u s) (K'.vz u s'):=⟨k.ls,λx=>by
 show rb _ _ (if x=u then s else K.D x) (if x=u then s' else K'.D x)
 split
 .simp_all
 .exact k.d x,k.dv,k.av,k.an,k.a,k.cb,k.p0,k.mk',k.fu⟩
def xN{x s:Ep}(h:yj x s)(y:x.ba<=x.pr):x.ba<=s.ba:=by obtain⟨h1,_⟩|h1:=h.ba<;>omega
def vW(M:Kw S K)(Q:oj S.v q)(T:rh (K.c q) s)(V:∀y∈h,rh (K.c q) y):kZ S K (K.su q s h):=⟨⟨[],by simp[Kn.su]⟩,λx=>rb.refl ..,λx e=>by
 show yj _ ((if x=q then s else K.c x).E e)
 split
 .rename_i Y;rw[Y];exact T e
 .exact yj.refl _,λ_ _ _ h=>.inl h,λx e b H=>by
  obtain H|⟨rfl,L,y,Z,rfl⟩:=H
  .simp_all
  .rcases(V y Z e).ba with⟨A,_⟩|A
   .rw[A]at L|-;exact .inl (M.va _ e Q L)
   .exact .inr A,λ_ _ _ h=>h,λ_ _=>⟨rfl,rfl⟩,λ_ _ _ h=>h,λ_ h=>h,λ_ h=>h⟩
def B6{M:List VS}(k:kZ S K K')(T:rh s s')(V:∀y∈h,y∈M)(Y:∀y∈M,y∈h\/rh s y)(Z:s∈h)(hv:∀e b,K'.d q e b->K.d q e b):kZ S (K.su q s h) (K'.su q s' M):=⟨k.ls,k.d,λx e=>by
 show yj ((if x=q then s else K.c x).E e) ((if x=q then s' else K'.c x).E e)
 split
 .exact T e
 .exact k.dv x e,λx e b hx=>by
  obtain hx|⟨A,L,y,hy,H⟩:=hx
  .exact .inl (k.av x e b hx)
  .exact .inr ⟨A,L,y,V y hy,H⟩,λx e b hx=>by
  obtain hx|⟨A,L,y,hy,H⟩:=hx
  .by_cases ex:x=q
   .subst ex;exact .inl (.inl (hv _ _ hx))
   .obtain hx|hx:=k.an x e b hx
    .exact .inl (.inl hx)
    .right
     show((if x=q then s else K.c x).E e).pr<=b
     simp_all
  .obtain hy|hy:=Y y hy
   .exact .inl (.inr ⟨A,L,y,hy,H⟩)
   .rcases(hy e).ba with⟨Q,_⟩|Q
    .exact .inl (.inr ⟨A,L,s,Z,by rw[<-H,Q]⟩)
    .right
     show((if x=q then s else K.c x).E e).pr<=b
     rw[aE A,<-H];exact Q,k.a,k.cb,k.p0,k.mk',k.fu⟩
def Tx{s:St}(y:Kw S K)(h:rb S.n (u/S.m) (K.D u) s)(H:Ha S K u s):Kw S (K.vz u s):=by
 have A:kZ S K _:=wU h;refine⟨⟨y.l0,y.ls,y.lc,λe b v x=>?_,y.au,y.av,y.pu,y.T9⟩,λx M=>?_,λq Q=>(y.vd q Q).L A,y.va⟩
 .obtain⟨T,V,Y,Z⟩:=y.a e b v x;exact⟨T,V,Y,Z.L A⟩
 show Ha S _ x (if x=u then s else K.D x);split
 .rename_i e;rw[e];exact H.L A
 exact(y.sd x M).L A
def RJ(A:Kw S K)(T:oj S.v q)(h1:rh (K.c q) s)(h2:∀y∈h,rh (K.c q) y)(h3:∀y∈h,rh y s)(hs:s∈h)(hi:∀y∈h,Ra K y):Kw S (K.su q s h):=by
 have V:kZ S K (K.su q s h):=vW A T h1 h2;have hd:=A.vd q T;refine⟨⟨A.l0,A.ls,λe e1 e2=>?_,λe b v x=>?_,A.au,λx e b H=>?_,A.pu,A.T9⟩,λx H=>(A.sd x H).L V,λx H=>?_,λx e H Z=>?_⟩
 .obtain⟨c1,c2,c3⟩:=A.lc e e1 e2;exact⟨c1,c2,λq T=>.inl (c3 q T)⟩
 .obtain⟨a1,Y,a3,a4⟩:=A.a e b v x;exact⟨a1,Y,a3,a4.L V⟩
 .show 0<b/\b<=((if x=q then s else K.c x).E e).ba;obtain H|⟨rfl,Z,y,hy,rfl⟩:=H
  .obtain⟨a1,Y⟩:=A.av x e b H;refine⟨a1,?_⟩;split
   .rename_i M;rw[M]at Y;have:=xN (h1 e) (hd.bp e);omega
   exact Y
  rw[aE rfl];exact⟨Z,xN (h3 y hy e) ((hi y hy).bp e)⟩
 .show Ra _ (if x=q then s else K.c x);split
  .exact(hi s hs).L V
  exact(A.vd x H).L V
 have Q:0<((if x=q then s else K.c x).E e).ba:=Z;show _\/_;split at Q
 .rename_i M;refine .inr ⟨M,?_,s,hs,?_⟩
  .show 0<((if x=q then s else K.c x).E e).ba;rw[aE M];exact Q
  show _=((if x=q then s else K.c x).E e).ba;rw[aE M]
 rename_i M;left;show K.d x e ((if x=q then s else K.c x).E e).ba;rw[az M];exact A.va x e H Q
section
def sM(E)(e)(s):mS E e s e=s:=by unfold mS;rw[aE rfl]
def yS(E){e e':Int}(s)(h:e'≠e):mS E e s e'=E e':=by unfold mS;rw[az h]
inductive JD(s:VS)(r:Rq)(v:Vo)(s':VS):Prop
 |no (h:v.wh=6) (hb:v.ba=0) (he:s'.E=s.E) (hl:s'.lt=s.lt)
 |prom (hk:r.kd=5) (h:v.wh=1) (hp:(s.E r.ep).pr<r.pl) (hv:v.ba=(s.E r.ep).ba/\v.val=(s.E r.ep).val) (he:s'.E=mS s.E r.ep ⟨r.pl,(s.E r.ep).ba,(s.E r.ep).val⟩) (hl:s'.lt=max s.lt r.ep)
 |zr (hk:r.kd=6) (h:v.wh=1) (h0:0<r.pl) (hp:(s.E r.ep).pr<=r.pl) (hv:v.ba=0) (hn:r.ct.val≠[]) (he:s'.E=mS s.E r.ep ⟨r.pl,r.pl,r.ct.val⟩) (hl:s'.lt=max s.lt r.ep)
 |Mq (hk:r.kd=7) (h:v.wh=1) (hv:v.ba=(s.E r.ep).ba/\v.val=(s.E r.ep).val) (he:s'.E=s.E) (hl:s'.lt=s.lt)
def RG(s)(r)(hk:r.kd=5\/r.kd=6\/r.kd=7):JD s r (rj s r).1 (rj s r).2:=by
 unfold rj oD;dsimp only;obtain hk|hk|hk:=hk
 .rw[aE hk];split
  .refine .no rfl rfl rfl ?_;show(if(6:Int)=1/\r.kd≠7 then max s.lt r.ep else s.lt)=s.lt;rw[az (λe=>absurd e.1 gF)]
  rename_i y;simp only[not_or]at y;refine .prom hk rfl C ⟨rfl,rfl⟩ rfl ?_;show(if(1:Int)=1/\r.kd≠7 then max s.lt r.ep else s.lt)=_;rw[aE ⟨rfl,mG hk⟩]
 .rw[az (mG hk),aE hk];split
  .refine .no rfl rfl rfl ?_;show(if(6:Int)=1/\r.kd≠7 then max s.lt r.ep else s.lt)=s.lt;rw[az (λe=>absurd e.1 gF)]
  rename_i y;simp only[not_or,Classical.not_not]at y;refine .zr hk rfl C C rfl (λe=>by rw[e]at y;have:=y.2.2.2.1;simp at this) rfl ?_;show(if(1:Int)=1/\r.kd≠7 then max s.lt r.ep else s.lt)=_;rw[aE ⟨rfl,mG hk⟩]
 rw[az (mG hk),az (mG hk)];refine .Mq hk rfl ⟨rfl,rfl⟩ rfl ?_;show(if(1:Int)=1/\r.kd≠7 then max s.lt r.ep else s.lt)=_;rw[az (λe=>e.2 hk)]
theorem Xj{v:Vo}(h:JD s r v s'):rh s s':=λe=>by
 cases h with
 |no _ _ y _=>rw[y];exact yj.refl _
 |Mq _ _ _ y _=>rw[y];exact yj.refl _
 |prom _ _ A _ y _=>
  rw[y];by_cases q:e=r.ep
  .rw[q,sM];exact⟨by show _<=r.pl;omega,.inl ⟨rfl,rfl⟩⟩
  rw[yS _ _ q];exact yj.refl _
 |zr _ _ _ A _ _ y _=>
  rw[y];by_cases q:e=r.ep
  .rw[q,sM];exact⟨A,.inr A⟩
  rw[yS _ _ q];exact yj.refl _
theorem Xm{v:Vo}(h:JD s r v s')(y:Ra K s)(M:VO K r):Ra K s':=by
 have Y:=y.lt;have Z:=M.e1
 cases h with
 |no _ _ H L=>exact⟨by rw[H];exact y.b0,by rw[H];exact y.bp,by rw[H];exact y.a,by rw[L];exact y.lt⟩
 |Mq _ _ _ H L=>exact⟨by rw[H];exact y.b0,by rw[H];exact y.bp,by rw[H];exact y.a,by rw[L];exact y.lt⟩
 |prom _ _ Q _ H L=>
  have A:∀e,(0<=(s'.E e).ba/\(s'.E e).ba<=(s'.E e).pr)/\(0<(s'.E e).ba->K.b e (s'.E e).ba (s'.E e).val):=λe=>by
   rw[H];by_cases q:e=r.ep
   .rw[q,sM];exact⟨⟨y.b0 _,by have:=y.bp r.ep;show(s.E r.ep).ba<=r.pl;omega⟩,y.a _⟩
   rw[yS _ _ q];exact⟨⟨y.b0 e,y.bp e⟩,y.a e⟩
  exact⟨λe=>(A e).1.1,λe=>(A e).1.2,λe=>(A e).2,pI L⟩
 |zr T _ h0 Q _ V H L=>
  have A:∀e,(0<=(s'.E e).ba/\(s'.E e).ba<=(s'.E e).pr)/\(0<(s'.E e).ba->K.b e (s'.E e).ba (s'.E e).val):=λe=>by
   rw[H];by_cases q:e=r.ep
   .rw[q,sM];exact⟨⟨by show 0<=r.pl;omega,iK⟩,λ_=>M.a6 T V⟩
   rw[yS _ _ q];exact⟨⟨y.b0 e,y.bp e⟩,y.a e⟩
  exact⟨λe=>(A e).1.1,λe=>(A e).1.2,λe=>(A e).2,pI L⟩
def pT{α:Type}{h:List α}{s:α}(y:h.getLast?=some s):s∈h:=List.mem_of_getLast? y
theorem uE{α:Type}{R:α->α->Prop}(L:∀x,R x x):∀{h:List α} {s:α},h.getLast?=some s->h.Pairwise R->∀x∈h,R x s
 |[],s,A,_,x,hx=>mi hx
 |[y],s,A,_,x,hx=>by simp at A hx;subst A;subst hx;exact L _
 |y::z::h,s,A,M,x,hx=>by
  have H:(z::h).getLast?=some s:=iU A;obtain⟨Q,T⟩:=cI.1 M;obtain rfl|hx:=bh.1 hx
  .exact Q s (pT H)
  exact uE L H T x hx
def qB{α:Type}{R:α->α->Prop}(y:∀x,R x x){a:α}{t:List α}(A:(a::t).Pairwise R):∀x∈a::t,R a x:=by simp_all
def CA{α:Type}{R:α->α->Prop}(L:∀x,R x x)(M:∀x y z,R x y->R y z->R x z){h:List α}{s s':α}(Q:h.getLast?=some s)(A:h.Pairwise R)(T:R s s'):(h++[s']).Pairwise R:=by rw[cu];refine⟨A,gG,λx V y H=>?_⟩;simp at H;subst H;exact M _ _ _ (uE L Q A x V) T
def Fh{q:List Qe}{a e:Qe}(h:e∈xL q a):e∈q\/e=a:=by
 unfold xL at h;split at h
 .simp_all
 split at h
 .simp_all
 obtain⟨x,y,rfl⟩:=aD.1 h;split
 .simp
 simp_all
def Cs(S:Cf)(K:Kn)(F:Nat->Nat->Fl)(J:Nat->Jq)(ac:List Ac):Prop:=∀(i:Nat) (A:Ac),ac[i]?=some A->XI S K (F i) (J i) (λ_=>True) A.X/\A.X.id=kg i
variable{J:Nat->Jq}
def Cs.mv(h:Cs S K F J ac):∀(i:Nat) (A:Ac),ac[i]?=some A->qh S K A.X:=λi A y=>(h i A y).1.mv
def qh.vz{s:St}(h:qh S K X)(k:kZ S K (K.vz u s)):qh S (K.vz u s) X:=h.L k λ_ _ _ x _=>x
def qh.su{l:List VS}(h:qh S K X)(k:kZ S K (K.su q s l)):qh S (K.su q s l) X:=h.L k λ_ _ _ x _=>x
theorem pA.recv(h:pA S K F ac i P)(kw:Kw S K)(hc:Cs S K F J ac)(hl:wH S K F ac l)(hk:uH b S.n S.m S.v l)(a5:jZ S.n S.m i=l.tt):pA S K F ac i (P.recv S.n S.m S.v S.ce l.fr l.pk):=by
 have a9:=uP S.A.1.2 S.A.2.1.2;let⟨fr,tt,p⟩:=l
 cases p with
 |rep nr A=>exact h
 |vot nr lt v=>exact h
 |noi ds=>exact h
 |req r=>
  let⟨j,A,h1,h2,h3,h4,h5⟩:=hl;let⟨_,hu⟩:=hk;simp only at h1 a5 hu h4 h5;let⟨aa,q,up,oB⟩:=P
  cases aa with
  |unit ch s Z=>
   obtain⟨⟨g0,g1⟩,⟨t,g2⟩,g3,g4,g5,g6⟩:=h;have gP:jZ S.n S.m i=i:=by unfold jZ;rw[aE (by unfold nL at g1;have:=g1.2;exact_mod_cast this)]
   have ab:nL S.n S.m tt:=by rw[<-a5,gP];exact g1
   have hR:PX b r:=by
    obtain⟨u1,u2⟩|⟨u1,u2⟩:=hu
    .exact u2
    unfold oj at u1;unfold nL at ab;have:(S.n:Int)*S.m<=9:=by exact_mod_cast a9
    omega
   have ap:Td S K i r:=by have:=h4 ab;rwa[<-a5,gP]at this
   have V:=pT g3;have M:rb S.n ((i:Int)/S.m) (K.D i) s:=qB (rb.refl _ _) (jJ g2 g4) s (jJ g2 V);let⟨s',Y⟩:=gJ ((lK S.n S.m S.v S.ce ch s r).2);have T:rb S.n ((i:Int)/S.m) s s':=by rw[<-Y,g0];exact Rp S.ok
   have a0:Ha S K i s':=by rw[<-Y,g0];exact(g5 s V).B ap hR.kd hR.c2
   show pA S K F ac i ⟨.unit ch (lK S.n S.m S.v S.ce ch s r).2 (Z++[(lK S.n S.m S.v S.ce ch s r).2]),xL q ⟨fr,r.ln,r.nr,.rep r.nr (lK S.n S.m S.v S.ce ch s r).1⟩,up,oB⟩;rw[Y];refine⟨⟨g0,g1⟩,⟨t++[s'],by rw[g2];rfl⟩,gG,CA (rb.refl _ _) (λ_ _ _=>rb.H) g3 g4 T,λx hx=>?_,λe he=>?_⟩
   .obtain hx|hx:=aT.1 hx
    .exact g5 x hx
    simp at hx;subst hx;exact a0
   have a8:kZ S K (K.vz i s):=wU M;have ad:kZ S K (K.vz i s'):=wU (M.H T);obtain he|he:=Fh he
   .exact⟨(g6 e he).1,(g6 e he).2.L (BP (kZ.refl S K) T) λj A hA=>((hc j A hA).1.mv).vz a8⟩
   subst he;refine⟨trivial,j,A,h1,h2,h3.na,λe5=>?_,λc ag e ai=>?_⟩
   .have:=U1 e5;show(lK S.n S.m S.v S.ce ch s r).1.ep<=_;rw[this.1];exact(g5 s V).e1
   have aq:c.q.nodes≠[]:=bM ai;have a6:=h3.c c ag aq e;rw[a6];refine⟨s,((hc j A h2).1.d c ag trivial).fl i|>.H M,mf g0,?_,?_⟩
   .rw[<-g0,Y];exact a0.L ad
   rw[<-g0,Y];show rb _ _ s' (if(i:Int)=i then s' else K.D i);rw[aE rfl];exact rb.refl ..
  |voter s Z=>
   obtain⟨g1,⟨t,g2⟩,g3,g4,g5,g6⟩:=h;let⟨Q,hQ⟩:=gJ (jZ S.n S.m i);rw[hQ]at g1 g2 g6;have ak:oj S.v tt:=by rw[<-a5,hQ];exact g1
   have hR:PA b r:=by
    obtain⟨u1,u2⟩|⟨u1,u2⟩:=hu
    .unfold oj at ak;unfold nL at u1;have:(S.n:Int)*S.m<=9:=by exact_mod_cast a9
     omega
    exact u2
   have al:=h5 ak;have V:=pT g3;have rf:∀x:VS,rh x x:=λx e=>yj.refl _;have tr:∀x y z:VS,rh x y->rh y z->rh x z:=λx y z a b e=>(a e).H (b e);have hD:∀x∈Z,rh (K.c Q) x:=λx hx=>qB rf (jJ g2 g4) x (jJ g2 hx);have M:=hD s V;let⟨v,hv⟩:=gJ ((rj s r).1);let⟨s',Y⟩:=gJ ((rj s r).2);have ht:=RG s r hR.kd;rw[hv,Y]at ht;have T:=Xj ht;have a0:=Xm ht (g5 s V) al;show pA S K F ac i ⟨.voter (rj s r).2 (Z++[(rj s r).2]),xL q ⟨fr,r.ln,r.nr,.vot r.nr (rj s r).2.lt (rj s r).1⟩,up,oB⟩;rw[Y,hv];have ar:(Z++[s']).Pairwise rh:=CA rf tr g3 g4 T;have au:∀x∈Z++[s'],rh (K.c Q) x:=λx hx=>by
    obtain hx|hx:=aT.1 hx
    .exact hD x hx
    simp at hx;subst hx;exact tr _ _ _ M T
   have a8:kZ S K (K.su Q s Z):=vW kw g1 M hD;have ad:kZ S K (K.su Q s' (Z++[s'])):=vW kw g1 (tr _ _ _ M T) au;show oj S.v (jZ S.n S.m i)/\(∃t,Z++[s']=K.c (jZ S.n S.m i)::t)/\(Z++[s']).getLast?=some s'/\(Z++[s']).Pairwise rh/\(∀x∈Z++[s'],Ra K x)/\∀e∈xL q ⟨fr,r.ln,r.nr,.vot r.nr s'.lt v⟩,e.B/\wH S (K.su (jZ S.n S.m i) s' (Z++[s'])) F ac ⟨jZ S.n S.m i,e.cl,e.pk⟩;rw[hQ];refine⟨g1,⟨t++[s'],by rw[g2];rfl⟩,gG,ar,λx hx=>?_,λe he=>?_⟩
   .obtain hx|hx:=aT.1 hx
    .exact g5 x hx
    simp at hx;subst hx;exact a0
   obtain he|he:=Fh he
   .refine⟨(g6 e he).1,(g6 e he).2.L (B6 (kZ.refl S K) T (λy hy=>dG _ hy) (λy hy=>?_) V λ_ _ x=>x) λj A hA=>((hc j A hA).1.mv).su a8⟩;obtain hy|hy:=aT.1 hy
    .exact .inl hy
    simp at hy;subst hy;exact .inr T
   subst he;refine⟨trivial,j,A,h1,h2,h3.na,a0.lt,λhn e ai=>?_⟩;have a6:=h3.v hn e;have a7:=(hc j A h2).1.mv;have am:s'∈Z++[s']:=cM _ (cw.2 rfl);have a1:=(g5 s V);rw[a6];have an:r.ep=A.X.mv.b:=by rw[<-a7.ep hn,a6]
   have av:∀b2,(K.su Q s' (Z++[s'])).d Q r.ep b2->b2<=(s.E r.ep).ba\/b2=(s'.E r.ep).ba:=λb2 a2=>by
    obtain a2|⟨_,_,y,hy,rfl⟩:=a2
    .left;have:=(kw.av _ _ _ a2).2;have:=xN (M r.ep) ((kw.vd Q g1).bp r.ep);omega
    obtain hy|hy:=aT.1 hy
    .exact .inl (xN (uE rf g3 g4 y hy r.ep) ((g5 y hy).bp r.ep))
    simp at hy;subst hy;exact .inr rfl
   cases ht with
   |no t1 t2 t3 t4=>
    refine⟨by show 0<=v.ba;omega,λe7=>?_,λ_ e1=>?_,λ_ e1=>?_⟩
    .exfalso;have:(rj s r).1.wh=1:=by unfold rj oD;rw[e7];rfl
     rw[hv,t1]at this;exact absurd this gF
    .have a3:v.wh=1:=e1;rw[t1]at a3;exact absurd a3 gF
    have a3:v.wh=1:=e1;rw[t1]at a3;exact absurd a3 gF
   |prom t0 t1 t2 t3 t4 t5=>
    refine⟨by show 0<=v.ba;rw[t3.1];exact a1.b0 _,λe7=>pS t0 e7,λ_ _=>⟨?_,?_,λhb=>?_,λb2 a2=>?_⟩,λe6=>pS t0 e6⟩
    .show r.pl<=((if Q=Q then s' else K.c Q).E r.ep).pr;rw[aE rfl,t4,sM];exact iK
    .show v.ba<r.pl;rw[t3.1];have:=a1.bp r.ep;omega
    .show K.b r.ep v.ba v.val;rw[t3.1,t3.2];exact a1.a _ (by have a4:0<v.ba:=hb;rwa[t3.1]at a4)
    show b2<=v.ba\/_;rw[t3.1];obtain q|q:=av b2 a2
    .exact .inl q
    left;rw[q,t4,sM];exact iK
   |zr t0 t1 t2 t3 t4 t5 t6 t7=>refine⟨by show 0<=v.ba;omega,λe7=>pS t0 e7,λe5=>pS t0 e5,λ_ _=>⟨?_,al.a6 t0 t5⟩⟩;exact .inr ⟨rfl,t2,s',am,by rw[t6,sM]⟩
   |Mq t0 t1 t2 t3 t4=>
    refine⟨by show 0<=v.ba;rw[t2.1];exact a1.b0 _,λ_=>⟨λhb=>?_,λaY hq=>?_⟩,λe5=>pS t0 e5,λe6=>pS t0 e6⟩
    .have a4:0<v.ba:=hb;rw[t2.1]at a4;refine⟨?_,.inr ⟨rfl,hb,s',am,?_⟩⟩
     .show K.b r.ep v.ba v.val;rw[t2.1,t2.2];exact a1.a _ a4
     show _=v.ba;rw[t3,t2.1]
    show K.cb r.ep.toNat<=v.ba;have b0:=(a7.hc hn aY).1;have b1:=(a7.me hn).1;have b4:=a7.e0;rw[<-an]at b0 b1;have b3:Q∈K.cq r.ep.toNat:=hq;have:=(kw.lc r.ep.toNat C C).2.2 Q b3;rw[show((r.ep.toNat:Nat):Int)=r.ep by omega]at this;have h8:=(kw.av _ _ _ this).2;have h9:=xN (M r.ep) ((kw.vd Q g1).bp r.ep);rw[t2.1];omega
end
def Kl.ie(c:Kl):Ct:=⟨if c.kind=1 then 8 else if c.kind=3 then 9 else 0,kg c.a,c.b,c.value⟩
def A9(o:Kl)(t:Ct)(a:Int):Prop:=t=o.ie/\((o.kind=1/\a∈o.c)\/(o.kind=3/\a=o.pos))
def Ws(l:List Kl)(t:Ct)(a:Int):Prop:=∃o∈l,A9 o t a
def WD(S:Cf)(l:List Kl)(t:Ct):Prop:=∃o∈l,t=o.ie/\o.kind=1/\∃a∈o.c,¬Ok S a
def VI(c:Kl)(t:Ct)(a:Int):Prop:=(c.kind=1/\c.r.wh=1/\t=c.ie/\a=c.r.ad)\/((c.kind=2\/c.kind=3)/\c.r=Cx.py t/\a=c.pos/\(t.kd=8\/t.kd=9))
def UL(c:Kl):Prop:=(c.kind=1/\c.r.wh=1)\/((c.kind=2\/c.kind=3)/\(c.r.wh=8\/c.r.wh=9))
def VJ(c:Kl)(m:Int):Prop:=(c.kind=4/\m=c.pos)\/((c.kind=2\/c.kind=3)/\c.r.wh=4/\m=c.pos+1)
structure Gi(S:Cf)(K:Kn)(F:Nat->Nat->Fl)(W:Wd)(c:Kl):Prop where
 r:Rf S K (F c.a c.b) (W.J c.a) (kg c.a) c.b c.r
 m:UL c->∃t a o,(VI c t a/\BQ S K a t/\(c.kind≠1->t.kd=8->xk S K a t))/\o∈W.gK/\o.d<c.fin/\A9 o t a
 t:(c.kind=2\/c.kind=3)->c.r.wh=4->∃o∈W.gK,o.kind=4/\c.pos<o.pos/\o.d<c.fin
 tt:∀m,VJ c m->sb K m
structure UX(S:Cf)(K:Kn)(o:Kl):Prop where
 b:UL o->∃t a,VI o t a/\BQ S K a t
 t:∀m,VJ o m->sb K m
structure Ic(o o':Kl):Prop where
 s:o'.a=o.a/\o'.b=o.b/\o'.kind=o.kind/\o'.pos=o.pos/\o'.value=o.value/\o'.d=o.d
 tk:∀a∈o.c,a∈o'.c
 e:o.fin≠0->o'.fin=o.fin/\o'.r=o.r
structure SI(S:Cf)(K:Kn)(F:Nat->Nat->Fl)(W:Wd):Prop where
 s:(W.n=S.n/\W.m=S.m)/\W.v=S.v/\W.ce=S.ce
 k:Kw S K
 nd:∀i P,W.pl[i]?=some P->pA S K F W.ac i P
 cl:Cs S K F W.J W.ac
 nr:∀(i:Nat) (A:Ac),W.ac[i]?=some A->LM A.X
 po:∀l∈W.iA,wH S K F W.ac l
 p0:∀t a e,K.P0 t a e->Ws W.gK t a
 b:∀m,K.e m->m<=0\/∃c∈W.gK,c.kind=4/\m<=c.pos
 fu:∀t,K.Fu t->WD S W.gK t
 a:∀e b v,K.b e b v->∃i,i<W.ac.length/\b%100=kg i-1000
 ca:∀c∈W.gK,c.fin≠0->Gi S K F W c
 fl:∀o∈W.gK,∀c∈W.gK,o.fin≠0->o.fin<c.d->UX S (K.jU (F c.a c.b)) o
section
variable{o:Kl}
def Ic.refl(o):Ic o o:=⟨⟨rfl,rfl,rfl,rfl,rfl,rfl⟩,λ_ h=>h,λ_=>⟨rfl,rfl⟩⟩
def Ic.ie(h:Ic o o'):o'.ie=o.ie:=by obtain⟨y,A,H,L,M,Q⟩:=h.s;unfold Kl.ie;simp_all
def Ic.Ny(h:Ic o o'){t:Ct}(k:A9 o t a):A9 o' t a:=by
 obtain⟨L,M,H,Q,T,V⟩:=h.s;refine⟨by rw[h.ie];exact k.1,?_⟩;obtain⟨y,A⟩|⟨y,A⟩:=k.2
 .exact .inl ⟨H.H y,h.tk a A⟩
 omega
def D7(l l':List Kl):Prop:=∀o∈l,∃o'∈l',Ic o o'
def D7.refl(l):D7 l l:=λo y=>⟨o,y,Ic.refl o⟩
def D7.Ny{l A:List Kl}(h:D7 l A){t:Ct}(k:Ws l t a):Ws A t a:=by let⟨o,H,k⟩:=k;let⟨o',y,g⟩:=h o H;exact⟨o',y,g.Ny k⟩
def D7.J(h:D7 W.gK W'.gK)(i):∀a b c d e,W.J i a b c d e->W'.J i a b c d e:=by rintro a b c d e⟨k,H,L,M,Q,T,V,Y,Z⟩;let⟨k',y,g⟩:=h k H;obtain⟨g1,g2,g3,A,g5,g6⟩:=g.s;exact⟨k',y,g1.H L,g2.H M,g3.H Q,jk g5 T,λe=>(V e).imp (λx=>x) λx=>g.tk _ x,λe=>by rw[A];exact Y e,λe=>by rw[A];exact Z e⟩
def Un(k:kZ S K K'):kZ S (K.jU D) (K'.jU D):=⟨k.ls,λ_=>rb.refl ..,k.dv,k.av,k.an,k.a,k.cb,k.p0,k.mk',k.fu⟩
def Uh(h:Kv S K):Kv S (K.jU D):=⟨h.l0,h.ls,h.lc,h.a,h.au,h.av,h.pu,h.T9⟩
def UX.L(h:UX S K o)(y:Kv S K)(k:kZ S K K'):UX S K' o:=⟨λe=>by
 obtain⟨t,a,A,H⟩:=h.b e
 exact⟨t,a,A,H.L y k⟩,λm e=>(h.t m e).L k⟩
def Gi.Ya(h:Gi S K F W c):UX S K c:=⟨λe=>by
 obtain⟨t,a,o,⟨y,A,_⟩,_⟩:=h.m e
 exact⟨t,a,y,A⟩,h.tt⟩
def Gi.go(h:Gi S K F W c)(V:Kv S K)(k:kZ S K K')(T:D7 W.gK W'.gK)(Y:Rf S K' (F' c.a c.b) (W'.J c.a) (kg c.a) c.b c.r):Gi S K' F' W' c:=by
 refine⟨Y,λe=>?_,λe e'=>?_,λm e=>(h.tt m e).L k⟩
 .obtain⟨t,a,o,⟨A,H,M⟩,Q,Z,h6⟩:=h.m e;let⟨o',y,g⟩:=T o Q;exact⟨t,a,o',⟨A,H.L V k,λe1 e2=>(M e1 e2).L k⟩,y,by rw[g.s.2.2.2.2.2];exact Z,g.Ny h6⟩
 obtain⟨o,A,H,M,Q⟩:=h.t e e';let⟨o',y,g⟩:=T o A;obtain⟨g1,g2,g3,g4,g5,g6⟩:=g.s;exact⟨o',y,g3.H H,jk g4 M,jk g6 Q⟩
theorem pA.go(h:pA S K F W.ac i P)(k:kZ S K K')(hD:K'.D i=K.D i)(hV:K'.c (jZ S.n S.m i)=K.c (jZ S.n S.m i))(M:∀e b,K'.d (jZ S.n S.m i) e b->K.d (jZ S.n S.m i) e b)(kw:Kw S K)(hm:∀(i:Nat) (A:Ac),W.ac[i]?=some A->qh S K A.X)(hg:∀(i:Nat) (A:Ac),W.ac[i]?=some A->∃A',W'.ac[i]?=some A'/\Qg A.X A'.X/\∀c∈A.X.a,F' i c.gU=F i c.gU):pA S K' F' W'.ac i P:=by
 let⟨Q,q,up,oB⟩:=P
 cases Q with
 |unit ch s hs=>obtain⟨g0,⟨t,y⟩,H,T,g5,V⟩:=h;have a0:rb S.n _ _ s:=qB (rb.refl _ _) (jJ y T) s (by rw[<-y];exact pT H);exact⟨g0,⟨t,jk hD y⟩,H,T,λx Y=>(g5 x Y).L k,λe Z=>⟨(V e Z).1,(V e Z).2.go (BP k (rb.refl ..)) (λi A M=>(hm i A M).vz (wU a0)) hg⟩⟩
 |voter s hs=>obtain⟨g1,⟨t,y⟩,H,T,g5,V⟩:=h;have rf:∀x:VS,rh x x:=λx e=>yj.refl _;have hD:∀x∈hs,rh _ x:=λx Y=>qB rf (jJ y T) x (jJ y Y);exact⟨g1,⟨t,jk hV y⟩,H,T,λx Y=>(g5 x Y).L k,λe Z=>⟨(V e Z).1,(V e Z).2.go (B6 k (rf s) (λ_ h=>h) (λ_ h=>.inl h) (pT H) M) (λi A M=>(hm i A M).su (vW kw g1 (hD s (pT H)) hD)) hg⟩⟩
def SI.act(h:SI S K F W){A:Ac}(hA:W.ac[i]?=some A)(hd:Dq S K (F i) (W.J i) gQ A.X X')(hG:∀t a,gQ t a->Ws W.gK t a)(gP:X'.id=A.X.id)(Y:∀(k:Nat) (r:Rz),A.X.c[k]?=some r->r.wh≠0->X'.c[k]?=some r)(a0:∀c∈W.gK,c.a=i->c.fin≠0->A.X.c[c.b]?=some c.r/\c.r.wh≠0)(h1:(W'.n=W.n/\W'.m=W.m)/\W'.v=W.v/\W'.ce=W.ce)(h2:W'.pl=W.pl)(h3:W'.iA=W.iA)(Z:W'.gK=W.gK)(h5:∀j:Nat,W'.ac[j]?=if j=i then some {A with X:=X'}else W.ac[j]?):∃K',kZ S K K'/\SI S K' F W'/\∀l,wH S K F W.ac l->wH S K' F W'.ac l:=by
 let⟨K',M,k2,k3,k4⟩:=hd;have V:=M.tokZ;have a3:D7 W.gK W'.gK:=by rw[Z];exact D7.refl _
 have hJ:=λj=>a3.J (W:=W) (W':=W') j;have H:=(h.cl i A hA).2;have hm:=h.cl.mv;have hg:∀(j:Nat) (B:Ac),W.ac[j]?=some B->∃B',W'.ac[j]?=some B'/\Qg B.X B'.X/\∀c∈B.X.a,F j c.gU=F j c.gU:=λj B y=>by
  rw[h5];by_cases e:j=i
  .rw[aE e];rw[e,hA]at y;simp at y;subst y;exact⟨_,rfl,k4,λ_ _=>rfl⟩
  rw[az e];exact⟨B,y,Qg.refl _,λ_ _=>rfl⟩
 obtain⟨s1,s2,s3⟩:=h.s;let⟨w1,w2,w3⟩:=h1;have hi:i<W.ac.length:=(aj.1 hA).1;have a4:W'.ac.length=W.ac.length:=by
  have a5:∀j:Nat,W'.ac[j]?=none↔W.ac[j]?=none:=λj=>by
   rw[h5];by_cases e:j=i
   .rw[aE e,e,hA];simp
   rw[az e]
  have a1:=(a5 W.ac.length).2 gG;have a2:=(a5 W'.ac.length).1 gG;simp at a1 a2;omega
 have a6:∀c∈W.gK,c.fin≠0->Rf S K' (F c.a c.b) (W'.J c.a) (kg c.a) c.b c.r:=λc Q hf=>by
  by_cases e:c.a=i
  .let⟨q1,q2⟩:=a0 c Q e hf;have q3:=k3.c _ _ (Y _ _ q1 q2) q2;rw[gP,H]at q3;rw[e];let⟨kd,ow,un,ad,z1,z2,z3⟩:=q3;exact⟨kd,ow,un,ad,hJ i _ _ _ _ _ z1,z2,z3⟩
  exact((h.ca c Q hf).r).L h.k.toKv V (M.np _ _ λe'=>e (qK (jS e' H))) (hJ _)
 refine⟨K',V,⟨⟨⟨w1.1.H s1.1,w1.2.H s1.2⟩,w2.H s2,w3.H s3⟩,M.w,λj P hP=>?_,λj B y=>?_,λj B y=>?_,λl hl=>?_,λt a e x=>?_,λm x=>?_,λt x=>?_,λe b v x=>?_,λc Q hf=>?_,λo ho c Q e1 e2=>?_⟩,λl hl=>hl.go V hm hg⟩
 .rw[h2]at hP;exact(h.nd j P hP).go V (by rw[M.dd.1]) (by rw[M.dd.2.1]) (λe b x=>by rw[<-M.dd.2.2.1];exact x) h.k hm hg
 .rw[h5]at y;by_cases e:j=i
  .rw[aE e]at y;simp at y;subst y;rw[e];exact⟨k3.L M.w.toKv (kZ.refl ..) (λca=>uO.refl K' _ ca) (Q9.refl K' _) (hJ i),gP.H H⟩
  rw[az e]at y;obtain⟨x1,x2⟩:=h.cl j B y;have T:kg j≠A.X.id:=λe'=>e (qK (jS e' H));exact⟨x1.L h.k.toKv V (λca=>by rw[x2];exact M.np _ _ T) (by rw[x2];exact M.na _ (gS x1.mv.id) (gS x1.mv.id) T) (hJ j),x2⟩
 .rw[h5]at y;by_cases e:j=i
  .rw[aE e]at y;simp at y;subst y;exact k4.n (h.nr i A hA)
  rw[az e]at y;exact h.nr j B y
 .rw[h3]at hl;exact(h.po l hl).go V hm hg
 .rw[Z];obtain⟨e',x⟩|⟨kk,u,q,hq,q1,q2,q3,q4,q5,q6,q7⟩|x:=k2 t a e x
  .exact h.p0 _ _ _ x
  .refine⟨q,hq,?_,.inr ⟨q3,q6 (.inr (.inl rfl))⟩⟩;unfold Kl.ie;rw[q4,q1,q2,q3]
  exact hG t a x
 .rw[Z];rw[M.dd.2.2.2.1]at x;exact h.b m x
 .rw[Z];rw[M.dd.2.2.2.2]at x;exact h.fu t x
 .rw[a4];by_cases hx:K.b e b v
  .exact h.a e b v hx
  refine⟨i,hi,?_⟩;refine bk λT=>hx ?_;have a7:=dq b (show(100:Int)≠0 by decide);have a8:=de b (show(0:Int)<100 by decide);exact M.na (b%100+1000) C C (λe'=>T (Wu H)) e b v x C
 .rw[Z]at Q;exact(h.ca c Q hf).go h.k.toKv V a3 (a6 c Q hf)
 rw[Z]at ho Q;exact(h.fl o ho c Q e1 e2).L (Uh h.k.toKv) (Un V)
end
section
variable{o:Kl}
theorem KP{α:Type}{f:α->Nat}:∀{l:List α},(l.map f).Nodup->∀x∈l,∀y∈l,f x=f y->x=y
 |[],_,x,hx,_,_,_=>mi hx
 |z::l,h,x,hx,y,hy,e=>by
  simp only[bj,bY]at h;obtain hx|hx:=bh.1 hx
  .obtain hy|hy:=bh.1 hy
   .rw[hx,hy]
   exact absurd (aD.2 ⟨y,hy,by rw[<-e,hx]⟩) h.1
  obtain hy|hy:=bh.1 hy
  .exact absurd (aD.2 ⟨x,hx,jS e hy⟩) h.1
  exact KP h.2 x hx y hy e
def tQ(h:Wk W)(H:c∈W.gK)(y:c'∈W.gK)(L:c.a=c'.a)(M:c.b=c'.b):c=c':=by
 obtain⟨A,Q,_⟩:=(h.ca c H).ac;have T:((W.gK.filter λx=>x.a==c.a).map (·.b)).Nodup:=by rw[((h.ac _ A Q).nm)];exact dU
 exact KP T c (aU.2 ⟨H,gG⟩) c' (aU.2 ⟨y,nN L⟩) M
def SI.Ny(h:SI S K F W){t:Ct}(Q:BQ S K a t):Ws W.gK t a:=by obtain⟨⟨T,A⟩,e,H,⟨g,l,V,L⟩,_⟩:=Q;have M:g∈K.C S e a:=yG V;have y:=(h.k.sd g (h.k.un H M)).rt a (h.k.D H M A.1 A.2) (jk L T);rw[L]at y;let⟨Y,Z,l1,l2,y⟩:=y;exact h.p0 _ _ _ y.p
def IB{t:Ct}(h:A9 o t a):t.kd=8\/t.kd=9:=by
 let⟨A,y⟩:=h;rw[A];obtain⟨y,_⟩|⟨y,_⟩:=y
 .left;unfold Kl.ie;rw[y];rfl
 right;unfold Kl.ie;rw[y];rfl
def qv(W:Wd):Prop:=∀(i:Nat) (c:Kl),W.gK[i]?=some c->c.value=if c.kind=1 then j4 i else []
def qv.nil(h:qv W)(y:c∈W.gK)(H:c.kind≠1):c.value=[]:=by obtain⟨i,A,e⟩:=aV.1 y;have:=h i c (by rw[<-e];exact ah A);simp_all
def qv.map{f:Kl->Kl}(h:qv W)(y:∀c,(f c).kind=c.kind/\(f c).value=c.value)(H:W'.gK=W.gK.map f):qv W':=λi c A=>by rw[H,aK]at A;obtain⟨d,L,rfl⟩:=bN.1 A;rw[(y d).1,(y d).2];exact h i d L
def qv.B(h:qv W)(y:W'.gK=W.gK):qv W':=λi c A=>h i c (jJ y A)
def NX(h:SI S K F W){m:Int}(H:sb K m)(V:0<m):∃o∈W.gK,o.kind=4/\m<=o.pos:=by
 let⟨e,A,L⟩:=H;let⟨g,l,M⟩:=bQ (h.k.ne A 0);have y:g∈K.C S e 0:=yG M;have Y:=(L g (h.k.zw A y)).1;obtain Z|⟨o,Q,T,h6⟩:=h.b _ ((h.k.sd g (h.k.un A y)).b)
 .omega
 exact⟨o,Q,T,C⟩
def SH(t)(c)(a):Ic c (c.B t a):=by
 let⟨y,A,H,L,M,Q,T⟩:=qc t c a;refine⟨⟨y,A,H,L,M,T⟩,λx V=>jk Q V,λY=>?_⟩;unfold Kl.B;split
 .simp
 split
 .split;all_goals simp_all
 simp
def CI(t)(c:Kl)(a):(c.B t a=c)\/∃A r,a=some A/\A.up=true/\A.X.c[c.b]?=some r/\r.wh≠0/\c.fin=0/\c.B t a={c with fin:=t,r:=r}:=by
 unfold Kl.B;split
 .simp
 rename_i A;split
 .rename_i y;split
  .exact .inl rfl
  rename_i r H;split
  .simp_all
  exact .inl rfl
 exact .inl rfl
def SI.ends(h:SI S K F W)(hw:Wk W)(hv:qv W){A:Ac}{r:Rz}(hc:c∈W.gK)(hA:W.ac[c.a]?=some A)(hr:A.X.c[c.b]?=some r)(a8:r.wh≠0)(hg:D7 W.gK W'.gK):Gi S K F W' {c with fin:=W.a+1,r:=r}:=by
 obtain⟨x1,x2⟩:=h.cl _ A hA;have hR:=x1.c _ _ hr a8;rw[x2]at hR;obtain⟨kind,ie,aa,Z,⟨q,hq,q1,q2,V,q4,q5,q6,q7⟩,z2,Y⟩:=id hR;have a9:q=c:=tQ hw hq hc q1 q2;subst a9;have a5:ie=q.ie:=by unfold Kl.ie;rw[q4,V]
 have hJ:=hg.J (W:=W) (W':=W') q.a;have a6:∀t a,BQ S K a t->∃o∈W'.gK,o.d<W.a+1/\A9 o t a:=λt a hf=>by obtain⟨o,ho,a2⟩:=h.Ny hf;let⟨o',a3,g⟩:=hg o ho;have:=(hw.ca o ho).bg;exact⟨o',a3,by rw[g.s.2.2.2.2.2];omega,g.Ny a2⟩
 have Q:∀t,xk S K Z t->t.kd=8\/t.kd=9:=λt hf=>by obtain⟨o,ho,a2⟩:=h.Ny (hf.fix h.k.toKv);exact IB a2
 refine⟨?_,λhb=>?_,λhk h4=>?_,λm hm=>?_⟩
 .exact hR.L h.k.toKv (kZ.refl ..) (uO.refl K _ _) hJ
 .have a4:∀t a,VI {q with fin:=W.a+1,r:=r} t a->BQ S K a t->(q.kind≠1->t.kd=8->xk S K a t)->∃t a o,(VI {q with fin:=W.a+1,r:=r} t a/\BQ S K a t/\(q.kind≠1->t.kd=8->xk S K a t))/\o∈W'.gK/\o.d<W.a+1/\A9 o t a:=λt a b1 b2 b3=>by let⟨o,o1,o2,o3⟩:=a6 t a b2;exact⟨t,a,o,⟨b1,b2,b3⟩,o1,o2,o3⟩
  obtain⟨b1,b2⟩|⟨b1,b2⟩:=hb
  .have M:q.kind=1:=b1;have T:r.wh=1:=b2;rw[<-V]at Y;obtain⟨_,_,z|z⟩|⟨z,_⟩|⟨z,_⟩|⟨z,_⟩:=Y
   .refine a4 ie Z (.inl ⟨b1,b2,a5,?_⟩) z.2.1 λe=>absurd M e;show Z=r.ad;rw[z.1]
   .rw[z.1]at T;exact absurd T gF
   .rw[M]at z;exact absurd z gF
   .rw[M]at z;exact absurd z gF
   rw[M]at z;exact absurd z gF
  have M:q.kind=2\/q.kind=3:=b1;have T:r.wh=8\/r.wh=9:=b2;have L:Z=q.pos:=q6 (by rw[<-V];obtain e|e:=M<;>simp[e]);rw[<-V]at Y;obtain⟨z,_⟩|⟨_,zo,z|z|z|z⟩|⟨z,_⟩|⟨z,_⟩:=Y
  .rw[z]at M;exact absurd M gF
  .let⟨t,t1,t2,t3⟩:=z;exact a4 t Z (.inr ⟨b1,t1,L,Q t t2⟩) (t2.fix h.k.toKv) λ_ _=>t2
  .rw[z.2.1]at T;exact absurd T gF
  .rw[z.1]at T;exact absurd T gF
  .have a0:ie.kd=9/\ie.val=[]:=by
    rw[q4];refine⟨?_,?_⟩
    .show(if kind=1 then(8:Int)else if kind=3 then 9 else 0)=9;rw[<-V,z.1];rfl
    exact hv.nil hc (mG z.1)
   refine a4 ie Z (.inr ⟨b1,?_,L,.inr a0.1⟩) z.2.2.1 λ_ e=>pS a0.1 e;show r=Cx.py ie;unfold Cx.py;rw[z.2.1,a0.1,a0.2]
  .rw[z]at M;exact absurd M gF
  rw[z]at M;exact absurd M gF
 .have y:q.kind=2\/q.kind=3:=hk;have H:r.wh=4:=h4;have L:Z=q.pos:=q6 (by rw[<-V];obtain e|e:=y<;>simp[e]);have ht:sb K (q.pos+1):=by
   rw[<-V]at Y;obtain⟨z,_⟩|⟨_,zo,z|z|z|z⟩|⟨z,_⟩|⟨z,_⟩:=Y
   .rw[z]at y;exact absurd y gF
   .let⟨t,t1,t2,t3⟩:=z;have:=Q t t2;rw[t1]at H;have a7:t.kd=4:=H;omega
   .rw[z.2.1]at H;exact absurd H gF
   .rw[<-L];exact z.2
   .rw[z.2.1]at H;exact absurd H gF
   .rw[z]at y;exact absurd y gF
   rw[z]at y;exact absurd y gF
  have ab:=(hw.ca q hc).po.1;let⟨o,o1,o2,o3⟩:=NX h ht C;let⟨o',a3,g⟩:=hg o o1;obtain⟨g1,g2,g3,g4,g5,g6⟩:=g.s;have:=(hw.ca o o1).bg;exact⟨o',a3,g3.H o2,by rw[g4];show q.pos<o.pos;omega,by rw[g6];show o.d<W.a+1;omega⟩
 obtain⟨m1,m2⟩|⟨m1,m2,m3⟩:=hm
 .have a1:q.kind=4:=m1;have L:Z=q.pos:=q6 (by rw[<-V];simp[a1]);rw[<-V]at Y;obtain⟨z,_⟩|⟨z,_⟩|⟨_,_,z⟩|⟨z,_⟩:=Y
  .rw[a1]at z;exact absurd z gF
  .rw[a1]at z;exact absurd z gF
  .rw[m2];show sb K q.pos;rw[<-L];exact z
  rw[a1]at z;exact absurd z gF
 have y:q.kind=2\/q.kind=3:=m1;have H:r.wh=4:=m2;have L:Z=q.pos:=q6 (by rw[<-V];obtain e|e:=y<;>simp[e]);rw[m3];show sb K (q.pos+1);rw[<-V]at Y;obtain⟨z,_⟩|⟨_,zo,z|z|z|z⟩|⟨z,_⟩|⟨z,_⟩:=Y
 .rw[z]at y;exact absurd y gF
 .let⟨t,t1,t2,t3⟩:=z;have:=Q t t2;rw[t1]at H;have a7:t.kd=4:=H;omega
 .rw[z.2.1]at H;exact absurd H gF
 .rw[<-L];exact z.2
 .rw[z.2.1]at H;exact absurd H gF
 .rw[z]at y;exact absurd y gF
 rw[z]at y;exact absurd y gF
def SI.js(h:SI S K F W)(hw:Wk W)(hv:qv W):SI S K F W.js/\qv W.js:=by
 have H:D7 W.gK W.js.gK:=λo Y=>⟨_,aD.2 ⟨o,Y,rfl⟩,SH _ _ _⟩;have hJ:=λi=>H.J (W:=W) (W':=W.js) i;refine⟨⟨h.s,h.k,h.nd,λi A hA=>⟨(h.cl i A hA).1.L h.k.toKv (kZ.refl ..) (λca=>uO.refl K _ ca) (Q9.refl K _) (hJ i),(h.cl i A hA).2⟩,h.nr,h.po,λt a e x=>H.Ny (h.p0 t a e x),λm x=>?_,λt x=>?_,h.a,λc Z hf=>?_,λo Y c Z e1 M=>?_⟩,hv.map (f:=λc=>c.B (W.a+1) W.ac[c.a]?) (λc=>?_) rfl⟩
 .obtain x|⟨o,h1,h2,h3⟩:=h.b m x
  .exact .inl x
  let⟨o',y,g⟩:=H o h1;obtain⟨g1,g2,g3,g4,g5,g6⟩:=g.s;exact .inr ⟨o',y,g3.H h2,jk g4 h3⟩
 .obtain⟨o,h1,h2,h3,a,h4,h5⟩:=h.fu t x;let⟨o',y,g⟩:=H o h1;exact⟨o',y,by rw[g.ie];exact h2,g.s.2.2.1.H h3,a,g.tk a h4,h5⟩
 .obtain⟨d,V,rfl⟩:=aD.1 Z;obtain e|⟨A,r,a1,a2,a3,a4,a5,e⟩:=CI (W.a+1) d W.ac[d.a]?
  .rw[e]at hf|-;have hE:=h.ca d V hf;exact hE.go h.k.toKv (kZ.refl ..) H (hE.r.L h.k.toKv (kZ.refl ..) (uO.refl K _ _) (hJ _))
  rw[e];exact h.ends hw hv V a1 a3 a4 H
 .obtain⟨d,V,rfl⟩:=aD.1 Y;obtain⟨Q,T,rfl⟩:=aD.1 Z;let⟨s1,s2,_,_,_,_,s7⟩:=qc (W.a+1) Q W.ac[Q.a]?;rw[s7]at M;rw[s1,s2];have hb:=(hw.ca Q T).bg;obtain e|⟨A,r,a1,a2,a3,a4,a5,e⟩:=CI (W.a+1) d W.ac[d.a]?
  .rw[e]at e1 M|-;exact h.fl d V Q T e1 M
  rw[e]at M;have:W.a+1<Q.d:=M;omega
 let⟨_,_,s3,_,s5,_⟩:=qc (W.a+1) c W.ac[c.a]?;exact⟨s3,s5⟩
def SI.plain(h:SI S K F W)(Y:(W'.n=W.n/\W'.m=W.m)/\W'.v=W.v/\W'.ce=W.ce)(Z:∀i P,W'.pl[i]?=some P->pA S K F W.ac i P)(h3:∀l∈W'.iA,wH S K F W.ac l)(y:W'.gK=W.gK)(H:W'.ac=W.ac):SI S K F W':=by
 obtain⟨L,s2,s3⟩:=h.s;let⟨M,w2,w3⟩:=Y;have Q:∀i,W'.J i=W.J i:=λi=>by unfold Wd.J;rw[y]
 refine⟨⟨⟨M.1.H L.1,M.2.H L.2⟩,w2.H s2,w3.H s3⟩,h.k,jk H Z,by rw[H];exact λi A hA=>by rw[Q];exact h.cl i A hA,by rw[H];exact h.nr,jk H h3,by rw[y];exact h.p0,by rw[y];exact h.b,by rw[y];exact h.fu,by rw[H];exact h.a,λc T hf=>?_,by rw[y];exact h.fl⟩;rw[y]at T;have V:=h.ca c T hf;refine V.go h.k.toKv (kZ.refl ..) (by rw[y];exact D7.refl _) ?_;rw[Q];exact V.r
end
section
variable{o:Kl}
def Ge(L:Wk W){A:Ac}(T:W.ac[i]?=some A)(y:A.up=true):∀c∈W.gK,c.a=i->c.fin≠0->A.X.c[c.b]?=some c.r/\c.r.wh≠0:=λc M e Q=>by obtain⟨B,H,Y,V⟩:=(L.ca c M).ac;rw[e,T]at H;simp at H;subst H;exact⟨V y Q,(L.ca c M).fw Q⟩
def SI.UA(h:SI S K F W)(kl:kZ S K K')(kw:Kw S K')(hP:K'.P0=K.P0)(hA:K'.b=K.b)(hM:∀m,K'.e m->K.e m\/m<=0\/∃c∈W'.gK,c.kind=4/\m<=c.pos)(hF:∀t,K'.Fu t->K.Fu t\/WD S W'.gK t)(h1:(W'.n=W.n/\W'.m=W.m)/\W'.v=W.v/\W'.ce=W.ce)(h2:∀i P,W'.pl[i]?=some P->pA S K' F' W.ac i P)(h3:∀l∈W'.iA,wH S K' F' W.ac l)(h5:W'.ac=W.ac)(hg:D7 W.gK W'.gK)(y:∀c'∈W'.gK,(c'.fin=0/\F' c'.a c'.b=K'.D)\/∃c∈W.gK,Ic c c'/\c'.fin=c.fin/\c'.r=c.r/\F' c.a c.b=F c.a c.b)(hx:∀(i:Nat) (A:Ac),W.ac[i]?=some A->(∀k,k<A.X.c.length->F' i k=F i k)/\∀c∈A.X.a,c.gU<A.X.c.length):SI S K' F' W':=by
 obtain⟨s1,s2,s3⟩:=h.s;let⟨w1,w2,w3⟩:=h1;have hp:∀cl ca:Int,uO K K' cl ca:=λcl ca t a e _ _ x=>jJ hP x;have ha:∀id,Q9 K K' id:=λid e b v x _=>jJ hA x;have hJ:=λi=>hg.J (W:=W) (W':=W') i;refine⟨⟨⟨w1.1.H s1.1,w1.2.H s1.2⟩,w2.H s2,w3.H s3⟩,kw,jk h5 h2,?_,by rw[h5];exact h.nr,jk h5 h3,λt a e x=>hg.Ny (h.p0 t a e (jJ hP x)),λm x=>?_,λt x=>?_,by rw[h5,hA];exact h.a,λc hc hf=>?_,λo ho c hc e1 e2=>?_⟩
 .rw[h5];intro i A hi;obtain⟨x1,x2⟩:=h.cl i A hi;let⟨f1,f2⟩:=hx i A hi;have x3:=x1.L h.k.toKv kl (λca=>hp _ ca) (ha _) (hJ i);refine⟨⟨x3.b,λc hc hP=>?_,λk r hr hw=>?_,x3.f,x3.nd,x3.mv⟩,x2⟩
  .rw[f1 _ (f2 c hc)];exact x3.d c hc hP
  rw[f1 k (aj.1 hr).1];exact x3.c k r hr hw
 .obtain x|x:=hM m x
  .obtain x|⟨o,o1,o2,o3⟩:=h.b m x
   .exact .inl x
   let⟨o',T,g⟩:=hg o o1;obtain⟨V,H,g3,g4,g5,g6⟩:=g.s;exact .inr ⟨o',T,g3.H o2,jk g4 o3⟩
  exact x
 .obtain x|x:=hF t x
  .obtain⟨o,o1,o2,o3,a,o4,o5⟩:=h.fu t x;let⟨o',T,g⟩:=hg o o1;exact⟨o',T,by rw[g.ie];exact o2,g.s.2.2.1.H o3,a,g.tk a o4,o5⟩
  exact x
 .obtain⟨n1,_⟩|⟨d,hd,g,V,H,g3⟩:=y c hc
  .exact absurd n1 hf
  have hE:=h.ca d hd (jJ V hf);obtain⟨k1,k2,M,k4,k5,k6⟩:=g.s;have a3:Rf S K' (F' d.a d.b) (W'.J d.a) (kg d.a) d.b d.r:=by rw[g3];exact hE.r.L h.k.toKv kl (hp _ _) (hJ _)
  have Q:Gi S K' F' W' d:=hE.go h.k.toKv kl hg a3;refine⟨by rw[k1,k2,H];exact Q.r,λY=>?_,λq1 q2=>?_,λm Z=>Q.tt m ?_⟩
  .have a0:UL d:=by unfold UL at Y|-;rwa[M,H]at Y
   obtain⟨t,a,o,⟨b1,b2,b3⟩,b4,b5,b6⟩:=Q.m a0;refine⟨t,a,o,⟨?_,b2,jk M b3⟩,b4,jk V b5,b6⟩;unfold VI at b1|-;rw[M,H,g.ie,k4];exact b1
  .rw[M]at q1;rw[H]at q2;obtain⟨o,o1,o2,o3,o4⟩:=Q.t q1 q2;exact⟨o,o1,o2,jk k4 o3,jk V o4⟩
  unfold VJ at Z|-;rwa[M,H,k4]at Z
 obtain⟨n1,_⟩|⟨d,hd,g,V,H,_⟩:=y o ho
 .exact absurd n1 e1
 obtain⟨k1,k2,M,k4,k5,k6⟩:=g.s;have a1:d.fin≠0:=jJ V e1;have a2:∀{K:Kn},UX S K d->UX S K o:=fun{K} hh=>⟨λY=>by
  have a0:UL d:=by unfold UL at Y|-;rwa[M,H]at Y
  obtain⟨t,a,b1,b2⟩:=hh.b a0
  refine⟨t,a,?_,b2⟩
  unfold VI at b1|-
  rw[M,H,g.ie,k4];exact b1,λm Z=>hh.t m (by
  unfold VJ at Z|-
  rwa[M,H,k4]at Z)⟩
 refine a2 ?_;obtain⟨_,n2⟩|⟨q,hq,gq,_,_,q3⟩:=y c hc
 .rw[n2];exact(h.ca d hd a1).Ya.L h.k.toKv kl
 obtain⟨z1,z2,_,_,_,z6⟩:=gq.s;rw[z1,z2,q3];exact(h.fl d hd q hq a1 (by rw[<-V,<-z6];exact e2)).L (Uh h.k.toKv) (Un kl)
end
section
variable{o:Kl}
def SI.T8(h:SI S K F W)(M:Wk W)(Q:kZ S K K')(T:Kw S K')(V:K'.P0=K.P0)(y:K'.b=K.b)(Y:K'.e=K.e)(hF:K'.Fu=K.Fu)(Z:(W'.n=W.n/\W'.m=W.m)/\W'.v=W.v/\W'.ce=W.ce)(h2:∀i P,W'.pl[i]?=some P->pA S K' F W.ac i P)(h3:∀l∈W'.iA,wH S K' F W.ac l)(L:W'.gK=W.gK)(h5:W'.ac=W.ac):SI S K' F W':=
 h.UA Q T V y (λm x=>.inl (jJ Y x)) (λt x=>.inl (by rw[<-hF];exact x)) Z h2 h3 h5 (by rw[L];exact D7.refl _) (by rw[L];exact λc H=>.inr ⟨c,H,Ic.refl c,rfl,rfl,rfl⟩) λi A y=>⟨λ_ _=>rfl,λc H=>(M.ac i A y).x.a.lt c H⟩
def J4(S:Cf){x:Int}(y:nL S.n S.m x)(A:oj S.v x):False:=by have:=uP S.A.1.2 S.A.2.1.2;unfold nL at y;unfold oj at A;omega
def OU(S:Cf)(h:jZ S.n S.m i=jZ S.n S.m j):i=j:=by have:=uP S.A.1.2 S.A.2.1.2;unfold jZ at h;omega
def MN(h:nL S.n S.m i):jZ S.n S.m i=i:=by unfold jZ;rw[aE (by unfold nL at h;have:=h.2;exact_mod_cast this)]
def XI.jL{F:Nat->Fl}{J:Jq}(h:XI S K F J (λ_=>True) X)(kw:Kw S K)(hx:Xk b X)(V:LM X):∀z∈X.jL,Wi X z.2/\(nL S.n S.m z.1->Td S K z.1 z.2)/\(oj S.v z.1->VO K z.2):=by
 have Z:=h.b;have Y:∀{α:Type} (q:Qn α) (z:Int×Rq),z∈q.jL->z.1∈q.nodes/\z.2=q.A:=λq z hz=>by
  unfold Qn.jL at hz;split at hz
  .obtain⟨nd,h1,rfl⟩:=aD.1 hz;exact⟨(aU.1 h1).1,rfl⟩
  simp at hz
 have a0:∀(q:Qn An) (u:Int),T5 K q->u∈q.nodes->Td S K u q.A:=λq u hq hu=>by let⟨e1,e2⟩:=hq (bM hu);exact⟨e1.1,e1.2,λe=>pS e2 e,λe=>pS e2 e⟩
 intro z hz;unfold Cx.jL at hz;simp only[aT]at hz;obtain ((hz|hz)|hz)|hz:=hz
 .obtain⟨c,hc,hz⟩:=eB.1 hz;obtain⟨Q,z2⟩:=Y _ z hz;have y:c.q.nodes≠[]:=bM Q;have H:nL S.n S.m z.1:=by rw[<-Z.n,<-Z.m];exact(hx.d c hc).q.id _ Q
  rw[z2];refine⟨⟨V.c c hc y,λd hd L e=>?_,λT e=>absurd e.symm ((V.v T).2.1 c hc y)⟩,λ_=>(h.d c hc trivial).A kw.toKv Z.e Q,λM=>(J4 S H M).elim⟩;rw[hx.nk d hd c hc L y e]
 .obtain⟨Q,z2⟩:=Y _ z hz;have y:X.d.nodes≠[]:=bM Q;have H:nL S.n S.m z.1:=by rw[<-Z.n,<-Z.m];exact hx.pr.id _ Q
  rw[z2];exact⟨⟨(V.p y).1,λd hd L e=>absurd e ((V.p y).2 d hd L),λT e=>absurd e.symm ((V.v T).2.2.1 y)⟩,λ_=>a0 _ _ h.mv.pb Q,λM=>(J4 S H M).elim⟩
 .obtain⟨Q,z2⟩:=Y _ z hz;have y:X.mv.a.nodes≠[]:=bM Q;have H:nL S.n S.m z.1:=by rw[<-Z.n,<-Z.m];exact hx.sl.id _ Q
  rw[z2];exact⟨⟨(V.s y).1,λd hd L e=>absurd e ((V.s y).2 d hd L),λT e=>absurd e.symm ((V.v T).2.2.2 y)⟩,λ_=>a0 _ _ h.mv.sl Q,λM=>(J4 S H M).elim⟩
 obtain⟨Q,z2⟩:=Y _ z hz;have y:X.mv.A.nodes≠[]:=bM Q;have M:oj S.v z.1:=by rw[<-Z.v];exact hx.vt.id _ Q
 rw[z2];refine⟨⟨(V.v y).1,λd hd L e=>absurd e ((V.v y).2.1 d hd L),λ_ _=>rfl⟩,λH=>(J4 S H M).elim,λ_=>⟨by rw[h.mv.ep y];exact(h.mv.me y).2,λe6 hv=>?_⟩⟩;obtain⟨p1,p2,p3⟩:=h.mv.q6 y e6;rw[h.mv.ep y,p1,p2];exact p3 (jJ p2 hv)
theorem SI.kU(h:SI S K F W)(hw:Wk W)(k):∃K',SI S K' F (W.kU k)/\∀l,wH S K F W.ac l->wH S K' F (W.kU k).ac l:=by
 obtain⟨⟨s1,s2⟩,s3,s4⟩:=h.s;have Z:=h.cl.mv;unfold Wd.kU;split
 .split
  .exact⟨K,h,λ_ e=>e⟩
  rename_i P hP;split
  .have hN:=h.nd k P hP;let⟨a0,q,up,oB⟩:=P
   cases a0 with
   |unit ch s Y=>
    obtain⟨⟨g0,g1⟩,⟨t,g2⟩,g3,g4,g5,g6⟩:=id hN;have H:=pT g3;have a1:rb S.n ((k:Int)/S.m) (K.D k) s:=qB (rb.refl _ _) (jJ g2 g4) s (jJ g2 H);have M:kZ S K (K.vz k s):=wU a1;have gP:∀(i:Nat) (A:Ac),W.ac[i]?=some A->∃A',W.ac[i]?=some A'/\Qg A.X A'.X/\∀c∈A.X.a,F i c.gU=F i c.gU:=λi A T=>⟨A,T,Qg.refl _,λ_ _=>rfl⟩;refine⟨K.vz k s,h.T8 hw M (Tx h.k a1 (g5 s H)) rfl rfl rfl rfl ⟨⟨rfl,rfl⟩,rfl,rfl⟩ (λj Q hQ=>?_) (λl hl=>?_) rfl rfl,λl e=>e.L M Z⟩
    .have y:(W.pl.set k (Pl.mF ⟨.unit ch s Y,q,up,oB⟩))[j]?=some Q:=hQ;by_cases e:j=k
     .subst e;rw[aQ (aj.1 hP).1]at y;simp at y;subst y;refine⟨⟨g0,g1⟩,⟨[],?_⟩,rfl,gG,λx V=>?_,by simp[Pl.mF]⟩
      .show [s]=(if((j:Nat):Int)=j then s else K.D j)::[];rw[aE rfl]
      simp at V;subst V;exact(g5 x H).L M
     rw[aH (λe'=>e e'.symm)]at y;refine(h.nd j Q y).go M ?_ rfl (λ_ _ x=>x) h.k Z gP;show(if((j:Nat):Int)=k then s else K.D j)=K.D j;rw[az C]
    obtain hl|hl:=aT.1 hl
    .exact(h.po l hl).L M Z
    obtain⟨e,he,rfl⟩:=aD.1 hl;have:=(g6 e he).2;rw[s1,s2,MN g1];exact this
   |voter s Y=>
    obtain⟨g1,⟨t,g2⟩,g3,g4,g5,g6⟩:=id hN;have H:=pT g3;have rf:∀x:VS,rh x x:=λx e=>yj.refl _;have hD:∀x∈Y,rh (K.c (jZ S.n S.m k)) x:=λx V=>qB rf (jJ g2 g4) x (jJ g2 V);have hL:∀x∈Y,rh x s:=λx V=>uE rf g3 g4 x V;have M:kZ S K (K.su (jZ S.n S.m k) s Y):=vW h.k g1 (hD s H) hD;have gP:∀(i:Nat) (A:Ac),W.ac[i]?=some A->∃A',W.ac[i]?=some A'/\Qg A.X A'.X/\∀c∈A.X.a,F i c.gU=F i c.gU:=λi A T=>⟨A,T,Qg.refl _,λ_ _=>rfl⟩;refine⟨K.su (jZ S.n S.m k) s Y,h.T8 hw M (RJ h.k g1 (hD s H) hD hL H g5) rfl rfl rfl rfl ⟨⟨rfl,rfl⟩,rfl,rfl⟩ (λj Q hQ=>?_) (λl hl=>?_) rfl rfl,λl e=>e.L M Z⟩
    .have y:(W.pl.set k (Pl.mF ⟨.voter s Y,q,up,oB⟩))[j]?=some Q:=hQ;by_cases e:j=k
     .subst e;rw[aQ (aj.1 hP).1]at y;simp at y;subst y;refine⟨g1,⟨[],?_⟩,rfl,gG,λx V=>?_,by simp[Pl.mF]⟩
      .show [s]=(if jZ S.n S.m j=jZ S.n S.m j then s else K.c (jZ S.n S.m j))::[];rw[aE rfl]
      simp at V;subst V;exact(g5 x H).L M
     rw[aH (λe'=>e e'.symm)]at y;have a2:jZ S.n S.m j≠jZ S.n S.m k:=λe'=>e (OU S e');refine(h.nd j Q y).go M rfl ?_ (λe b x=>?_) h.k Z gP
     .show(if jZ S.n S.m j=jZ S.n S.m k then s else K.c (jZ S.n S.m j))=_;rw[az a2]
     obtain x|⟨x,_⟩:=x
     .exact x
     exact absurd x a2
    obtain hl|hl:=aT.1 hl
    .exact(h.po l hl).L M Z
    obtain⟨e,he,rfl⟩:=aD.1 hl;have:=(g6 e he).2;rw[s1,s2];exact this
  exact⟨K,h,λ_ e=>e⟩
 split
 .exact⟨K,h,λ_ e=>e⟩
 rename_i A T;split
 .rename_i a5;have a3:=h.cl _ A T;have a6:=(hw.ac _ A T).x;have a4:∀l∈W.iA++A.X.jL.map λz=>(⟨kg (k-W.pl.length),z.1,.req z.2⟩:Le),wH S K F W.ac l:=λl hl=>by
   obtain hl|hl:=aT.1 hl
   .exact h.po l hl
   obtain⟨z,hz,rfl⟩:=aD.1 hl;obtain⟨o1,o2,o3⟩:=a3.1.jL h.k a6 (h.nr _ A T) z hz;exact⟨_,A,rfl,T,o1,o2,o3⟩
  have h0:SI S K F {W with iA:=W.iA++A.X.jL.map (λz=>(⟨kg (k-W.pl.length),z.1,.req z.2⟩:Le))}:=h.plain ⟨⟨rfl,rfl⟩,rfl,rfl⟩ h.nd a4 rfl rfl;obtain⟨K',k1,k2,k3⟩:=h0.act (W':={W with iN:=W.iN+1,ac:=W.ac.set (k-W.pl.length) {A with X:=A.X.mF},iA:=W.iA++A.X.jL.map (λz=>(⟨kg (k-W.pl.length),z.1,.req z.2⟩:Le))}) (i:=k-W.pl.length) (A:=A) T (OD (G:=G0) a3.1 h.k) (λ_ _ e=>e.elim) rfl (λ_ _ e _=>e) (Ge hw T a5) ⟨⟨rfl,rfl⟩,rfl,rfl⟩ rfl rfl rfl (λj=>by
   show(W.ac.set _ _)[j]?=_
   by_cases e:j=k-W.pl.length
   .rw[aE e,e,aQ (aj.1 T).1]
   .rw[az e,aH (λe'=>e e'.symm)])
  exact⟨K',k2,k3⟩
 exact⟨K,h,λ_ e=>e⟩
end
def Sf(S:Cf)(W:Wd):Prop:=∃K F,SI S K F W/\qv W
section
variable{o:Kl}
theorem FF(W:Wd)(l)(j):(W.ox l).pl[j]?=(W.pl[j]?).map λP=>if jZ W.n W.m j=l.tt/\P.up=true then P.recv W.n W.m W.v W.ce l.fr l.pk else P:=by
 show(W.qS l W.pl.length)[j]?=_;rw[pf]
 cases e:W.pl[j]? with
 |none=>rfl
 |some P=>have y:=(aj.1 e).1;simp_all
theorem EV(W:Wd)(l)(j):(W.ox l).ac[j]?=(W.ac[j]?).map λA=>if kg j=l.tt/\A.up=true then{A with X:=A.X.recv l.fr l.pk}else A:=by
 show(W.sr l W.ac.length)[j]?=_;rw[oJ]
 cases e:W.ac[j]? with
 |none=>rfl
 |some P=>have y:=(aj.1 e).1;simp_all
theorem TM{A:Ac}(h:SI S K F W)(T:W.ac[i]?=some A)(Y:Xk b A.X)(Z:wH S K F W.ac l)(Q:kg i=l.tt)(hp:∀nr B,l.pk=.rep nr B->DC b B)(hv:∀nr L v,l.pk=.vot nr L v->(0<=L/\L<=b.E+1)/\Bg b v):Dq S K (F i) (W.J i) G0 A.X (A.X.recv l.fr l.pk):=by
 have y:=(h.cl i A T).1;let⟨fr,tt,pk⟩:=l
 cases pk with
 |req r=>exact Dq.B y h.k
 |noi ds=>exact Dq.B y h.k
 |rep nr B=>let⟨j,B',V,H,M⟩:=Z;have:i=j:=qK (Q.H V);subst this;rw[T]at H;simp at H;subst H;exact JA y h.k Y (hp nr B rfl) M.e5 M.c
 |vot nr L v=>let⟨j,B',V,H,M⟩:=Z;have:i=j:=qK (Q.H V);subst this;rw[T]at H;simp at H;subst H;exact QI y h.k Y (hv nr L v rfl).2 (hv nr L v rfl).1 M.tl M.na M.v
theorem SI.ox(h:SI S K F W)(L:Wk W)(hl:wH S K F W.ac l)(Z:uH (W.A 0) W.n W.m W.v l):∃K',SI S K' F (W.ox l)/\∀l',wH S K F W.ac l'->wH S K' F (W.ox l).ac l':=by
 obtain⟨⟨s1,s2⟩,s3,s4⟩:=h.s;by_cases M:∃i A,W.ac[i]?=some A/\kg i=l.tt/\A.up=true
 .let⟨i,A,T,y,V⟩:=M;have H:=L.ac i A T;obtain⟨r1,r2⟩:=H.recv Z;obtain⟨a1,a2⟩:=Z.B (W.A i) (sW W W 0 i jl jl);have gP:(A.X.recv l.fr l.pk).id=A.X.id:=by have e1:=r1.c.2.2.2;have e2:=H.x.c.2.2.2;exact e1.H e2.symm
  have a0:(W.ox l).pl=W.pl:=by
   apply bJ;intro j;rw[FF]
   cases e:W.pl[j]? with
   |none=>rfl
   |some P=>simp only[bG];rw[az];rintro⟨q,_⟩;have hj:=(aj.1 e).1;have a3:=L.pl;have a4:=L.v1;have:=uP L.n1.2 L.m1.2;rw[<-y]at q;unfold jZ kg at q;split at q<;>omega
  obtain⟨K',k1,k2,k3⟩:=h.act (W':=W.ox l) T (TM h T H.x hl y a1 a2) (λ_ _ e=>e.elim) gP r2.oL (Ge L T V) ⟨⟨rfl,rfl⟩,rfl,rfl⟩ a0 rfl rfl (λj=>by
   rw[EV]
   by_cases e:j=i
   .rw[aE e,e,T]
    simp only[bG]
    rw[aE ⟨y,V⟩]
   .rw[az e]
    cases e2:W.ac[j]? with
    |none=>rfl
    |some B=>
     simp only[bG]
     rw[az]
     rintro⟨q,_⟩
     exact e (qK (q.H y.symm)))
  exact⟨K',k2,k3⟩
 have Y:(W.ox l).ac=W.ac:=by
  apply bJ;intro j;rw[EV]
  cases e:W.ac[j]? with
  |none=>rfl
  |some B=>simp only[bG];rw[az];rintro⟨q1,q2⟩;exact M ⟨j,B,e,q1,q2⟩
 refine⟨K,h.plain ⟨⟨rfl,rfl⟩,rfl,rfl⟩ (λj P hP=>?_) h.po rfl Y,by rw[Y];exact λ_ e=>e⟩;rw[FF]at hP;obtain⟨Q,hQ,e⟩:=bN.1 hP;have hN:=h.nd j Q hQ;by_cases q:jZ W.n W.m j=l.tt/\Q.up=true
 .rw[aE q]at e;rw[<-e,s1,s2,s3,s4];rw[s1,s2,s3]at Z;rw[s1,s2]at q;exact hN.recv h.k h.cl hl Z q.1
 rw[az q]at e;rw[<-e];exact hN
def SI.lS(h:SI S K F W)(y:Wk W)(A:qv W)(L:wH S K F W.ac l)(H:uH (W.A 0) W.n W.m W.v l):∃K',SI S K' F (W.lS l)/\qv (W.lS l)/\∀l',wH S K F W.ac l'->wH S K' F (W.lS l).ac l':=by
 unfold Wd.lS;split
 .exact⟨K,h.plain ⟨⟨rfl,rfl⟩,rfl,rfl⟩ h.nd h.po rfl rfl,A,λ_ e=>e⟩
 obtain⟨K',M,Q⟩:=h.ox y L H;obtain⟨T,w2⟩:=M.js (y.ox H) A;exact⟨K',T,w2,Q⟩
theorem vJ{l:List Ac}{A:Ac}(y:l[i]?=some A)(X)(j):(l.modify i λB=>{B with X:=X})[j]?=if j=i then some {A with X:=X}else l[j]?:=by
 rw[bS];by_cases e:j=i
 .simp_all
 rw[az e];have e':¬i=j:=λq=>e q.symm
 cases l[j]? with
 |none=>rfl
 |some B=>simp[e']
def SI.kO(h:SI S K F W)(M:Wk W)(i):∃K',kZ S K K'/\SI S K' F (W.kO i):=by
 unfold Wd.kO;split
 .exact⟨K,kZ.refl ..,h⟩
 rename_i A y;split
 .rename_i L;have H:=M.ac i A y;obtain⟨Q,T⟩:=H.nM;obtain⟨K',V,Y,_⟩:=h.act (W':=W.qi i A.X.nM) y (Ql (G:=G0) (h.cl i A y).1 h.k) (λ_ _ e=>e.elim) (Q.c.2.2.2.H H.x.c.2.2.2.symm) T.oL (Ge M y L) ⟨⟨rfl,rfl⟩,rfl,rfl⟩ rfl rfl rfl (λj=>by exact vJ y _ j)
  exact⟨K',V,Y⟩
 exact⟨K,kZ.refl ..,h⟩
theorem pA.px(h:pA S K F ac i P)(V:j<P.part.hl):pA S K F ac i (P.px j):=by
 let⟨A,q,up,oB⟩:=P
 cases A with
 |unit ch s H=>obtain⟨Y,⟨t,L⟩,Z,M,Q,g6⟩:=h;have y:j<H.length:=V;refine⟨Y,⟨t.take j,by rw[L];rfl⟩,?_,M.sublist (ed _ _),λx T=>Q x (cQ T),by simp[Pl.px]⟩;rw[fO,bH,aS,ah y,show min (j+1) H.length-1=j by omega,dX C,ah y];rfl
 |voter s H=>obtain⟨g1,⟨t,L⟩,Z,M,Q,g6⟩:=h;have y:j<H.length:=V;refine⟨g1,⟨t.take j,by rw[L];rfl⟩,?_,M.sublist (ed _ _),λx T=>Q x (cQ T),by simp[Pl.px]⟩;rw[fO,bH,aS,ah y,show min (j+1) H.length-1=j by omega,dX C,ah y];rfl
def pA.flag{Q:Pl}(h:pA S K F ac i P)(A:Q.part=P.part/\Q.q=P.q):pA S K F ac i Q:=by let⟨y,q,M,T⟩:=P;let⟨H,L⟩:=A;subst H;subst L;exact h
def SI.kS(h:SI S K F W):SI S K F W.kS:=by
 obtain⟨⟨V,Y⟩,Z,s4⟩:=h.s;unfold Wd.kS;split
 .exact h
 rename_i ja;have hg:∀(i:Nat) (A:Ac),W.ac[i]?=some A->∃A',(W.ac++[⟨Cx.new W.n W.m W.v W.ce (kg W.ac.length),true⟩])[i]?=some A'/\Qg A.X A'.X/\∀c∈A.X.a,F i c.gU=F i c.gU:=λi A H=>⟨A,by rw[aB (aj.1 H).1];exact H,Qg.refl _,λ_ _=>rfl⟩;have L:∀(i:Nat) (A:Ac),(W.ac++[⟨Cx.new W.n W.m W.v W.ce (kg W.ac.length),true⟩])[i]?=some A->W.ac[i]?=some A\/(i=W.ac.length/\A.X=Cx.new W.n W.m W.v W.ce (kg W.ac.length)):=λi A H=>by
  by_cases e:i<W.ac.length
  .rw[aB e]at H;exact .inl H
  rw[aC C]at H;have hi:=(aj.1 H).1;simp at hi;have M:i=W.ac.length:=C;rw[M]at H;simp at H;exact .inr ⟨M,by rw[<-H]⟩
 refine⟨⟨⟨V,Y⟩,Z,s4⟩,h.k,λj P hP=>(h.nd j P hP).go (kZ.refl ..) rfl rfl (λ_ _ x=>x) h.k h.cl.mv hg,λi A H=>?_,λi A H=>?_,λl hl=>(h.po l hl).go (kZ.refl ..) h.cl.mv hg,h.p0,h.b,h.fu,λe b v x=>?_,λc hc hf=>?_,h.fl⟩
 .obtain H|⟨e,Q⟩:=L i A H
  .exact h.cl i A H
  rw[Q,e,V,Y,Z,s4];refine⟨SR h.k (by unfold kg;omega) λe b v x y=>?_,rfl⟩;obtain⟨j,j1,T⟩:=h.a e b v x;unfold kg at T y;omega
 .obtain H|⟨e,Q⟩:=L i A H
  .exact h.nr i A H
  rw[Q];exact⟨by simp[Cx.new],λe=>absurd rfl e,λe=>absurd rfl e,λe=>absurd rfl e⟩
 .obtain⟨j,j1,T⟩:=h.a e b v x;exact⟨j,by show j<(W.ac++_).length;simp;omega,T⟩
 have hE:=h.ca c hc hf;exact hE.go h.k.toKv (kZ.refl ..) (D7.refl _) hE.r
end
structure jB(P:Nat->Prop)(w:World)(gH:Nat->Nat)(w':World)(gI:Nat->Nat):Prop where
 only:gL (λb=>P (gH b)) w w'
 gH:∀b,b<w.heap.size->gI b=gH b
section
variable{P Q:Nat->Prop}{w2:World}{gI tag2:Nat->Nat}
def jB.refl:jB P w gH w gH:=⟨ug,λ_ _=>rfl⟩
def jB.H(h:jB P w gH w' gI)(k:jB P w' gI w2 tag2):jB P w gH w2 tag2:=
 ⟨⟨k.only.os.H h.only.os,k.only.tape.H h.only.tape,k.only.output.H h.only.output,aF h.only.size k.only.size,λi y A=>by
  rw[k.only.block i (af y h.only.size) (by rw[h.gH i y];exact A),h.only.block i y A]⟩,
  λb L=>(k.gH b (af L h.only.size)).H (h.gH b L)⟩
def jB.L(h:jB P w gH w' gI)(y:∀t,P t->Q t):jB Q w gH w' gI:=⟨h.only.L λ_ _ e=>y _ e,h.gH⟩
def jB.B(h:Bl w w')(t):jB P w gH w' (iq gH w.heap.size t):=⟨gL.B h,λ_ y=>gV _ _ _ _ y⟩
def jB.A(h:Bl w w')(y:∀b,b<w.heap.size->gI b=gH b):jB P w gH w' gI:=⟨gL.B h,y⟩
def jB.size(h:jB P w gH w' gI):w.heap.size<=w'.heap.size:=h.only.size
def jB.heap(h:jB P w gH w' gI){b:Nat}{o:Obj}(y:w.heap[b]?=some o)(A:gH b=t)(M:¬P t):w'.heap[b]?=some o/\gI b=t:=by have L:=(ae.1 y).1;exact⟨(h.only.block b L (jk A M)).H y,(h.gH b L).H A⟩
structure mC(w:World)(gH:Nat->Nat)(t:Nat)(e:TypeId)(sz:Nat)(v:Value)(n:Nat)(xs:List Value):Prop where
 ie:w.ownsRow 0 e sz v n xs
 gH:∀b,v.ownBlock=some b->gH b=t
def mC.nil(t)(e)(sz):mC w gH t e sz OO 0 []:=⟨mT,λb y=>ny y⟩
def mC.A(h:mC w gH t e sz v n xs)(k:jB P w gH w' gI)(A:¬P t):mC w' gI t e sz v n xs:=
 ⟨k.only.iX h.ie λb y L=>A (by rw[<-h.gH b y];exact L),λb y=>(k.gH b (h.ie.lt b y).2).H (h.gH b y)⟩
def mC.B(h:mC w gH t e sz v n xs):∃a c,v=gN a n c:=by obtain⟨e,e'⟩|⟨g,cap,y,e,_⟩:=h.ie.2;all_goals simp_all
def mC.block(h:mC w gH t e sz v n xs)(T:0<n):∃g cap y,v=gN (G g) n cap/\gH g=t/\g<w.heap.size/\w.heap[g]?=some (im y e (0,0))/\n<=cap/\cap<=maxLen:=by
 obtain⟨e,e'⟩|⟨g,cap,y,e,_,A,H,L,_⟩:=h.ie.2
 .omega
 subst e;exact⟨g,cap,y,rfl,h.gH g rfl,(λb M=>(h.ie.lt b M).2) g rfl,A,H,L⟩
def mC.cells{cap:Nat}{a:Option Addr}(h:mC w gH t e sz (gN a n cap) n xs)(A:0<n):∃g,a=G g/\gH g=t/\g<w.heap.size/\(∀j,j<n*sz->w.cell? (U g j)=xs[j]?)/\∀j,w.frozen? (U g j)=false:=by obtain⟨g,y,H,L,M,T,V,_⟩:=h.block A;obtain⟨rfl,rfl⟩:=L;exact⟨g,rfl,M,T,λj Y=>h.ie.cellAt j Y,λj=>aP w g j _ _ V⟩
def Rd.A(h:Rd w gH t e v cs)(k:jB P w gH w' gI)(y:¬P t):Rd w' gI t e v cs:=
 h.only k.only (λ_ _ e e'=>y (e'▸e)) λb A e=>(k.gH b A).H e
def Nd.A{tg y A:Nat}{b c d:Int}{N:Pn}{q:List Qz}(h:Nd w gH tg y A g a b c d N q)(k:jB P w gH w' gI)(H:¬P tg)(L:¬P y)(M:¬P A):Nd w' gI tg y A g a b c d N q:=
 h.only k.only (λ_ _ e=>⟨λe'=>H (e'▸e),λe'=>L (e'▸e),λe'=>M (e'▸e)⟩) k.gH
def Cl.A(h:Cl w gH t p qb X)(k:jB P w gH w' gI)(y:∀s,t<=s->s<t+32->¬P s):Cl w' gI t p qb X:=
 h.only k.only (λb _ e=>by
  by_cases A:gH b<t
  .omega
  .by_cases H:gH b<t+32
   .simp_all
   .exact .inr C) k.gH
def CS.A(h:CS w gH t p qb X' w'):∃gI,jB (Mc t) w gH w' gI/\Cl w' gI t p qb X':=by let⟨gI,y,A,H⟩:=h;exact⟨gI,⟨H,y⟩,A⟩
def Pn.ab(k0:Nat):Pn->vC->Prop
 | .unit ch rs S,.unit ch' s h=>ch'=ch/\k0<=rs.length/\s=S rs.length/\(((List.range (rs.length+1)).drop k0).map S).Sublist h
 | .voter rs S,.voter s h=>k0<=rs.length/\s=⟨S rs.length,pj rs⟩/\(((List.range (rs.length+1)).drop k0).map λk=>VS.mk (S k) (pj (rs.take k))).Sublist h
 |_,_=>False
def yU(w:World)(gH:Nat->Nat)(n m v ce i gi iN mk:Nat)(P:Pl):Prop:=
 ∃N k0,Nd w gH (10+3*i) (11+3*i) (12+3*i) gi n m v ce N (P.q.map Qe.z)/\N.of n m v ce (jZ n m i)/\N.ab k0 P.part/\mk=off N.A k0/\N.jt.length<=300*iN/\N.A.length<=iN
def yU.A{v:Nat}{p:Pl}(h:yU w gH n m v ce i gi iN mk p)(k:jB P w gH w' gI)(y:¬P (10+3*i))(A:¬P (11+3*i))(H:¬P (12+3*i)):yU w' gI n m v ce i gi iN mk p:=by let⟨N,k0,L,M⟩:=h;exact⟨N,k0,L.A k y A H,M⟩
def yU.later{v y:Nat}{p:Pl}(h:yU w gH n m v ce i gi iN mk p)(A:iN<=y):yU w gH n m v ce i gi y mk p:=by let⟨N,k0,H,L,M,T,V,Y⟩:=h;exact⟨N,k0,H,L,M,T,aF V (gA _ A),aF Y A⟩
def Ib(ps:List Value)(n m i gi mk:Nat)(up oB:Bool):Prop:=ps[i*5]?=some (I (jZ n m i))/\ps[i*5+1]?=some (O gi)/\ps[i*5+2]?=some (I mk)/\ps[i*5+3]?=some (.bool up)/\ps[i*5+4]?=some (.bool oB)
structure IY(w:World)(gH:Nat->Nat)(n m v ce iN:Nat)(pl:List Pl)(pv:Value)(ps:List Value):Prop where
 row:mC w gH 2 72 5 pv pl.length ps
 pl:∀(i:Nat) (P:Pl),pl[i]?=some P->∃gi mk,Ib ps n m i gi mk P.up P.oB/\yU w gH n m v ce i gi iN mk P
def IY.A{v:Nat}(h:IY w gH n m v ce iN pl pv ps)(k:jB P w gH w' gI)(H:¬P 2)(y:∀t,10<=t->t<10+3*pl.length->¬P t):IY w' gI n m v ce iN pl pv ps:=
 ⟨h.row.A k H,λi p A=>by
  obtain⟨g,mk,L,M⟩:=h.pl i p A
  have:=(aj.1 A).1
  exact⟨g,mk,L,M.A k (y _ C C) (y _ C C) (y _ C C)⟩⟩
def IY.later{v y:Nat}(h:IY w gH n m v ce iN pl pv ps)(A:iN<=y):IY w gH n m v ce y pl pv ps:=
 ⟨h.row,λi p H=>by
  obtain⟨g,mk,L,M⟩:=h.pl i p H
  exact⟨g,mk,L,M.later A⟩⟩
def Oa(aw:List Value)(i p:Nat)(up:Bool):Prop:=aw[i*3]?=some (I (kg i))/\aw[i*3+1]?=some (O p)/\aw[i*3+2]?=some (.bool up)
structure RY(w:World)(gH:Nat->Nat)(ac:List Ac)(av:Value)(aw:List Value):Prop where
 row:mC w gH 3 129 3 av ac.length aw
 ac:∀(i:Nat) (A:Ac),ac[i]?=some A->∃p qb,Oa aw i p A.up/\Cl w gH (100+32*i) p qb A.X
def RY.A{y:Value}(h:RY w gH ac y aw)(k:jB P w gH w' gI)(L:¬P 3)(M:∀t,100<=t->t<100+32*ac.length->¬P t):RY w' gI ac y aw:=
 ⟨h.row.A k L,λi A H=>by
  obtain⟨p,qb,T,V⟩:=h.ac i A H
  have:=(aj.1 H).1
  exact⟨p,qb,T,V.A k λs Y Z=>M s C C⟩⟩
def KY(w:World)(gH:Nat->Nat)(cs:List Value)(i:Nat)(c:Kl):Prop:=∃tv rv,cs[i*11]?=some (I c.a)/\cs[i*11+1]?=some (I c.b)/\cs[i*11+2]?=some (I c.kind)/\cs[i*11+3]?=some (I c.pos)/\cs[i*11+4]?=some (.string (jq c.value))/\cs[i*11+5]?=some tv/\cs[i*11+6]?=some (I c.d)/\cs[i*11+7]?=some (I c.fin)/\cs[i*11+8]?=some (I c.r.wh)/\cs[i*11+9]?=some (I c.r.ad)/\cs[i*11+10]?=some rv/\mC w gH (1000+i) 3 1 tv c.c.length (c.c.map I)/\Rd w gH 99 5 rv (c.r.val.map B8)
structure qm(w:World)(gH:Nat->Nat)(gK:List Kl)(cv:Value)(cs:List Value):Prop where
 row:mC w gH 4 60 11 cv gK.length cs
 c:∀(i:Nat) (c:Kl),gK[i]?=some c->KY w gH cs i c
def KY.A(h:KY w gH cs i c)(k:jB P w gH w' gI)(M:¬P (1000+i))(T:¬P 99):KY w' gI cs i c:=by let⟨V,Y,Z,e2,e3,e4,e5,e6,e7,e8,e9,y,A,H,L⟩:=h;exact⟨V,Y,Z,e2,e3,e4,e5,e6,e7,e8,e9,y,A,H.A k M,L.A k T⟩
def qm.A{y:Value}(h:qm w gH gK y cs)(k:jB P w gH w' gI)(H:¬P 4)(L:¬P 99)(M:∀t,1000<=t->¬P t):qm w' gI gK y cs:=
 ⟨h.row.A k H,λi c T=>(h.c i c T).A k (M _ C) L⟩
structure so(w:World)(gH:Nat->Nat)(tp:Nat)(iA:List Le)(lv:Value)(ls:List Value):Prop where
 row:mC w gH tp 138 3 lv iA.length ls
 l:∀(j:Nat) (x:Le),iA[j]?=some x->ls[j*3]?=some (I x.fr)/\ls[j*3+1]?=some (I x.tt)/\∃dv,ls[j*3+2]?=some dv/\Rd w gH 98 5 dv (x.pk.bytes.map B8)
def so.nil(tp):so w gH tp [] OO []:=⟨mC.nil _ _ _,λj x h=>mi h⟩
def so.A{y:Nat}{A:Value}(h:so w gH y iA A ls)(k:jB P w gH w' gI)(H:¬P y)(L:¬P 98):so w' gI y iA A ls:=
 ⟨h.row.A k H,λj x M=>by
  obtain⟨T,V,Y,Z,e4⟩:=h.l j x M
  exact⟨T,V,Y,Z,e4.A k L⟩⟩
structure WV where
 pv:Value
 av:Value
 lv:Value
 cv:Value
 hv:Value
 mv:Value
 ps:List Value
 aw:List Value
 ls:List Value
 cs:List Value
 tp:Nat
def D6(W:Wd)(V:WV):List Value:=[I W.n,I W.m,I W.v,I W.ce,V.pv,V.av,V.lv,V.cv,I W.a,V.hv,V.mv]
structure jG(w:World)(gH:Nat->Nat)(g:Nat)(W:Wd)(V:WV):Prop where
 hg:w.heap[g]?=some (.cells (D6 W V).toArray 66 (0,0))
 tg:gH g=1
 a:IY w gH W.n W.m W.v W.ce W.iN W.pl V.pv V.ps
 B:RY w gH W.ac V.av V.aw
 ca:qm w gH W.gK V.cv V.cs
 po:so w gH V.tp W.iA V.lv V.ls
 ha:mC w gH 7 3 1 V.hv W.mw.length (W.mw.map I)
 ms:mC w gH 6 3 1 V.mv W.jT.length (W.jT.map I)
 b:W.pl.length<=14
 an:W.ac.length<=8
 ht:V.tp=8\/V.tp=97
def Wx(w:World)(gH:Nat->Nat)(g:Nat)(W:Wd):Prop:=∃V,jG w gH g W V
def PM(t:Nat):Prop:=t=0\/t=5\/t=9\/(52<=t/\t<97)\/(356<=t/\t<1000)
def jG.A{V:WV}(h:jG w gH g W V)(k:jB P w gH w' gI)(L:∀t,P t->PM t):jG w' gI g W V:=by have y:∀t,¬PM t->¬P t:=λt A H=>A (L t H);unfold PM at y;have A:=h.b;have H:=h.an;have M:=h.ht;exact⟨(k.heap h.hg h.tg (y 1 C)).1,(k.heap h.hg h.tg (y 1 C)).2,h.a.A k (y _ C) λt _ _=>y _ C,h.B.A k (y _ C) λt _ _=>y _ C,h.ca.A k (y _ C) (y _ C) λt _=>y _ C,h.po.A k (y _ C) (y _ C),h.ha.A k (y _ C),h.ms.A k (y _ C),A,H,M⟩
def jG.bl{V:WV}(h:jG w gH g W V)(y:Bl w w')(A:∀b,b<w.heap.size->gI b=gH b):jG w' gI g W V:=
 h.A (P:=λ_=>False) (jB.A y A) λ_ e=>e.elim
def jG.cellAt{V:WV}(h:jG w gH g W V)(o){u:Value}(y:(D6 W V)[o]?=some u):w.cell? (U g o)=some u:=by rw[ax w g o _ 66 _ h.hg];simpa using y
def jG.lt{V:WV}(h:jG w gH g W V):g<w.heap.size:=(ae.1 h.hg).1
def jG.M{V:WV}(h:jG w gH g W V)(i):w.frozen? (U g i)=false:=aP w g i _ 66 h.hg
end
def jG.R{T:Nat->Nat}{X:Wd}{Y:WV}(h:jG w T p X Y)(i j:Nat){a b:Value}(e:((D6 X Y)[i]?,(D6 X Y)[j]?)=(some a,some b)):w.cell? (U p i)=some a/\w.cell? (U p j)=some b:=by simp at e;exact⟨h.cellAt i e.1,h.cellAt j e.2⟩
def jG.Km{T:Nat->Nat}{X:Wd}{Y:WV}(h:jG w T p X Y)(i j k:Nat){a b c:Value}(e:((D6 X Y)[i]?,(D6 X Y)[j]?,(D6 X Y)[k]?)=(some a,some b,some c)):w.cell? (U p i)=some a/\w.cell? (U p j)=some b/\w.cell? (U p k)=some c:=by simp at e;exact⟨h.cellAt i e.1,h.cellAt j e.2.1,h.cellAt k e.2.2⟩
def jG.T{T:Nat->Nat}{X:Wd}{Y:WV}(h:jG w T p X Y)(i j k m:Nat){a b c d:Value}(e:((D6 X Y)[i]?,(D6 X Y)[j]?,(D6 X Y)[k]?,(D6 X Y)[m]?)=(some a,some b,some c,some d)):w.cell? (U p i)=some a/\w.cell? (U p j)=some b/\w.cell? (U p k)=some c/\w.cell? (U p m)=some d:=by simp at e;exact⟨h.cellAt i e.1,h.cellAt j e.2.1,h.cellAt k e.2.2.1,h.cellAt m e.2.2.2⟩
abbrev uv(p0)(p1:World):=iq p0 p1.heap.size 9
structure Sm(b:Bd):Prop where
 e:b.E<=100000000000000
 k:b.K<=100000000000000
 n:b.N<=10000000
 ba:b.B<=100000000000000
def Xk.QT(h:Xk b X)(s:Sm b):nf X:=by have H:=h.n1;have L:=h.m1;have M:=h.v1;have Q:=h.v2;have T:=h.c1;have A:=h.pJ;have V:=s.k;refine⟨?_,h.lay.1.H h.first.2.2.2.1,λch y=>⟨(h.sD y).2.1,(h.sD y).2.2.1⟩,A.1,C⟩;simp[nB];omega
def Xk.xn(h:Xk b X)(s:Sm b):XN X:=by have y:=h.e;have A:=h.t;have H:=s.e;exact⟨C,C⟩
def Xk.qs(h:Xk b X):Bn X:=by have A:=h.pr.nl;have H:=h.sl.nl;have L:=h.vt.nl;exact⟨C,C,C,λc y=>by have:=(h.d c y).q.nl;omega⟩
def Xk.us(h:Xk b X):A7 X:=λch y u A=>by have H:=(h.sD y).2.2.2 u A;unfold nL at H;have L:=uP h.n1.2 h.m1.2;omega
def Xk.Ld(h:Xk b X)(s:Sm b):X.c.length<=10000000:=by have y:=h.g;have A:=s.n;omega
def Xk.Xs(h:Xk b X):∀c∈X.a,Nq X c:=λc H=>by
 have y:=h.d c H;have:=y.q.nl;refine⟨y.kd,λL M Q=>⟨y.ad.1,y.a1 M Q ?_⟩,λe=>y.un e,C⟩;by_cases A:c.kind=1
 .left;intro e;have:=L A;simp[Cx.ml,A,Qn.T,e]at this
 omega
def Xk.XV(h:Xk b X)(s:Sm b):FQ X:=by have y:=h.me;have A:=h.t;have H:=h.pJ;have L:=s.e;have M:=s.k;have Q:=h.Ld s;exact⟨h.QT s,h.us,C,C,C,C,h.pl,h.Xs⟩
def Dp{α:Type}{R:Rq->Prop}{y:α->Prop}{q:Qn α}(h:QK R y iQ q):q.B.length<=q.nodes.length:=by
 have:=oq h.an (λx A=>by
  obtain⟨z,H,rfl⟩:=aD.1 A
  exact h.ai z H)
 simp_all
def Xk.X6(h:Xk b X):zO X:=by have H:=Dp h.sl;have L:=h.sl.nl;refine⟨λz y=>?_,C⟩;have A:=h.sl.id _ (h.sl.ai z y);unfold nL at A;have M:=uP h.n1.2 h.m1.2;omega
def VW(s:Sm b)(h:∀z∈zz,Bg b z.2)(A:zz.length<=100):G1 zz:=by
 have H:=s.ba;refine⟨λz y=>(h z y).a,λz y=>?_,λz y=>?_,A⟩
 .have:=(h z y).ba;exact rD C C
 have:=(h z y).pr;omega
def Xk.VW(h:Xk b X)(s:Sm b):G1 X.mv.A.B:=by have y:=Dp h.vt;have A:=h.vt.nl;exact Go.Proofs.YtbghhbpacijmmaaGreat.VW s h.vt.ak C
def Xk.XX(h:Xk b X)(s:Sm b):LF X:=by have y:=h.ba;have A:=s.ba;have H:=h.Ld s;have L:=h.bl;exact⟨h.QT s,h.us,h.X6,h.VW s,Go.Proofs.YtbghhbpacijmmaaGreat.VW s h.bg C,C,h.id,C,h.pl⟩
def Xk.Yn(h:Xk b X)(s:Sm b)(A:X.mv.A.A.kd=7)(y:X.mv.A.B≠[]):Pd X:=by have H:=h.ba;have L:=s.ba;have M:=h.sl.nl;exact⟨h.XV s,h.X6,C,h.VW s,A,y,C,h.id⟩
def Xg{α:Type}{R:Rq->Prop}{y:α->Prop}{q:Qn α}(h:QK R y iQ q):yD q:=by have A:=h.k0;have H:=h.nl;exact⟨C,C,h.v0,C⟩
def Xk.Yf(h:Xk b X):Vf X:=⟨Xg h.pr,Xg h.sl,Xg h.vt,λc y=>Xg (h.d c y).q⟩
def Xk.Yl(h:Xk b X)(s:Sm b){A:An}(Y:DC b A):Ve X fr nr A:=by
 have h1:=Y.ep;have h2:=s.e;refine⟨h.QT s,h.xn s,h.qs,h.nk,C,λV=>?_,λc hc V=>?_⟩
 .exact(h.vh (M:={X.mv with a:=X.mv.a.add fr A}) h.me h.mb (h.sl.add V Y) h.vt h.bg h.bl h.mv).XX s
 have L:=h.d c hc;have Z:=L.q.add V Y;obtain⟨_,H,_⟩:=Qn.oO.1 V;have Q:0<c.q.nodes.length:=cJ H;have hl:=Dp Z;have hn:=L.q.nl;have a1:(c.q.add fr A).B.length<=c.q.nodes.length:=hl;refine⟨⟨Q,by show c.q.nodes.length<=100;omega,by show(c.q.add fr A).B.length<=100;omega,?_⟩,λe=>⟨⟨L.ad.1,?_⟩,by have:=L.pl;show c.c<1000;omega⟩⟩
 .by_cases ja:(c.q.add fr A).B.length<c.q.nodes.length
  .exact .inl ja
  let⟨y,ys,hy⟩:=bQ (bM H);have T:=xb Z.an (λx hx=>by
   obtain⟨z,hz,rfl⟩:=aD.1 hx
   exact Z.ai z hz) (by rw[ay];show c.q.nodes.length<=_;omega) (show y∈c.q.nodes by rw[hy];exact aN ..)
  let⟨z,hz,a0⟩:=aD.1 T;refine .inr ⟨z,hz,?_⟩;show z.1=c.q.nodes.headD 0;rw[hy,a0];rfl
 obtain⟨g1,g2⟩:=L.c2 e;exact L.a1 C C (.inl (bM H))
def Sm.up(s:Sm b)(k:b.K+1<=100000000000000):Sm (b.up 1):=⟨s.e,k,s.n,s.ba⟩
def Xk.X9(h:Xk b X)(s:Sm b)(T:b.K+1<=100000000000000){H:Int}{v:Vo}(L:Bg b v)(V:0<=H/\H<=b.E+1):V0 X fr nr H v:=by
 have y:=h.iW V;have M:=s.up T;have Y:=s.e;have Z:=h.vt.nl;have h4:=y.vt.nl;refine⟨h.QT s,h.xn s,C,C,C,λA Q=>?_,λA Q=>?_,λA Q=>?_⟩
 .refine(y.M (L.L (b.A gF).toln) A).Yn M Q ?_;show(X.iW H).mv.A.B++[_]≠[];simp
 .exact(y.M (L.L (b.A gF).toln) A).XX M
 exact⟨(y.M (L.L (b.A gF).toln) A).XV M,y.mv.2⟩
def KT(h:∀n∈ns,0<=n/\n<=1000000000000000):∀n∈ns,(Lit.int .i64 n).wf=true:=λn y=>rD (h n y).1 (h n y).2
def PX.ok(h:PX b r)(s:Sm b):Rc.Ok nV ⟨r.kd,[r.ln,r.nr,r.ep,r.pl,r.ct.kd,r.ct.cl,r.ct.ca],r.ct.val⟩:=by
 have H:=h.kd;have M:=h.ct.vl;have L:=h.c0;have Q:=h.ln;have T:=h.nr;have V:=h.ep;have Y:=h.pl;have Z:=h.ct.kd;have a6:=h.ct.cl;have a7:=h.ct.ca;have s1:=s.e;have s2:=s.k;have s3:=s.n;refine⟨by show 0<=r.kd;omega,by show r.kd<=255;omega,gG,gG,by show r.ct.val.length<=255;omega,KT ?_,h.ct.a,?_⟩
 .intro n A;simp only[bh,dB,or_false]at A;obtain rfl|rfl|rfl|rfl|rfl|rfl|rfl:=A<;>omega
 have y:∀k:Int,r.kd=k->k≠2->(r.ct.val.length:Int)<=0:=λk e1 e2=>by rw[L C];simp
 obtain e|e|e|e:=H
 .exact⟨(1,7,0),by simp[nV],e.symm,rfl,y 1 e gF⟩
 .exact⟨(2,7,8),by simp[nV],e.symm,rfl,by show(r.ct.val.length:Int)<=8;omega⟩
 .exact⟨(3,7,0),by simp[nV],e.symm,rfl,y 3 e gF⟩
 exact⟨(4,7,0),by simp[nV],e.symm,rfl,y 4 e gF⟩
def PA.ok(h:PA b r)(s:Sm b):Rc.Ok nV ⟨r.kd,[r.ln,r.nr,r.ep,r.pl,r.ct.kd,r.ct.cl,r.ct.ca],r.ct.val⟩:=by
 have H:=h.kd;have L:=h.vl;have y:=h.v0;have M:=h.ln;have Q:=h.nr;have T:=h.ep;have V:=h.pl;have Y:=h.c0;have Z:=s.e;have s2:=s.k;have s3:=s.ba;refine⟨by show 0<=r.kd;omega,by show r.kd<=255;omega,gG,gG,L,KT ?_,h.a,?_⟩
 .intro n A;simp only[bh,dB,or_false]at A;obtain rfl|rfl|rfl|rfl|rfl|rfl|rfl:=A<;>omega
 obtain e|e|e:=H
 .exact⟨(5,7,0),by simp[nV],e.symm,rfl,by rw[y C];simp⟩
 .exact⟨(6,7,255),by simp[nV],e.symm,rfl,by show(r.ct.val.length:Int)<=255;omega⟩
 exact⟨(7,7,0),by simp[nV],e.symm,rfl,by rw[y C];simp⟩
def DC.ok{A:An}(h:DC b A)(s:Sm b)(y:0<=nr/\nr<=b.K):Rc.Ok xe ⟨101,[nr,A.wh,A.ep,A.mark,A.ct.kd,A.ct.cl,A.ct.ca],A.ct.val⟩:=by have H:=h.wh;have L:=h.ep;have M:=h.NC;have Q:=h.ct.kd;have T:=h.ct.cl;have V:=h.ct.ca;have Y:=h.ct.vl;have Z:=s.e;have s2:=s.k;have s3:=s.n;refine⟨by show(0:Int)<=101;omega,by show(101:Int)<=255;omega,gG,gG,by show A.ct.val.length<=255;omega,KT ?_,h.ct.a,⟨(101,7,8),by simp[xe],rfl,rfl,by show(A.ct.val.length:Int)<=8;omega⟩⟩;intro n y;simp at y;omega
def Bg.ok{v:Vo}(h:Bg b v)(s:Sm b){y:Int}(A:0<=nr/\nr<=b.K)(L:0<=y/\y<=b.E+1):Rc.Ok xm ⟨102,[nr,y,v.wh,v.pr,v.ba],v.val⟩:=by have M:=h.wh;have Q:=h.pr;have T:=h.ba;have H:=h.vl;have V:=s.e;have Y:=s.k;have Z:=s.ba;refine⟨by show(0:Int)<=102;omega,by show(102:Int)<=255;omega,gG,gG,H,KT ?_,h.a,⟨(102,5,255),by simp[xm],rfl,rfl,by show(v.val.length:Int)<=255;omega⟩⟩;intro n A;simp at A;omega
def GR(k0 n)(h:k0<=n+1):(List.range (n+2)).drop k0=(List.range (n+1)).drop k0++[n+1]:=by rw[dp,List.drop_append_of_le_length (iU h)]
def Ex{α:Type}{S S':Nat->α}{h:List α}(A:k0<=n+1)(L:(((List.range (n+1)).drop k0).map S).Sublist h)(H:∀k,k<=n->S' k=S k):(((List.range (n+2)).drop k0).map S').Sublist (h++[S' (n+1)]):=by
 rw[GR k0 n A,aZ];refine gD ?_ (dy _);rw[bf]
 .omega
 intro k y;have:=eC y;exact H k (gS (di.1 this))
def Ey{y:List Rc}(h:k0<=rs.length)(r)(e:y=rs++[r]):off y k0=off rs k0:=by unfold off;rw[e,ft h]
section
variable{v:Nat}
def JO{E:Int->Ep}{e:Int}{s:Ep}(h:mS E e s=E):E e=s:=by have:=congrFun h e;simp[mS]at this;simp_all
theorem Rn{A:List Rc}{S S':Nat->Int->Ep}{kd e pl:Int}{val:List Int}(hk:kd=5\/kd=6\/kd=7)(hw:pX rs S)(Y:pX A S')(hM:ve rs S A S')(L:S' A.length=(oD (S rs.length) kd e pl val).2):pj A=if(oD (S rs.length) kd e pl val).1.wh=1/\kd≠7 then max (pj rs) e else pj rs:=by
 have hl:=(hw.lt rs.length jl).2.1;rw[bZ]at hl;have y:((oD (S rs.length) kd e pl val).2=S rs.length/\¬((oD (S rs.length) kd e pl val).1.wh=1/\kd≠7))\/(∃s:Ep,(oD (S rs.length) kd e pl val).2=mS (S rs.length) e s/\s.pr≠0/\((oD (S rs.length) kd e pl val).1.wh=1/\kd≠7)):=by
  obtain rfl|rfl|rfl:=hk
  .unfold oD;rw[aE rfl];split
   .exact .inl ⟨rfl,λh=>absurd h.1 gG⟩
   rename_i hq;exact .inr ⟨_,rfl,by show pl≠0;omega,rfl,gF⟩
  .unfold oD;rw[az gF,aE rfl];split
   .exact .inl ⟨rfl,λh=>absurd h.1 gG⟩
   rename_i hq;exact .inr ⟨_,rfl,by show pl≠0;omega,rfl,gF⟩
  unfold oD;rw[az gF,az gF];exact .inl ⟨rfl,λh=>h.2 rfl⟩
 obtain⟨rfl,rfl⟩|⟨r,E',rfl,rfl⟩:=hM
 .obtain⟨_,c2⟩|⟨s,c1,c2,Z⟩:=y
  .rw[az c2]
  rw[aE Z];have:=JO (c1.symm.H L.symm);have M:=hl e (by rw[this];exact c2);omega
 have H:=Y.step rs.length gG;have e1:(rs++[r])[rs.length]' gG=r:=gG;have e2:T7 S rs.length E' rs.length=S rs.length:=by simp[T7]
 rw[e1,e2]at H;have e3:(rs++[r]).length=rs.length+1:=gG;rw[e3]at L;rw[FZ];generalize T7 S rs.length E' (rs.length+1)=En at H L;have Q:∀(e':Int) (t:Ep),En=mS (S rs.length) e' t->t≠S rs.length e'->r.ns.headD 0=e'->max (pj rs) (r.ns.headD 0)=if(oD (S rs.length) kd e pl val).1.wh=1/\kd≠7 then max (pj rs) e else pj rs:=λe' t V M h3=>by
  rw[h3];obtain⟨c1,c2⟩|⟨s,c1,c2,Z⟩:=y
  .exact absurd (JO (V.symm.H (L.H c1))).symm M
  rw[aE Z];by_cases ee:e'=e
  .rw[ee]
  have T:=congrFun (V.symm.H (L.H c1)) e';simp only[mS,aE,az ee]at T;exact absurd T M
 cases H with
 |prep e' b V M h3=>exact Q e' _ rfl (λh=>by have:=Z5 Ep.pr h;simp at this;omega) rfl
 |acc e' b ys V M h3 _ _ _ hne=>
  refine Q e' _ rfl (λh=>?_) rfl;have T:=Z5 Ep.ba h;have h5:=Z5 Ep.val h;simp at T h5;obtain hne|hne:=hne
  .exact hne T
  exact hne h5
end
section
variable{v:Nat}
def Ds(w:World)(dv:Value)(p:Pk):Prop:=match p with
 | .noi ds=>Nz w dv ds
 |p=>sP w dv p.bytes
theorem Ds.bl{H:Value}{p:Pk}(h:Ds w H p)(y:Bl w w'):Ds w' H p:=by
 cases p with
 |noi ds=>exact Nz.bl h y
 |req r=>exact sP.bl h y
 |rep nr A=>exact sP.bl h y
 |vot nr L u=>exact sP.bl h y
theorem yU.recv(h:yU w gH n m v ce i gi iN mk P)(hk:GG b n m v i P)(s:Sm b)(a3:n<=3/\m<=3)(av:300*iN<=1000000000000){tt:Int}{p:Pk}(hl:uH b n m v ⟨fr,tt,p⟩)(Y:jZ n m i=tt)(hi:i<14)(dv)(hd:Ds w dv p):iB 101 #[O gi,I fr,dv] w λen w'=>en=iw/\∃gI,jB (λt=>t=10+3*i\/t=11+3*i) w gH w' gI/\yU w' gI n m v ce i gi (iN+1) mk (P.recv n m v ce fr p):=by
 cases p with
 |noi ds=>refine gT (DE gi fr dv ds w hd) λw' hb=>?_;exact⟨rfl,gH,jB.A hb λ_ _=>rfl,(h.A (P:=λ_=>False) (jB.A hb λ_ _=>rfl) gG gG gG).later oC⟩
 |rep nr A=>have Z:=hl.1;change 1000<=tt at Z;rw[<-Y]at Z;unfold jZ at Z;split at Z<;>omega
 |vot nr lt u=>have Z:=hl.1;change 1000<=tt at Z;rw[<-Y]at Z;unfold jZ at Z;split at Z<;>omega
 |req r=>
  obtain⟨N,k0,hN,a0,a1,rfl,aa,ab⟩:=h;let⟨ai,Q⟩:=hl;let⟨j,hj,a6⟩:=ai;change fr=kg j at a6;have ak:1000<=fr:=by rw[a6];unfold kg;omega
  have al:fr<=1099:=by rw[a6];unfold kg;omega
  have b0:=hk.q.len;have am:=uP a3.1 a3.2;have aY:(n:Int)*m<=9:=by exact_mod_cast am
  simp only at Q;have an:(P.q.map Qe.z).length<=1000:=by rw[ay];omega
  have ad:SY r N:=by
   cases N with
   |unit ch rs S=>
    let⟨u1,_⟩:=a0;obtain⟨_,H⟩|⟨t1,_⟩:=Q
    .exact⟨H.ln,⟨H.kd,H.c2⟩,H.ok s,H.ct.a⟩
    rw[Y]at u1;unfold oj at t1;omega
   |voter rs S=>
    let⟨u1,_⟩:=a0;obtain⟨t1,_⟩|⟨_,H⟩:=Q
    .rw[Y]at u1;unfold nL at t1;omega
    exact⟨H.ln,H.kd,H.ok s,H.a⟩
  refine(Ox w gi fr dv _ (PK hN C C C C an dv fr r ak al hd ad C C)).L ?_;rintro en w'⟨rfl,N',ds,gI,t1,H,t3,t4⟩;refine⟨rfl,gI,⟨t4,t1⟩,?_⟩;obtain⟨a5,q,up,oB⟩:=P
  cases N with
  |unit ch rs S=>
   cases N' with
   |voter rs' S'=>exact H.elim
   |unit ap rs' S'=>
    obtain⟨rfl,V,e3,e4,e5⟩:=H
    cases a5 with
    |voter s' h'=>exact a1.elim
    |unit T s' h'=>
     obtain⟨rfl,a2,rfl,a4⟩:=a1;let⟨o1,o2,_⟩:=a0;have M:AS n m v ce T rs' S':=by obtain⟨iv,⟨p,_,a7⟩,_⟩:=t3;exact a7.V7
     have ag:rs'.length<=rs.length+1:=by obtain⟨y,_⟩|⟨r0,_,y,_⟩:=V<;>rw[y]<;>simp
     refine⟨.unit T rs' S',k0,?_,⟨o1,o2,M⟩,⟨rfl,?_,e3.symm,?_⟩,?_,?_,?_⟩
     .rw[e5]at t3;have hz:=QQ q ⟨fr,r.ln,r.nr,.rep r.nr (lK n m v ce T (S rs.length) r).1⟩;show Nd _ _ _ _ _ _ _ _ _ _ _ ((xL q _).map Qe.z);rw[<-hz];exact t3
     .obtain⟨y,_⟩|⟨r0,_,y,_⟩:=V
      .rw[y];exact a2
      rw[y];simp;omega
     .obtain⟨y,g2⟩|⟨r0,s0,y,g2⟩:=V
      .rw[y,g2];exact a4.H (fR _ _)
      have aq:S' (rs.length+1)=(lK n m v ce T (S rs.length) r).2:=by have:rs'.length=rs.length+1:=nG y;rwa[this]at e3
      have:=Ex (S':=S') (by omega:k0<=rs.length+1) a4 (λk hk=>by rw[g2];simp[TG];omega);rw[aq]at this;rw[y];simpa using this
     .obtain⟨y,_⟩|⟨r0,_,y,_⟩:=V
      .show off rs k0=off rs' k0;rw[y]
      exact(Ey a2 r0 y).symm
     .have:(iE rs).length<=300*iN:=aa;show(iE rs').length<=300*(iN+1);omega
     have:rs.length<=iN:=ab;show rs'.length<=iN+1;omega
  |voter rs S=>
   cases N' with
   |unit ap rs' S'=>exact H.elim
   |voter rs' S'=>
    let⟨V,e3,e4,e5⟩:=H
    cases a5 with
    |unit T s' h'=>exact a1.elim
    |voter s' h'=>
     obtain⟨a2,rfl,a4⟩:=a1;let⟨o1,o2,a8⟩:=a0;have M:pX rs' S':=by obtain⟨iv,⟨p,_,a7⟩,_⟩:=t3;let⟨_,_,_,_,hw,_⟩:=a7;exact hw
     have ag:rs'.length<=rs.length+1:=by obtain⟨y,_⟩|⟨r0,_,y,_⟩:=V<;>rw[y]<;>simp
     have ar:r.kd=5\/r.kd=6\/r.kd=7:=ad.kd;have ja:=Rn ar a8 M V e3;have a9:(rj ⟨S rs.length,pj rs⟩ r).2=⟨S' rs'.length,pj rs'⟩:=by unfold rj;dsimp only;rw[e3,ja]
     refine⟨.voter rs' S',k0,?_,⟨o1,o2,M⟩,⟨?_,a9,?_⟩,?_,?_,?_⟩
     .rw[e5]at t3;have hz:=QQ q ⟨fr,r.ln,r.nr,.vot r.nr (rj ⟨S rs.length,pj rs⟩ r).2.lt (rj ⟨S rs.length,pj rs⟩ r).1⟩;show Nd _ _ _ _ _ _ _ _ _ _ _ ((xL q _).map Qe.z);rw[<-hz,a9];exact t3
     .obtain⟨y,_⟩|⟨r0,_,y,_⟩:=V
      .rw[y];exact a2
      rw[y];simp;omega
     .rw[a9];obtain⟨y,g2⟩|⟨r0,s0,y,g2⟩:=V
      .rw[y,g2];exact a4.H (fR _ _)
      have au:rs'.length=rs.length+1:=by rw[y];simp
      have:=Ex (S':=λk=>VS.mk (S' k) (pj (rs'.take k))) (by omega:k0<=rs.length+1) a4 (λk hk=>by
       rw[g2,y,ft hk]
       simp[T7];omega)
      rw[au];have e6:List.take (rs.length+1) rs'=rs':=bI C;simp only[e6]at this;exact this
     .obtain⟨y,_⟩|⟨r0,_,y,_⟩:=V
      .show off rs k0=off rs' k0;rw[y]
      exact(Ey a2 r0 y).symm
     .have:(iE rs).length<=300*iN:=aa;show(iE rs').length<=300*(iN+1);omega
     have:rs.length<=iN:=ab;show rs'.length<=iN+1;omega
theorem Cl.recv(h:Cl w gH t p qb X)(y:100<=t)(hx:Xk b X)(s:Sm b)(sk:b.K+1<=100000000000000){tt:Int}{pk:Pk}(Q:uH b n m v ⟨fr,tt,pk⟩)(a0:1000<=tt)(a1:(n:Int)*m<=9)(a2:v<=5)(dv)(T:Ds w dv pk)(Y:∀b,dv.ownBlock=some b->¬Mc t (gH b)):iB 102 #[O p,I fr,dv] w λen w'=>en=iw/\∃H,jB (Mc t) w gH w' H/\Cl w' H t p qb (X.recv fr pk):=by
 let⟨V,Z⟩:=h
 cases pk with
 |noi ds=>refine gT (ub fr dv (λw'=>Bl w w') (Ji fr dv ds T)) λw' hb=>?_;exact⟨rfl,gH,jB.A hb λ_ _=>rfl,V,Z.bl hb λ_ _=>rfl⟩
 |req r=>
  obtain⟨L,_⟩|⟨L,_⟩:=Q.2
  .unfold nL at L;simp only at L;omega
  unfold oj at L;simp only at L;omega
 |rep nr A=>let⟨_,l2,M⟩:=Q;refine gT (ub fr dv _ (IG Z y fr nr A (hx.Yl s M) dv T (M.ok s l2) Y)) λw' hS=>?_;obtain⟨H,k,hc⟩:=hS.A;exact⟨rfl,H,k,hc⟩
 |vot nr lt u=>let⟨_,l2,M,l4⟩:=Q;refine gT (ub fr dv _ (L7 Z y fr nr lt u (hx.X9 s sk l4 M) dv T (l4.ok s l2 M))) λw' hS=>?_;obtain⟨H,k,hc⟩:=hS.A;exact⟨rfl,H,k,hc⟩
end
end Go.Proofs.YtbghhbpacijmmaaGreat
