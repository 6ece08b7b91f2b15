import Derived.Test.YtbghhbpacijmmaaGreatL16
open Go.Proofs.Tryz
namespace Go.Proofs.YtbghhbpacijmmaaGreat
set_option maxRecDepth 99999
set_option maxHeartbeats 0
set_option linter.defProp false
open Go.RowKit Go.Maps
attribute [local go_sem ↓] Go.wp_at_zero Go.wp_at_succ
variable {W W' W2:Wd} {S:Cf} {X Y:Cx} {ms:List Int} {i g n:Nat} {w:World} {cP:Nat->Nat} {V:WV} {x:Kl} {F:Nat->Nat->Fl} {e:Int}
def Sn(W:Wd):Prop:=∀c∈W.gF,∀A,W.ac[c.a]?=some A->A.up=true->∀r,A.X.e[c.b]?=some r->r.wh≠0->c.fin≠0
theorem xu(h:Wk W):Sn W.jx:=λc M A H P r L Q=>by
 obtain⟨d,T,rfl⟩:=aD.1 (show c∈W.gF.map λc=>c.D (W.a+1) W.ac[c.a]? from M);have j:(d.D (W.a+1) W.ac[d.a]?).a=d.a/\(d.D (W.a+1) W.ac[d.a]?).b=d.b:=by
  unfold Kl.D
  grind
 rw[j.1]at H;rw[j.2]at L;have y:W.ac[d.a]?=some A:=H;unfold Kl.D;rw[y];dsimp only;rw[aE P,L];dsimp only;split
 .have:=h.nw.1
  grind
 omega
def KG(h:Sn W)(M:W'.gF=W.gF)(P:∀(i:Nat) (B:Ac),W'.ac[i]?=some B->∃A,W.ac[i]?=some A/\(B.up=true->A.up=true)/\B.X.e=A.X.e):Sn W':=λc j B Q T r L Z=>by rw[M]at j;obtain⟨A,hA,H,y⟩:=P _ B Q;rw[y]at L;exact h c j A hA (H T) r L Z
def TH(j:Wk W)(h:Sn W){l:Le}(y:ui (W.A 0) W.n W.m W.v l):Sn (W.mQ l):=by
 unfold Wd.mQ;split
 .assumption
 exact xu (j.oz y)
theorem GZ:∀(j:List Le) {W:Wd},Wk W->Sn W->(∀l∈j,ui (W.A 0) W.n W.m W.v l)->Sn (W.lU j)
 |[],_,_,h,_=>h
 |l::j,W,A,h,y=>by obtain⟨H,_,_⟩:=qR W l;exact GZ j (A.mQ (y l (aN ..))) (TH A h (y l (aN ..))) λx L=>H.le (y x (aX _ L))
theorem LY(H:Wk W)(h:Sn W):Sn W.step:=by
 obtain⟨L,y,M⟩:=qQ H;obtain⟨g1,P,g3,g4,Q,g6⟩:=qw W;refine GZ _ L (KG h (show W.iH.gF=W.gF from Q) λi B T=>?_) (by rw[y.n,y.m,y.v];exact M);have j:=T;rw[P i]at j;obtain⟨A,Z,rfl⟩:=bN.1 j;refine⟨A,Z,λe=>?_,?_⟩
 .unfold Ac.gone at e
  grind
 unfold Ac.gone;split<;>rfl
theorem DG:∀(k:Nat) {W:Wd},Wk W->Sn W->Sn (W.lj k).1
 |0,_,_,h=>h
 |k+1,W,j,h=>by
  unfold Wd.lj;split
  .exact LY j h
  exact DG k (mN j).1 (LY j h)
theorem TG(h:Sn W){A:Ac}(L:W.ac[i]?=some A)(M:X.e=A.X.e):Sn (W.pN i X):=KG h rfl λj B y=>by obtain⟨_,e⟩|⟨rfl,P,H,rfl⟩:=rf W X y;all_goals grind
theorem Dk(h:Sn W)(i:Nat):Sn (W.jG i):=by
 unfold Wd.jG;split
 .omega
 rename_i A j;split
 .exact TG h j Fy
 grind
theorem KD(y:Wk W)(h:Sn W)(a j t:Int):Sn (W.jK a j t):=by
 obtain e|⟨A,n,H,M,L,e⟩:=nG W a j t
 .grind
 rw[e];exact xu (zn y H L t)
theorem PW(h:Sn W):Sn W.pz:=by
 have j:∀(l:List Nat) {W:Wd},Sn W->Sn (l.foldl Wd.jG W):=λl=>by
  induction l with
  |nil=>intro W h;exact h
  |cons i l y=>intro W h;exact y (Dk h i)
 exact j _ h
def LV(h:Pp S W)(j:Sn W):Sn W.lf.1:=DG 300 h.pz.k (PW j)
theorem Gl(h:Pp S W)(j:i<W.ac.length)(y:Sn W):∀k,Sn (W.kJ i k)
 |0=>y
 |k+1=>KD (Gv.kJ h j k).p.k (Gl h j y k) _ _ _
theorem I1(h:Pp S W)(L:Sn W)(i:Nat):Sn (W.j0 i):=by
 have y:=h.jG i;have j:=Dk L i;unfold Wd.jG at y j;unfold Wd.j0
 cases H:W.ac[i]? with
 |none=>exact L
 |some A=>rw[H]at y j;dsimp only at y j|-;rw[aE (h.a i A H).1]at y j|-;exact Gl y (by show i<(W.ac.modify i _).length;rw[cy];exact(aj.1 H).1) j _
theorem RO(h:Pp S W)(y:Q2 W)(A:Sn W):Sn W.round.1:=by
 have j:∀k,Sn (W.iT k):=λk=>by
  induction k with
  |zero=>exact A
  |succ k H=>rw[lZ];exact I1 (h.iT y k).1 H k
 exact DG 300 (h.iT y _).1.k (j _)
theorem M4(h:Pp S W)(L:Sn W)(M:QA W):∀c∈W.gF,c.fin≠0:=λc y=>by
 obtain⟨A,j,P,_⟩:=(h.k.ca c y).ac;have H:=ah P;refine L c y A j (h.a _ A j).1 _ H λe=>?_;obtain⟨d,Q,_⟩:=(((h.k.ac _ A j).x).g _ _ H).1 e;rw[M _ A j]at Q
 grind
structure Cm(S:Cf)(W:Wd):Prop where
 p:Pp S W
 q:Q2 W
 m:W.iP=[]
 s:Sn W
def Cm.round(h:Cm S W):W.round.2=true/\Cm S W.round.1:=by obtain⟨j,y,A,H,_⟩:=h.p.round h.q h.m;exact⟨j,y,A,H,RO h.p h.q h.s⟩
theorem Cm.nA(h:Cm S W):∀k,Cm S (W.nA k)/\∀j,j<k->(W.nA j).round.2=true
 |0=>⟨h,λj e=>absurd e C⟩
 |k+1=>by
  obtain⟨y,H⟩:=Cm.nA h k;obtain⟨L,A⟩:=y.round;refine⟨A,λj M=>?_⟩
  grind
theorem Cm.nil(h:Cm S W)(j:QA W):∀k,QA (W.nA k)
 |0=>j
 |k+1=>by obtain⟨c,_⟩:=h.nA k;have y:=Cm.nil h j k;exact c.p.C3 c.q (λi A L d H=>by rw[y i A L]at H;simp at H) (.inr y)
theorem Cm.A:∀(u:Nat) {W:Wd},Cm S W->E1 W->Wn W->W.unused<=u->QA (W.nA (u+1))
 |0,W,h,Q,y,Z=>h.p.C3 h.q y (.inl C)
 |u+1,W,h,Q,y,Z=>by
  by_cases T:QA W
  .exact h.nil T _
  obtain⟨w1,w2⟩:=h.p.lD Q h.q h.m;obtain⟨_,hc⟩:=h.round;rw[Ce];refine Cm.A u hc w1 w2 ?_;obtain⟨i,A,j,H⟩:∃(i:Nat) (A:Ac),W.ac[i]?=some A/\A.X.a≠[]:=by refine bk λe=>T λi A j=>bk λe2=>e ⟨i,A,j,e2⟩
  have L:A.X.iX≠[]:=by rw[Wt.lD (y i A j)];simpa using H
  have hi:=(aj.1 j).1;have M:W.round.1.unused=(W.iT W.ac.length).unused:=by have P:=(((h.p.iT h.q W.ac.length).1.CU (λ_=>True) (λ_ _ _=>trivial) (λ_ _ _ _=>trivial) trivial)).2.2.2.1;unfold Wd.unused;show((List.range ((W.iT W.ac.length).lj 300).1.lQ).filter λt=> !mL ((W.iT W.ac.length).lj 300).1.mC t).length=_;unfold Wd.lQ;rw[P.n,P.ce,P.hd]
  rw[M];by_cases h0:0<W.unused
  .have:=(pJ h.p h.q W.ac.length).2 i A hi j L h0;omega
  have:=(pJ h.p h.q W.ac.length).1;omega
def Cm.two(h:Cm S W):E1 (W.nA 2):=by
 have step:∀{W:Wd},Cm S W->E1 W->E1 W.round.1:=fun{W} h he i B L=>by
  have hr:=h.p.round h.q h.m;have M:=(aj.1 L).1;rw[hr.2.2.2.2.1]at M;obtain⟨B',b1,Q⟩:=hr.2.2.2.2.2.1 i _ (ah M) (he i _ (ah M));rw[L]at b1
  cases b1;exact Q
 have hz:∀{W:Wd},Cm S W->¬E1 W->∃(i:Nat) (A:Ac),W.ac[i]?=some A/\A.X.b=0:=fun{W} h hn=>by
  refine bk λe=>hn λi A P=>?_;rcases(h.p.a i A P).2.p.e with k|k
  .exact absurd ⟨i,A,P,k⟩ e
  exact k
 obtain⟨_,c1⟩:=h.round;have y:=h.p.round h.q h.m;have H:=c1.p.round c1.q c1.m;show E1 (W.round.1).round.1;by_cases e0:E1 W
 .exact step c1 (step h e0)
 by_cases e1:E1 W.round.1
 .exact step c1 e1
 --one came through in the first round,the qF in the second
 obtain⟨i,A,B,P,a1,L,T⟩:=y.2.2.2.2.2.2 (hz h e0);obtain⟨j,cQ,D,Z,a2,hD,a0⟩:=H.2.2.2.2.2.2 (hz c1 e1);have a3:i≠j:=λe=>by
  subst e;rw[L]at Z
  cases Z;omega
 intro k E hE;have hk:=(aj.1 hE).1;have hl:=h.p.l;have M:=(aj.1 P).1;have hj:=(aj.1 Z).1;rw[y.2.2.2.2.1]at hj;rw[H.2.2.2.2.1,y.2.2.2.2.1]at hk;have:k=i\/k=j:=C;obtain rfl|rfl:=this
 .obtain⟨B2,b1,Q⟩:=H.2.2.2.2.2.1 k B L T;rw[hE]at b1
  cases b1;exact Q
 rw[hE]at hD
 cases hD;exact a0
theorem DX(W:Wd):W.unused<=W.lQ:=by
 unfold Wd.unused
 grind
theorem Cm.calm(h:Cm S W)(ht:W.lQ<=48):(∀k,k<80->(W.nA k).round.2=true)/\(∀c∈(W.nA 80).gF,c.fin≠0)/\Cm S (W.nA 80)/\E1 (W.nA 80):=by
 obtain⟨j,A⟩:=h.nA 80;have Q:∀a b,W.nA (a+b)=(W.nA a).nA b:=λa b=>by
  induction b with
  |zero=>rfl
  |succ b H=>show(W.nA (a+b)).round.1=((W.nA a).nA b).round.1;rw[H]
 have y:∀{W:Wd},Cm S W->E1 W->∀k,E1 (W.nA k):=fun{W} h he k=>by
  induction k with
  |zero=>exact he
  |succ k H=>exact((h.nA k).1.p.lD H (h.nA k).1.q (h.nA k).1.m).1
 have P:=h.two;obtain⟨c2,_⟩:=h.nA 2;obtain⟨w1,w2⟩:=c2.p.lD P c2.q c2.m;have c3:=(h.nA 3).1;have L:(W.nA 3).lQ<=48:=by
  have T:∀k,(W.nA k).lQ=W.lQ:=λk=>by
   induction k with
   |zero=>rfl
   |succ k H=>
    obtain⟨Z,_⟩:=h.nA k;have kp:Kp (17*(W.nA k).ac.length) (W.nA k) ((W.nA k).iT (W.nA k).ac.length):=Kp.iT Z.p.k _;have hs:=(((Z.p.iT Z.q (W.nA k).ac.length).1.CU (λ_=>True) (λ_ _ _=>trivial) (λ_ _ _ _=>trivial) trivial)).2.2.2.1;rw[<-H];unfold Wd.lQ;show((W.nA k).round.1).n*((W.nA k).round.1).ce=_;have e1:((W.nA k).round.1).n=(W.nA k).n:=by show(((W.nA k).iT (W.nA k).ac.length).lj 300).1.n=_;rw[hs.n,kp.s.1]
    have P:((W.nA k).round.1).ce=(W.nA k).ce:=by show(((W.nA k).iT (W.nA k).ac.length).lj 300).1.ce=_;rw[hs.ce,kp.s.2.2.2]
    rw[e1,P]
  rw[T];exact ht
 have hn:=Cm.A 48 c3 w1 w2 (aF (DX _) L);rw[<-Q]at hn;have M:QA (W.nA 80):=by have:=((h.nA (3+49)).1).nil hn 28;rwa[<-Q]at this
 refine⟨A,M4 j.p j.s M,j,?_⟩;have:=y c2 P 78;rwa[<-Q]at this
theorem Eg(j:Wk W)(h:Sn W)(kind a b:Int)(M:kind=1\/kind=2\/kind=5):Sn (W.call kind a b):=by
 have Q:=j.nw;have y:=Wk.jx j.uS (by grind);obtain e|⟨A,H,P,e⟩|⟨A,H,P,T,e⟩:=sR W kind a b
 .grind
 .rw[e];exact xu (W:=W.r9) j.uS
 rw[e];have L:=H;have Z:=(y.ac _ A L).x.pl;exact xu (uy y L C kind b M)
structure Fc(X:Cx):Prop where
 n:1<=X.n/\X.n<=3
 m:X.m=2/\1<=X.vo
 e:X.b=0
 t:X.A<=1
 l:X.lay=iR X.n 2
 a:X.a=[]
 pr:X.c.A.ep<=1/\X.c.A.kd≠4
 ll:mA X
def EN.fc(h:EN X)(j:X.b=0)(y:X.gT=[]):Fc X:=⟨h.p.n,h.p.m,j,h.p.t,h.p.l0 j,(h.p.a y j).1,h.p.pr,h.l⟩
def C1(hk:Wk W)(hf:Sf S W)(hu:∀P∈W.pl,P.up=true/\P.q=[])(hp:∀(j:Nat) (P:Pl),W.pl[j]?=some P->oq W.n P.part)(hl:W.ac.length<=2){a b:Int}{L:Ac}(a1:W.ac[ju a W.ac.length]?=some L)(a2:L.up=true)(M:Fc L.X)(hb:ju b (W.n*W.m)=0\/ju b (W.n*W.m)=1)(ho:∀(i:Nat) (A:Ac),i≠ju a W.ac.length->W.ac[i]?=some A->A.up=true/\EN A.X):Pp S (W.call 5 a b)/\(∀(i:Nat) (A:Ac),(W.call 5 a b).ac[i]?=some A->(i≠ju a W.ac.length/\W.ac[i]?=some A)\/(i=ju a W.ac.length/\A.X.b=0/\A.X.gT≠[]))/\((W.call 5 a b).n=W.n/\(W.call 5 a b).m=W.m/\(W.call 5 a b).iP=W.iP/\(W.call 5 a b).ac.length=W.ac.length)/\∃c,(W.call 5 a b).gF.length=W.gF.length+1/\(W.call 5 a b).gF[W.gF.length]?=some c/\c.kind=5/\c.pos=(ju b (W.n*W.m):Nat):=by
 obtain⟨c1,c2,c3,c4,c5,c6,c7⟩:=xj hk 5 a b C;have a6:=hf.call hk 5 a b C;have h8:L.X.a.length≠8:=by rw[M.a];decide
 have e:W.call 5 a b=(W.r9.jx.mu 5 b (ju a W.ac.length) L).jx:=by
  obtain e|⟨A,h1,h2,e⟩|⟨A,h1,h2,a9,e⟩:=sR W 5 a b;all_goals
   unfold Wd.call;rw[a1];dsimp only;rw[aE a2,az h8];rfl
 have Q:W.r9.jx.lO 5 b=((ju b (W.n*W.m):Nat):Int):=by unfold Wd.lO;rfl
 have a7:L.X.lV 5 (W.r9.jx.lO 5 b) (W.r9.jx.mF 5)=L.X.change ((ju b (W.n*W.m):Nat):Int):=by unfold Cx.lV;rw[Q];rfl
 obtain⟨d1,d2,d3⟩:=N5 M.n M.m M.e M.t M.l M.a M.pr M.ll (u:=((ju b (W.n*W.m):Nat):Int)) (by obtain h|h:=hb<;>rw[h]<;>decide);have T:∀(i:Nat) (A:Ac),(W.call 5 a b).ac[i]?=some A->(i≠ju a W.ac.length/\W.ac[i]?=some A)\/(i=ju a W.ac.length/\A={L with X:=L.X.change ((ju b (W.n*W.m):Nat):Int)}):=λi A hA=>by
  rw[e]at hA;have a3:(W.r9.jx.mu 5 b (ju a W.ac.length) L).ac[i]?=some A:=hA;unfold Wd.mu at a3;obtain⟨e1,e2⟩|⟨rfl,B0,a8,rfl⟩:=rf _ _ a3
  .exact .inl ⟨e1,e2⟩
  have Z:W.ac[ju a W.ac.length]?=some B0:=a8;rw[a1]at Z
  cases Z;rw[a7];exact .inr ⟨rfl,rfl⟩
 have hn:(W.call 5 a b).n=W.n:=by rw[e];rfl
 refine⟨⟨c1,a6,jf c7 hu,by rw[c7,hn];exact hp,λi A hA=>?_,jf c5 hl⟩,λi A hA=>?_,⟨hn,by rw[e];rfl,c4,c5⟩,?_⟩
 .obtain⟨g1,g2⟩|⟨g1,rfl⟩:=T i A hA
  .exact ho i A g1 g2
  exact⟨a2,d1⟩
 .obtain⟨g1,g2⟩|⟨g1,rfl⟩:=T i A hA
  .exact .inl ⟨g1,g2⟩
  exact .inr ⟨g1,d2,d3⟩
 obtain⟨K,hK⟩:=gG ((⟨ju a W.ac.length,W.r9.jx.nM (ju a W.ac.length),5,W.r9.jx.lO 5 b,W.r9.jx.mF 5,[],W.r9.jx.a,0,Rz.zero⟩:Kl):Kl);obtain⟨H,a4⟩:=gG (W.r9.jx.mu 5 b (ju a W.ac.length) L);have y:H.gF=W.r9.jx.gF++[K]:=by rw[<-a4,<-hK];rfl
 have a0:W.r9.jx.gF.length=W.gF.length:=by show(W.gF.map _).length=_;rw[ay]
 rw[e,a4];have a5:H.jx.gF=H.gF.map λc=>c.D (H.a+1) H.ac[c.a]?:=rfl;have hs:=(D2 (H.a+1) K H.ac[K.a]?).s;refine⟨K.D (H.a+1) H.ac[K.a]?,?_,?_,?_,?_⟩
 .rw[a5,ay,y,aO,a0];rfl
 .rw[a5,aK,y,<-a0,aC jr,dR];rfl
 .have:(K.D (H.a+1) H.ac[K.a]?).kind=K.kind:=by simp only[hs]
  rw[this,<-hK]
 have:(K.D (H.a+1) H.ac[K.a]?).pos=K.pos:=by simp only[hs]
 rw[this,<-hK];exact Q
def Ec(W W':Wd):Prop:=∀(i:Nat) (B:Ac),W'.ac[i]?=some B->∃A,W.ac[i]?=some A/\B.X.b=A.X.b/\B.X.gT=A.X.gT
def Ec.refl(W:Wd):Ec W W:=λ_ B h=>⟨B,h,rfl,rfl⟩
theorem Ec.H(h:Ec W W')(k:Ec W' W2):Ec W W2:=λi j y=>by
 obtain⟨B,H,b1,L⟩:=k i j y;obtain⟨A,M,P,Q⟩:=h i B H
 grind
def Ec.q2(h:Ec W W')(k:Q2 W):Q2 W':=λi B j e=>by obtain⟨A,y,H,L⟩:=h i B j;rw[L];exact k i A y (H▸e)
theorem Ec.jG(h:Pp S W)(i:Nat):Ec W (W.jG i):=by
 unfold Wd.jG
 cases H:W.ac[i]? with
 |none=>exact Ec.refl W
 |some A=>
  dsimp only;rw[aE (h.a i A H).1];intro j B L;obtain⟨_,e⟩|⟨rfl,M,y,rfl⟩:=rf W _ L
  .grind
  rw[H]at y
  cases y;obtain⟨P,Q,T,Z⟩:=(h.a j A H).2.p.kG
  grind
theorem Ec.pz(h:Pp S W):Ec W W.pz:=by
 have j:∀(l:List Nat) {W:Wd},Pp S W->Ec W (l.foldl Wd.jG W):=λl=>by
  induction l with
  |nil=>intro W h;exact Ec.refl W
  |cons i l y=>intro W h;exact(Ec.jG h i).H (y (h.jG i))
 exact j _ h
theorem Ec.jK(h:Pp S W)(a j t:Int):Ec W (W.jK a j t):=λi A M=>by
 obtain e|⟨B,n,H,Z,P,e⟩:=nG W a j t
 .grind
 rw[e]at M;obtain⟨_,e'⟩|⟨rfl,B0,L,rfl⟩:=rf _ _ M
 .exact⟨A,e',rfl,rfl⟩
 have y:W.ac[ju a W.ac.length]?=some B0:=L;rw[H]at y
 cases y;obtain⟨k1,Q,T⟩:=(h.a _ B H).2.p.jK (h.k.ac _ B H).x.a.gL P t;exact⟨B,H,Q.e.1,T⟩
theorem Mb(W:Wd):W.pz.ac.length=W.ac.length/\W.pz.iP=W.iP/\W.pz.n=W.n/\W.pz.m=W.m:=by
 have h:∀(l:List Nat) W,(l.foldl Wd.jG W).ac.length=W.ac.length/\(l.foldl Wd.jG W).iP=W.iP/\(l.foldl Wd.jG W).n=W.n/\(l.foldl Wd.jG W).m=W.m:=λl=>by
  induction l with
  |nil=>intro W;exact⟨rfl,rfl,rfl,rfl⟩
  |cons i l j=>
   intro W;have:(W.jG i).ac.length=W.ac.length/\(W.jG i).iP=W.iP/\(W.jG i).n=W.n/\(W.jG i).m=W.m:=by
    unfold Wd.jG;split
    .simp
    split
    .exact⟨cy ..,rfl,rfl,rfl⟩
    simp
   grind
 exact h _ W
def Pp.Vw(h:Pp S W)(R:Wd->Prop)(A:∀W,Pp S W->R W->R W.step.step)(y:∀W,Pp S W->R W->W.mV=[]->R W.step)(H:R W.pz):W.lf.2=true/\Pp S W.lf.1/\R W.lf.1/\W.lf.1.ac.length=W.ac.length/\W.lf.1.iP=W.iP/\W.lf.1.n=W.n/\W.lf.1.m=W.m:=by
 obtain⟨L,M,P,j,_⟩:=h.pz.CU R A y H;obtain⟨Q,T,Z,t4⟩:=Mb W;exact⟨L,M,P,j.ac.H Q,j.ms.H T,j.n.H Z,j.m.H t4⟩
def Pp.X6(h:Pp S W)(y:Q2 W):W.lf.2=true/\Pp S W.lf.1/\Q2 W.lf.1/\W.lf.1.ac.length=W.ac.length/\W.lf.1.iP=W.iP/\W.lf.1.n=W.n/\W.lf.1.m=W.m:=
 h.Vw Q2 (λW h k=>QF h.k h.up h.pw k) (λW h k _ i B j e=>by
  rw[(nt h.k h.up).2 i]at j
  obtain⟨A,H,rfl⟩:=bN.1 j
  rw[nK]
  exact k i A H e) ((Ec.pz h).q2 y)
def Il(i:Nat)(W:Wd):Prop:=∀A,W.ac[i]?=some A->A.X.b=0/\A.X.gT=[]
theorem UJ(h:EN X)(y:X.b=0)(j:X.gT=[]):X.iH=[]:=by
 obtain⟨H,L⟩:=h.p.a j y;have A:=bk λe=>(h.p.mv e).2.2.2.1 j;have M:=bk λe=>h.p.sn e A;unfold Cx.iH Qn.iH
 grind
def Kc(W W':Wd):Prop:=∀(i:Nat) (c:Kl),W.gF[i]?=some c->∃c',W'.gF[i]?=some c'/\c'.kind=c.kind/\c'.pos=c.pos
def Kc.refl(W:Wd):Kc W W:=λ_ c h=>⟨c,h,rfl,rfl⟩
theorem Kc.H(h:Kc W W')(k:Kc W' W2):Kc W W2:=λi c j=>by
 obtain⟨c1,y,A,H⟩:=h i c j;obtain⟨c2,L,M,P⟩:=k i c1 y
 grind
def Kc.D(h:W'.gF=W.gF):Kc W W':=λi c j=>⟨c,jf h j,rfl,rfl⟩
def Kc.map(f:Kl->Kl)(j:∀c,(f c).kind=c.kind/\(f c).pos=c.pos)(h:W'.gF=W.gF.map f):Kc W W':=λi c y=>⟨f c,by rw[h,aK,y];rfl,j c⟩
def Kc.jx(W:Wd):Kc W W.jx:=Kc.map _ (λc=>by
 have h:=(D2 (W.a+1) c W.ac[c.a]?).s
 exact⟨h.2.2.1,h.2.2.2.1⟩) rfl
def Kc.mQ(W:Wd)(l:Le):Kc W (W.mQ l):=by
 unfold Wd.mQ;split
 .exact Kc.D rfl
 exact(Kc.D (W':=W.oz l) rfl).H (Kc.jx _)
theorem Kc.lU:∀(h:List Le) (W:Wd),Kc W (W.lU h)
 |[],W=>Kc.refl W
 |l::h,W=>(Kc.mQ W l).H (Kc.lU h (W.mQ l))
def Kc.step(W:Wd):Kc W W.step:=by obtain⟨j,y,A,L,h,M⟩:=qw W;exact(Kc.D (W':={W.iH with iN:=W.iN}) (show W.iH.gF=W.gF from h)).H (Kc.lU _ _)
theorem Kc.lj:∀(k:Nat) (W:Wd),Kc W (W.lj k).1
 |0,W=>Kc.refl W
 |k+1,W=>by
  unfold Wd.lj;split
  .exact Kc.step W
  exact(Kc.step W).H (Kc.lj k _)
def Kc.jG(W:Wd)(i:Nat):Kc W (W.jG i):=by
 unfold Wd.jG;split
 .exact Kc.refl W
 split
 .exact Kc.D rfl
 exact Kc.refl W
theorem Kc.pz(W:Wd):Kc W W.pz:=by
 have h:∀(l:List Nat) W,Kc W (l.foldl Wd.jG W):=λl=>by
  induction l with
  |nil=>exact λW=>Kc.refl W
  |cons i l j=>exact λW=>(Kc.jG W i).H (j _)
 exact h _ W
def Kc.lf(W:Wd):Kc W W.lf.1:=(Kc.pz W).H (Kc.lj 300 _)
theorem Kc.jK(W:Wd)(a h t:Int):Kc W (W.jK a h t):=by
 obtain e|⟨A,n,j,y,L,e⟩:=nG W a h t
 .rw[e];exact Kc.refl W
 rw[e];refine(Kc.map _ (λc=>?_) rfl).H (Kc.jx _)
 grind
theorem Kc.call(W:Wd)(kind a b:Int):Kc W (W.call kind a b):=by
 have h:=(Kc.D (W':=W.r9) rfl).H (Kc.jx _);obtain e|⟨A,j,y,e⟩|⟨A,j,y,L,e⟩:=sR W kind a b
 .rw[e];exact Kc.refl W
 .rw[e];exact h
 rw[e];refine h.H (Kc.H (λi c M=>⟨c,?_,rfl,rfl⟩) (Kc.jx _));show(W.r9.jx.gF++[_])[i]?=some c
 grind
theorem Kc.kJ(W:Wd)(i:Nat):∀k,Kc W (W.kJ i k)
 |0=>Kc.refl W
 |k+1=>(Kc.kJ W i k).H (Kc.jK _ _ _ _)
def Kc.j0(W:Wd)(i:Nat):Kc W (W.j0 i):=by
 unfold Wd.j0;split
 .exact Kc.refl W
 split
 .exact Kc.H (W':=W.pN i _) (Kc.D rfl) (Kc.kJ _ _ _)
 exact Kc.refl W
theorem Kc.round(W:Wd):Kc W W.round.1:=by
 have h:∀k,Kc W (W.iT k):=λk=>by
  induction k with
  |zero=>exact Kc.refl W
  |succ k j=>rw[lZ];exact j.H (Kc.j0 _ _)
 exact(h _).H (Kc.lj 300 _)
theorem Kc.nA(W:Wd):∀k,Kc W (W.nA k)
 |0=>Kc.refl W
 |k+1=>(Kc.nA W k).H (Kc.round _)
def Pl.OU(P:Pl):Bool:=P.up&&P.q.isEmpty&&(match P.part with
 | .unit _ s=>decide (s.ep<=1)&&decide (s.mark<=0)
 | .voter s=>decide (s.lt<=1)&&decide ((s.E 1).ba<=0))
def Ac.OU(n:Nat)(A:Ac):Bool:=A.up&&A.X.n==n&&A.X.m==2&&decide (1<=A.X.vo)&&decide (A.X.b=0)&&decide (A.X.A<=1)&&decide (A.X.lay=iR n 2)&&A.X.a.isEmpty&&decide (A.X.c.A.ep<=1)&&decide (A.X.c.A.kd≠4)&&(A.X.c.nodes.isEmpty||decide (A.X.c.A.ln=8))&&(A.X.mv.a.nodes.isEmpty||decide (A.X.mv.a.A.ln=9))&&(A.X.mv.A.nodes.isEmpty||decide (A.X.mv.A.A.ln=9))
def Wd.OU(n:Nat)(W:Wd):Bool:=W.n==n&&W.m==2&&W.pl.all Pl.OU&&W.ac.length==1&&W.ac.all (Ac.OU n)&&W.gF.length==2&&W.gF.all λc=>decide (c.fin≠0)
def Wk.qa(h:Wk W)(H:ms.length<=2/\∀x∈ms,0<=x/\x<=31):Wk {W with iP:=ms}:=
 ⟨h.n1,h.m1,h.v1,h.v2,h.c1,h.pl,h.pk,h.b,λj B A=>⟨(h.ac j B A).x,(h.ac j B A).nm⟩,h.po,h.a,h.nw,h.cl,λc L=>by
  have y:=h.ca c L
  exact⟨y.ac,y.kd,y.po,y.vl,y.tk,y.bg,y.fi,y.r,y.fw⟩,h.hd,H⟩
def Sf.qa(h:Sf S W)(ms:List Int):Sf S {W with iP:=ms}:=by
 obtain⟨K,F,h,j⟩:=h;exact⟨K,F,⟨h.s,h.k,h.nd,h.cl,h.nr,h.po,h.p0,h.fu,h.f,λc y A=>by
  have e:=h.ca c y A
  exact⟨e.r,e.m⟩,h.fl⟩,j⟩
def Pp.qa(h:Pp S W)(j:ms.length<=2/\∀x∈ms,0<=x/\x<=31):Pp S {W with iP:=ms}:=⟨h.k.qa j,h.f.qa ms,h.u,h.p,h.a,h.l⟩
theorem RX{P:Pl}(h:P.OU=true)(n:Nat):(P.up=true/\P.q=[])/\oq n P.part:=by
 unfold Pl.OU at h
 cases j:P.part with
 |unit ch s=>rw[j]at h;simp at h;exact h
 |voter s=>rw[j]at h;simp only[bL,ZX,List.isEmpty_iff]at h;exact⟨h.1,h.2.1,λe=>absurd h.2.2 C⟩
theorem VZ{A:Ac}(P:1<=n/\n<=3)(h:A.OU n=true):A.up=true/\Fc A.X:=by
 unfold Ac.OU at h;simp at h;obtain⟨⟨⟨⟨⟨⟨⟨⟨⟨⟨⟨⟨Q,M⟩,T⟩,Z⟩,h5⟩,h6⟩,h7⟩,h8⟩,h9⟩,j⟩,y⟩,H⟩,L⟩:=h;refine⟨Q,jf M P,⟨T,Z⟩,h5,h6,jf M h7,h8,⟨h9,j⟩,λc hc=>?_,λe=>y.resolve_left e,λe=>H.resolve_left e,λe=>L.resolve_left e⟩
 grind
def Xb(n v ce:Nat)(id:Int)(y:1<=n/\n<=3)(A:1<=v):EN (Cx.new n 2 v ce id)/\(Cx.new n 2 v ce id).b=0/\(Cx.new n 2 v ce id).gT=[]:=by refine⟨⟨⟨y,⟨rfl,A⟩,.inl rfl,by show(0:Int)<=1;decide,λ_=>rfl,λe=>absurd (show(0:Int)=1 from e) bz,λc h=>by simp[Cx.new]at h,⟨by show(0:Int)<=1;decide,by show(0:Int)≠4;decide⟩,⟨by show(0:Int)<=1;decide,by show(0:Int)≠4;decide⟩,λe=>absurd rfl e,λe=>absurd rfl e,λ_ _=>⟨rfl,rfl⟩,λz j=>by simp[Cx.new,Mv.zero,Qn.zero]at j,λz j=>by simp[Cx.new,Mv.zero]at j,λe=>absurd (show(0:Int)=6 from e) bz⟩,⟨λc h=>by simp[Cx.new]at h,λe=>absurd rfl e,λe=>absurd rfl e,λe=>absurd rfl e⟩,λc h=>by simp[Cx.new]at h⟩,rfl,rfl⟩
structure Bg(S:Cf)(W:Wd):Prop where
 k:Wk W
 f:Sf S W
 u:∀P∈W.pl,P.up=true/\P.q=[]
 p:∀(j:Nat) (P:Pl),W.pl[j]?=some P->oq W.n P.part
 a0:∃A,W.ac[0]?=some A/\A.up=true/\Fc A.X
 a1:∃A,W.ac[1]?=some A/\A.up=true/\EN A.X/\A.X.b=0/\A.X.gT=[]
 l:W.ac.length=2
 c:W.gF.length=2
 s:Sn W
 m:W.m=2
theorem YV(M:Wk W)(hf:Sf S W)(L:W.OU n=true):Bg S W.ks:=by
 unfold Wd.OU at L;simp only[bL,ZT]at L;obtain⟨⟨⟨⟨⟨⟨h1,h2⟩,h3⟩,h4⟩,h5⟩,h6⟩,h7⟩:=L;obtain⟨A,hA⟩:=List.length_eq_one_iff.1 h4;have e:W.ks={W with ac:=W.ac++[⟨Cx.new W.n W.m W.v W.ce (ja W.ac.length),true⟩],jl:=W.jl+1}:=by unfold Wd.ks;rw[az C]
 have y:W.ks.pl=W.pl:=mT e;have hn:W.ks.n=W.n:=mT e;have h:W.ks.ac=[A,⟨Cx.new W.n W.m W.v W.ce (ja W.ac.length),true⟩]:=by rw[e,hA];rfl
 have Q:W.ks.gF=W.gF:=mT e;have T:=M.n1;have Z:=M.v1;refine⟨M.ks,hf.ks,λP H=>?_,λj P H=>?_,⟨A,by rw[h];rfl,VZ (n:=n) C (List.all_eq_true.1 h5 A (om hA))⟩,⟨_,by rw[h];rfl,rfl,?_⟩,by rw[h];rfl,jf Q h6,?_,jf e h2⟩
 .rw[y]at H;exact(RX (List.all_eq_true.1 h3 P H) n).1
 .rw[y]at H;rw[hn];exact(RX (List.all_eq_true.1 h3 P (aR H)) W.n).2
 .rw[h2];exact Xb W.n W.v W.ce _ T Z.1
 intro c hc B L hu r hr hw
 grind
def Bg.qa(h:Bg S W)(j:ms.length<=2/\∀x∈ms,0<=x/\x<=31):Bg S {W with iP:=ms}:=⟨h.k.qa j,h.f.qa ms,h.u,h.p,h.a0,h.a1,h.l,h.c,h.s,h.m⟩
def Q1(i:Nat)(W:Wd):Prop:=∀(A:Ac),W.ac[i]?=some A->A.X.b=0->A.X.gT≠[]
def Xv(j:Wk W)(y:Up W)(L:rD W)(h:Q1 i W):Q1 i W.step.step:=λB M=>by obtain⟨A,H,rfl⟩:=qK j y M;exact rZ _ (xE j y L H) (λ_ h=>h) λe=>by rw[nK];exact h A H e
theorem VW(h:Pp S W)(k:Il i W):Il i W.step.step:=λB P=>by
 obtain⟨A,j,rfl⟩:=qK h.k h.up P;obtain⟨L,M⟩:=k A j;have y:W.D W.N (ja i)=[]:=by
  refine List.eq_nil_iff_forall_not_mem.2 λl y=>?_;obtain⟨_,_,r,_,_,_,Q,_⟩:=Fs h.up j y;rw[UJ (h.a i A j).2 L M]at Q
  grind
 rw[y];exact⟨L,(nK A.X).H M⟩
def Tw(W:Wd):Prop:=(∃x,W.gF[2]?=some x/\x.kind=5/\x.pos=0)/\∃y,W.gF[3]?=some y/\y.kind=5/\y.pos=1
def Tw.kc(h:Tw W)(k:Kc W W'):Tw W':=by obtain⟨⟨x,j,A,H⟩,y,L,M,P⟩:=h;obtain⟨a,Q,T,Z⟩:=k 2 x j;obtain⟨b,b1,b2,b3⟩:=k 3 y L;exact⟨⟨a,Q,T.H A,Z.H H⟩,b,b1,b2.H M,b3.H P⟩
structure B1(S:Cf)(W:Wd):Prop where
 p:Pp S W
 q:Q1 0 W
 i:Il 1 W
 l:W.ac.length=2
 c:W.gF.length=3/\∃x,W.gF[2]?=some x/\x.kind=5/\x.pos=0
 s:Sn W
 m:W.m=2
def GP(n:Nat)(h:0<n):ju 0 n=0:=rk h
def Gz(n:Nat)(h:1<n):ju 1 n=1:=rk h
theorem Bg.change(h:Bg S W):B1 S (W.call 5 0 0):=by
 obtain⟨A0,g1,H,L⟩:=h.a0;obtain⟨A1,k1,k2,k3,k4,k5⟩:=h.a1;have M:=h.k.n1;have e0:ju 0 W.ac.length=0:=GP _ (by grind);have P:ju 0 (W.n*W.m)=0:=GP _ (by rw[h.m];omega);obtain⟨c1,c2,⟨c3,Q,c5,T⟩,x,Z,y,x3,x4⟩:=C1 (a:=0) h.k h.f h.u h.p (by rw[h.l];decide) ‹_› H L (.inl P) λi A hi j=>by
  have:i=1:=by have:=(aj.1 j).1;rw[h.l]at this;omega
  grind
 refine⟨c1,λA j e=>?_,λA j=>?_,by rw[T];exact h.l,⟨by rw[Z,h.c],x,by rwa[h.c]at y,x3,by rw[x4];rfl⟩,Eg h.k h.s 5 0 0 C,by rw[Q];exact h.m⟩
 .grind
 grind
def B1.lf(h:B1 S W):W.lf.2=true/\B1 S W.lf.1:=by
 obtain⟨Q,T,⟨Z,r4⟩,r5,r6,r7,r8⟩:=h.p.Vw (λW=>Q1 0 W/\Il 1 W) (λW h k=>⟨Xv h.k h.up h.pw k.1,VW h k.2⟩) (λW h k _=>⟨λB j e=>by
  rw[(nt h.k h.up).2 0]at j
  obtain⟨A,L,rfl⟩:=bN.1 j
  rw[nK]
  exact k.1 A L e,λB j=>by
  rw[(nt h.k h.up).2 1]at j
  obtain⟨A,L,rfl⟩:=bN.1 j
  exact⟨(k.2 A L).1,(nK A.X).H (k.2 A L).2⟩⟩) ⟨λB j e=>by
  obtain⟨A,L,M,P⟩:=Ec.pz h.p 0 B j
  rw[P];exact h.q A L (M▸e),λB j=>by
  obtain⟨A,L,M,P⟩:=Ec.pz h.p 1 B j
  exact⟨M.H (h.i A L).1,P.H (h.i A L).2⟩⟩
 obtain⟨hc,x,x1,x2,x3⟩:=h.c;obtain⟨y,y1,y2,y3⟩:=Kc.lf W 2 x x1;refine⟨Q,T,Z,r4,by rw[r5];exact h.l,⟨?_,y,y1,y2.H x2,y3.H x3⟩,LV h.p h.s,by rw[r8];exact h.m⟩;rw[(EA h.p.k).cl];exact hc
structure Pt(S:Cf)(W:Wd):Prop where
 p:Pp S W
 q:Q2 W
 l:W.ac.length=2
 t:Tw W
 s:Sn W
theorem B1.change(h:B1 S W):Pt S (W.call 5 1 1):=by
 have T:=h.l;obtain⟨j,H⟩:∃A,W.ac[1]?=some A:=⟨_,ah C⟩;have Z:=h.p.k.n1;have e0:ju 1 W.ac.length=1:=Gz _ C;have M:ju 1 (W.n*W.m)=1:=Gz _ (by rw[h.m];omega);obtain⟨i1,i2⟩:=h.i j H;obtain⟨c1,c2,⟨c3,c4,c5,c6⟩,x,x1,P,x3,x4⟩:=C1 (a:=1) h.p.k h.p.f h.p.u h.p.p C (by grind) (h.p.a 1 j H).1 ((h.p.a 1 j H).2.fc i1 i2) (.inr M) λi A _ L=>h.p.a i A L;obtain⟨hc,y,y1,y2,y3⟩:=h.c;obtain⟨z,z1,z2,z3⟩:=Kc.call W 5 1 1 2 y y1;refine⟨c1,λi A L e=>?_,jf c6 T,⟨⟨z,z1,z2.H y2,z3.H y3⟩,x,by rwa[hc]at P,x3,by rw[x4,M];rfl⟩,Eg h.p.k h.s 5 1 1 bz⟩;obtain⟨d1,Q⟩|⟨_,_,d⟩:=c2 i A L
 .have:i=0:=by have:=(aj.1 Q).1;omega
  subst this;exact h.q A Q e
 omega
def Pt.lf(h:Pt S W):W.lf.2=true/\Pt S W.lf.1:=by obtain⟨j,y,A,H,_⟩:=h.p.X6 h.q;exact⟨j,y,A,by rw[H];exact h.l,h.t.kc (Kc.lf W),LV h.p h.s⟩
def Pt.jK(h:Pt S W)(a j t:Int):Pt S (W.jK a j t):=by obtain⟨A,H,L,M,y,P,Q⟩:=wM h.p.k a j t;exact⟨h.p.jK a j t,(Ec.jK h.p a j t).q2 h.q,by rw[y];exact h.l,h.t.kc (Kc.jK W a j t),KD h.p.k h.s a j t⟩
def Pt.call(h:Pt S W){kind:Int}(j:kind=1\/kind=2)(a b:Int):Pt S (W.call kind a b):=by obtain⟨c1,c2⟩:=h.p.call h.q j a b;obtain⟨_,_,_,_,y,_⟩:=xj h.p.k kind a b C;exact⟨c1,c2,by rw[y];exact h.l,h.t.kc (Kc.call W kind a b),Eg h.p.k h.s kind a b C⟩
def Pt.calm(h:Pt S W):∃V,V=({W with iP:=[]}:Wd)/\(∀k,k<80->(V.nA k).round.2=true)/\(∀c∈(V.nA 80).gF,c.fin≠0)/\Sf S (V.nA 80)/\Wk (V.nA 80)/\Tw (V.nA 80):=by
 refine⟨_,rfl,?_⟩;have A:Cm S ({W with iP:=[]}:Wd):=⟨h.p.qa ⟨bz,λx H=>mR H⟩,h.q,rfl,h.s⟩;have j:=h.p.k;have L:=by exact fF j.n1.2 j.c1.2
 obtain⟨M,P,y,Q⟩:=A.calm L;exact⟨M,P,y.p.f,y.p.k,Tw.kc (W:={W with iP:=[]}) h.t (Kc.nA _ 80)⟩
section
variable{K:Kn}
theorem XR(y:Wk W)(H:x∈W.gF){L:Nat}{kind:Int}{M:Ct}{j P:Int}(Q:L=x.b)(h:W.J x.a L kind M j P):kind=x.kind/\(kind=5->j=x.pos):=by
 obtain⟨c,c1,c2,T,c4,_,_,_,c8⟩:=h;obtain⟨A,Z,_⟩:=(y.ca x H).ac;have e:=D1 (by rw[((y.ac _ A Z).nm)];exact dU) c (aU.2 ⟨c1,mZ c2⟩) x (aU.2 ⟨H,bz⟩) (T.H Q)
 grind
theorem AD(y:Wk W)(A:SI S K F W)(h:x∈W.gF)(H:x.fin≠0)(T:x.kind=5):(x.r.wh=1/\∃e,K.In e/\x.pos∉(K.lay e).getD (x.pos/S.m).toNat [])\/(x.r.wh=6/\∃e,K.In e/\(K.lay e).getD (x.pos/S.m).toNat []=[x.pos]):=by
 obtain⟨kind,Z,j,iA,L,_,M⟩:=(A.ca x h H).r;obtain⟨k1,k2⟩:=XR y h rfl L;obtain⟨e,_⟩|⟨e,_⟩|⟨_,⟨P,Q⟩|⟨P,Q⟩⟩:=M
 .omega
 .omega
 all_goals grind
theorem IX(y:Kv S K)(A:S.m=2)(H:K.In e):∃ch,(K.lay e).getD 0 []=ch/\ch.Sublist [0,1]/\ch≠[]:=by
 have h:=y.Rp H;obtain⟨P,_⟩:=S.A;have L:(iR S.n S.m)[0]?=some [0,1]:=by unfold iR;rw[A,aK,cD C];rfl
 have M:0<(K.lay e).length:=by
  rw[h.1]
  grind
 have j:=ah M;refine⟨_[0],by rw[aS,j];rfl,h.2 0 _ _ j L⟩
theorem vJ(y:Kv S K)(A:S.m=2){e':Int}(H:K.In e)(j:K.In e')(M:e'<=e):((K.lay e).getD 0 []).Sublist ((K.lay e').getD 0 []):=by
 obtain⟨ch,c1,c2,P⟩:=IX y A H;obtain⟨Q,L,Z,T⟩:=IX y A j;have g:∀{e:Int} {ch:List Int},(K.lay e).getD 0 []=ch->ch≠[]->(K.lay e)[0]?=some ch:=fun{e ch} h hn=>by grind
 rw[c1,L];exact((y.sub H j.1 M).2 0 _ _ (g c1 P) (g L T)).1
theorem G2(hf:Sf S W)(hk:Wk W)(j:S.m=2)(ht:Tw W)(he:∀c∈W.gF,c.fin≠0):∃x y,W.gF[2]?=some x/\W.gF[3]?=some y/\((x.r.wh=6/\y.r.wh≠6)\/(x.r.wh≠6/\y.r.wh=6)):=by
 obtain⟨K,F,Z,_⟩:=hf;obtain⟨⟨x,x1,x2,x3⟩,y,y1,y2,y3⟩:=ht;have hx:=aR x1;have hy:=aR y1;have Q:=Z.k.toKv;have d0:((0:Int)/(S.m:Int)).toNat=0:=by rw[j];rfl
 have d1:((1:Int)/(S.m:Int)).toNat=0:=by rw[j];rfl
 refine⟨x,y,x1,y1,?_⟩;have hX:=AD hk Z hx (he x hx) x2;have hY:=AD hk Z hy (he y hy) y2;rw[x3,d0]at hX;rw[y3,d1]at hY;obtain⟨a1,e,A,H⟩|⟨a1,e,A,H⟩:=hX<;>obtain⟨b1,e',L,M⟩|⟨b1,e',L,M⟩:=hY
 .exfalso;have P:∀{e e':Int},K.In e->K.In e'->e'<=e->∀u T:Int,(u=0/\T=1)\/(u=1/\T=0)->u∉(K.lay e).getD 0 []->T∉(K.lay e').getD 0 []->False:=fun{e e'} h h' hl u T hu n1 n2=>by
   obtain⟨ch,c1,c2,c3⟩:=IX Q j h;have hs:=vJ Q j h h' hl
   grind
  obtain h|h:=Int.le_total e' e
  .exact P A L h 0 1 (.inl ⟨rfl,rfl⟩) H M
  exact P L A h 1 0 (.inr ⟨rfl,rfl⟩) M H
 .exact .inr ⟨C,b1⟩
 .exact .inl ⟨a1,C⟩
 exfalso;obtain h|h:=Int.le_total e' e
 .have:=vJ Q j A L h;rw[H,M]at this;exact absurd (this.subset (cw.2 rfl)) bT
 have:=vJ Q j L A h;rw[H,M]at this;exact absurd (this.subset (cw.2 rfl)) bT
end
section
variable{wr w2:World}{q:Nat}{B:List (Nat×Obj)}
def kM.Vh(h:kM w cP g W V){mv:Value}(j:nh w cP 6 3 1 mv ms.length (ms.map I)):kM (w.setCell (U g 10) mv) cP g {W with iP:=ms} {V with mv:=mv}:=by have k:j4 (λs=>s=1) w cP (w.setCell (U g 10) mv) cP:=mo h.tg 10 _;have y:=h.ht;exact⟨jO 10 _ w _ h.hg,h.tg,h.b.A k C λi _ _=>C,h.D.A k C λi _ _=>C,h.ca.A k C C λi _=>C,h.po.A k C C,h.ha.A k C,j.A k C,h.a,h.an,h.ht⟩
def Pd.iP(h:Pd S w wr g q cP B W)(j:Bl wr w2){gm:Nat}{f s:Int}(Q:wr.heap.size<=gm)(T:w2.heap[gm]?=some (ig #[I f,I s] 3 (0,0)))(M:(0<=f/\f<=31)/\0<=s/\s<=31)(H:KZ [f,s]):∃fz,Pd S w (w2.setCell (U g 10) (gK (G gm) 2 2)) g q fz B {W with iP:=[f,s]}:=by
 obtain⟨V,A⟩:=h.x;have Z:j4 (λt=>t≠0) wr cP w2 (ir cP wr.heap.size 6):=j4.A j λ_ j=>gV _ _ _ _ j;have P:=A.bl (fz:=ir cP wr.heap.size 6) j λ_ j=>gV _ _ _ _ j;have y:nh w2 (ir cP wr.heap.size 6) 6 3 1 (gK (G gm) 2 2) [f,s].length ([f,s].map I):=⟨DR T jR rfl (by unfold maxLen;decide),λb j=>by
  have:b=gm:=by simpa [Value.ownBlock]using j.symm
  rw[this]
  exact jc _ _ _ _ Q⟩
 have x2:=P.Vh y;have k2:j4 (λt=>t≠0) w2 (ir cP wr.heap.size 6) (w2.setCell (U g 10) (gK (G gm) 2 2)) (ir cP wr.heap.size 6):=(mo P.tg 10 _).L λt e=>C;have hm:[f,s].length<=2/\∀x∈[f,s],0<=x/\x<=31:=⟨Nat.le_refl 2,λx A=>by
  simp at A
  obtain rfl|rfl:=A
  .exact M.1
  .exact M.2⟩
 exact⟨_,h.next (Z.H k2) ⟨_,x2⟩ (h.f.qa _) (h.k.qa hm) H h.jl h.cl rfl jr⟩
def Pd.Wl(h:Pd S w wr g q cP B W):Pd S w (wr.setCell (U g 10) OO) g q cP B {W with iP:=[]}:=by obtain⟨V,j⟩:=h.x;have y:=j.Vh (ms:=[]) (nh.nil 6 3 1);have A:j4 (λt=>t≠0) wr cP (wr.setCell (U g 10) OO) cP:=(mo j.tg 10 _).L λt e=>C;exact h.next A ⟨_,y⟩ (h.f.qa _) (h.k.qa ⟨bT,λx j=>mR j⟩) wF h.jl h.cl rfl jr
end
theorem Ey(h:kM w cP g W V)(hm:W.iP.length<=2/\∀x∈W.iP,0<=x/\x<=31)(fr tt:Int)(da:Option Addr)(dn dc:Nat):iU 100 #[O g,.agg #[I fr,I tt,gK da dn dc]] w λen w'=>en=gU (.bool (W.j6 fr tt))/\Bl w w':=by
 obtain⟨ma,mc,al⟩:=h.ms.D;obtain⟨aa,ac,am⟩:=h.D.row.D;have bA:=(Bl.refl w).alloc (ig #[I fr,I tt,gK da dn dc] 138);have ai:=ao w (ig #[I fr,I tt,gK da dn dc] 138);obtain⟨W1,ap⟩:=gG (w.alloc (ig #[I fr,I tt,gK da dn dc] 138));rw[ap]at bA ai;have h1:=h.bl (fz:=cP) bA λb hb=>rfl;obtain⟨aq,c5⟩:=h1.R 10 5 rfl;rw[al]at aq;rw[am]at c5;have lg:=h1.lt;have an:=h.an;obtain⟨HB,H1,a1⟩:=iI bA h1 ai;obtain⟨aY,Hm⟩:=gO ap hm;clear h bA hm h1 ai;go_enter func100,ntmps100;go_wp2_with fail;go_loopw[5](λi wr=>∃(k:Nat),k<=min W.iP.length W.ac.length/\i=I k/\Hid (Bl W1 wr)/\Hid (∀j,j<k->sg fr tt (ja j) (W.iP.getD j 0)=false)) λi _=>2-(intOf i).toNat
 case atStart=>exact⟨0,jR,rfl,gN (by rw[<-aY.o];exact jZ),λj hj=>absurd hj C⟩
 obtain⟨k,hk,rfl,y,HK⟩:=hrel;have T:=y.o;obtain⟨b5,d5⟩:=T.D lg aq c5;have b6:=af lg T.lt;have b7:w.heap.size<wr.heap.size:=af (ae.1 a1).1 T.lt;have x0:wr.cell? (U w.heap.size 0)=some (I fr):=(T.cell (ae.1 a1).1).H (ax _ _ 0 _ 138 (0,0) a1);have x1:wr.cell? (U w.heap.size 1)=some (I tt):=(T.cell (ae.1 a1).1).H (ax _ _ 1 _ 138 (0,0) a1);by_cases jt:k<min W.iP.length W.ac.length
 .have ar:(k:Int)<(W.iP.length:Int):=C;have b0:(k:Int)<(W.ac.length:Int):=C;have a7:=H1.bl (fz:=cP) T ib;have a2:=a7.D.row;rw[am]at a2;obtain⟨ab,rfl,_,b8,a9,_⟩:=a2.cells C;obtain⟨Q,hQ⟩:∃Q,W.ac[k]?=some Q:=⟨_,ah C⟩;obtain⟨p,qb,⟨e0,_,_⟩,_⟩:=a7.D.ac k Q hQ;have d0:=(a9 (k*3) C).H e0;have a3:=a7.ms;rw[al]at a3;obtain⟨mb,rfl,_,b9,ad,_⟩:=a3.cells C;obtain⟨mk,a8⟩:∃mk,W.iP[k]?=some mk:=⟨_,ah C⟩;have au:W.iP.getD k 0=mk:=by rw[aS,a8];rfl
  have ba:=Hm.2 mk (aR a8);have m0:wr.cell? (U mb k)=some (I mk):=(ad k C).H (by rw[aK,a8];rfl);obtain⟨P,a4⟩:=gG (ja k);rw[a4]at d0;obtain⟨ag,av⟩:=gO a4 au;clear T a7 a2 a9 e0 a3 ad a8 au a4 hQ;go_upto_region 5 with fail;go_quiet(fail);obtain⟨vt,b1⟩:=gG (IntKind.i64.wrap (tt-100));obtain⟨A,b2⟩:=gG (IntKind.i64.wrap (fr-100));have b3:Hid (Nj (tt-100)=vt):=gN (by rw[<-b1,IntKind.wrap_i64];unfold Nj;omega);have aw:Hid (Nj (fr-100)=A):=gN (by rw[<-b2,IntKind.wrap_i64];unfold Nj;omega);have L:Hid (2-(intOf (Value.int IntKind.i64 ((k:Int)+1))).toNat<2-(intOf (Value.int IntKind.i64 (k:Int))).toNat):=gN (by
   have:=Hm.1
   show 2-((k:Int)+1).toNat<2-(k:Int).toNat
   omega)
  have M:Hid (sg fr tt P mk=false->∀j,j<k+1->sg fr tt (ja j) (W.iP.getD j 0)=false):=λhp j hj=>by
   by_cases e:j=k
   .rw[e,ag.o,av.o];exact hp
   exact HK j C
  have a5:Hid (sg fr tt P mk=true->W.j6 fr tt=true):=λhp=>by unfold Wd.j6;exact cK.2 ⟨k,di.2 jt,by rw[ag.o,av.o];exact hp⟩
  by_cases hf:fr=P
  .subst hf;go_upto_region 7 with fail;go_quiet(fail);by_cases ht:tt=fr
   .have ak:decide (tt=fr)=true:=by simpa using ht
    have Hp:Hid (sg fr tt fr mk=(decide (0<=A)&&decide (A<5)&&decide ((mk>>>A.toNat)%2=0))):=gN (by simp[sg,ht,aw.o]);go_upto_region 9 with fail;by_cases h0:0<=A
    .by_cases h5:A<5
     .have Z:decide (0<=A)=true:=by simpa using h0
      have a6:decide (A<5)=true:=je h5;have hc:A=0\/A=1\/A=2\/A=3\/A=4:=C;have a0:Hid (∀n:Nat,mk>>>n=mk/((2^n:Nat):Int)):=gN λn=>Int.shiftRight_eq_div_pow mk n;obtain rfl|rfl|rfl|rfl|rfl:=hc;all_goals
       go_wp2
       .rename_i hh;have hy:=a5 (by rw[Hp.o,a0.o];simp at hh|-;omega);go_ret;exact⟨by rw[hy];rfl,HB.H (y.drewN _)⟩
       rename_i hh;exact⟨⟨k+1,C,iq,gN (y.drewN _),gN (M (by rw[Hp.o,a0.o];simp at hh|-;omega))⟩,L⟩
     have Z:decide (0<=A)=true:=by simpa using h0
     have a6:decide (A<5)=false:=je h5;go_wp2;exact⟨⟨k+1,C,iq,gN (y.drewN _),gN (M (by rw[Hp.o];simp[h5]))⟩,L⟩
    have Z:decide (0<=A)=false:=by simpa using h0
    go_wp2;exact⟨⟨k+1,C,iq,gN (y.drewN _),gN (M (by rw[Hp.o];simp[h0]))⟩,L⟩
   have ak:decide (tt=fr)=false:=by simpa using ht
   have Hp:Hid (sg fr tt fr mk=(decide (0<=vt)&&decide (vt<5)&&decide ((mk>>>vt.toNat)%2=0))):=gN (by simp[sg,ht,b3.o]);go_upto_region 9 with fail;by_cases h0:0<=vt
   .by_cases h5:vt<5
    .have Z:decide (0<=vt)=true:=by simpa using h0
     have a6:decide (vt<5)=true:=je h5;have hc:vt=0\/vt=1\/vt=2\/vt=3\/vt=4:=C;have a0:Hid (∀n:Nat,mk>>>n=mk/((2^n:Nat):Int)):=gN λn=>Int.shiftRight_eq_div_pow mk n;obtain rfl|rfl|rfl|rfl|rfl:=hc;all_goals
      go_wp2
      .rename_i hh;have hy:=a5 (by rw[Hp.o,a0.o];simp at hh|-;omega);go_ret;exact⟨by rw[hy];rfl,HB.H (y.drewN _)⟩
      rename_i hh;exact⟨⟨k+1,C,iq,gN (y.drewN _),gN (M (by rw[Hp.o,a0.o];simp at hh|-;omega))⟩,L⟩
    have Z:decide (0<=vt)=true:=by simpa using h0
    have a6:decide (vt<5)=false:=je h5;go_wp2;exact⟨⟨k+1,C,iq,gN (y.drewN _),gN (M (by rw[Hp.o];simp[h5]))⟩,L⟩
   have Z:decide (0<=vt)=false:=by simpa using h0
   go_wp2;exact⟨⟨k+1,C,iq,gN (y.drewN _),gN (M (by rw[Hp.o];simp[h0]))⟩,L⟩
  have bb:decide (fr=P)=false:=by simpa using hf
  go_upto_region 7 with fail;go_quiet(fail);by_cases ht:tt=P
  .have ak:decide (tt=P)=true:=by simpa using ht
   have Hp:Hid (sg fr tt P mk=(decide (0<=A)&&decide (A<5)&&decide ((mk>>>A.toNat)%2=0))):=gN (by simp[sg,ht,aw.o]);go_upto_region 9 with fail;by_cases h0:0<=A
   .by_cases h5:A<5
    .have Z:decide (0<=A)=true:=by simpa using h0
     have a6:decide (A<5)=true:=je h5;have hc:A=0\/A=1\/A=2\/A=3\/A=4:=C;have a0:Hid (∀n:Nat,mk>>>n=mk/((2^n:Nat):Int)):=gN λn=>Int.shiftRight_eq_div_pow mk n;obtain rfl|rfl|rfl|rfl|rfl:=hc;all_goals
      go_wp2
      .rename_i hh;have hy:=a5 (by rw[Hp.o,a0.o];simp at hh|-;omega);go_ret;exact⟨by rw[hy];rfl,HB.H (y.drewN _)⟩
      rename_i hh;exact⟨⟨k+1,C,iq,gN (y.drewN _),gN (M (by rw[Hp.o,a0.o];simp at hh|-;omega))⟩,L⟩
    have Z:decide (0<=A)=true:=by simpa using h0
    have a6:decide (A<5)=false:=je h5;go_wp2;exact⟨⟨k+1,C,iq,gN (y.drewN _),gN (M (by rw[Hp.o];simp[h5]))⟩,L⟩
   have Z:decide (0<=A)=false:=by simpa using h0
   go_wp2;exact⟨⟨k+1,C,iq,gN (y.drewN _),gN (M (by rw[Hp.o];simp[h0]))⟩,L⟩
  have ak:decide (tt=P)=false:=by simpa using ht
  have hp:sg fr tt P mk=false:=by simp[sg,hf,ht]
  go_wp2;exact⟨⟨k+1,C,iq,gN (y.drewN _),gN (M hp)⟩,L⟩
 have b4:k=min W.iP.length W.ac.length:=C;have Hn:Hid (W.j6 fr tt=false):=gN (by
  unfold Wd.j6
  refine dm.2 λj hj=>?_
  rw[HK.o j (by rw[b4];exact di.1 hj)]
  decide)
 clear T;by_cases bc:k<W.iP.length
 .have ar:(k:Int)<(W.iP.length:Int):=C;have b0:¬(k:Int)<(W.ac.length:Int):=C;go_wp2;go_ret;exact⟨by rw[Hn.o];rfl,HB.H y⟩
 have ar:¬(k:Int)<(W.iP.length:Int):=C;go_wp2;go_ret;exact⟨by rw[Hn.o];rfl,HB.H y⟩
def TI(j:ms.length<=2/\∀x∈ms,0<=x/\x<=31):KZ ms:=⟨λh y fr tt A dn H=>Ey h (jf y j) fr tt A dn H⟩
def Zl:∀n∈[1,2,3],∀v∈[1,3,5],∀ce∈[1,2,3,4,5],((Wd.start n 2 v ce).XK&&(Wd.start n 2 v ce).Oo.OU n)=true:=by decide+kernel
def U9(S:Cf)(y:S.m=2)(H:S.v=1\/S.v=3\/S.v=5)(A:S.ce<=5):(Wd.start S.n S.m S.v S.ce).XK=true/\Bg S (Wd.start S.n S.m S.v S.ce).Oo.ks:=by have L:=S.A;have h:=Zl S.n ik S.v ik S.ce ik;rw[<-y,bL]at h;have j:=Lc (Cc S);exact⟨h.1,YV j.k j.f h.2⟩
end Go.Proofs.YtbghhbpacijmmaaGreat
