import Derived.Test.YtbghhbpacijmmaaGreatL10
open Go.Proofs.Tryz
namespace Go.Proofs.YtbghhbpacijmmaaGreat
set_option maxRecDepth 99999
set_option maxHeartbeats 0
set_option linter.defProp false
open Go.RowKit Go.Maps
attribute [local go_sem ↓] Go.wp_at_zero Go.wp_at_succ
variable {xs cs ps ls aw:List Value} {b b':Bd} {W W':Wd} {i g n t m p v lc ce sz mk iH tp gi:Nat} {X X':Cx} {w w' w2:World} {la ga:Option Addr} {e:TypeId} {l:Le} {c c' c0 d:jf} {k fr a nr ch:Int} {P Q:Nat->Prop} {A:Ac} {aY qb T bp tag2:Nat->Nat} {q:List Qe} {r:Rz} {iQ:Int->Prop} {po iq:List Le} {pl:List Pl} {bx:List Kl} {R:Rq->Prop} {s:St} {N:Pn} {pv lv u:Value} {zz:List (Int×Vo)} {ac:List Ac}
def Xk.MQ(h:Xk b X):((X.n:Int)*X.ce)<=48:=by have:=IV h.n1.2 h.c1.2;omega
def Xk.oH(h:Xk b X)(y:c0∈X.dd)(D:c'.gH=c0.gH)(F:c'.im=c0.im)(j:qD b X.n X.m X.ce c')(S:c'.kind=2)(H:c'.iS<X.n*X.ce):Xk (b.up 1) (X.oH c'):=by obtain⟨L,V,Y,M⟩:=h.ry (h.td j.ad.1);have:=h.MQ;have:=j.ad.1;exact h.qF y D F j ⟨C,λ_=>H,C,L,M,.inr (.inl rfl),C,Jd h,λe=>absurd e au,λ_=>rfl,λe=>absurd e au⟩
def Xk.ku(h:Xk b X)(D:c0∈X.dd)(F:c'.gH=c0.gH)(H:c'.im=c0.im)(j:qD b X.n X.m X.ce c')(L:c'.kind=1\/c'.kind=3)(M:c'.iS<X.n*X.ce)(S:c'.iA<(X.chain c'.iS).length)(y:qd c'.iR.kd c'.iR.val.length=true):Xk (b.up 1) (X.ku c'):=by obtain⟨V,Y,Z,h4⟩:=h.ry (h.td j.ad.1);have:=h.MQ;have:=j.ad.1;refine h.qF D F H j ⟨C,λ_=>M,aq,aq,λu hu=>?_,.inl rfl,C,j.iR,λ_=>⟨y,y,L⟩,λe=>absurd rfl e,λe=>absurd e au⟩;simp_all
def qD.ends(h:qD b n m ce c)(j:P5 r):qD b n m ce {c with e:=r}:=⟨h.kd,h.ad,h.un,h.gZ,h.o1,h.iR,h.pl,j,h.ln,h.st⟩
def Xk.oO(h:Xk b X)(D:c0∈X.dd)(F:c'.gH=c0.gH)(H:c'.im=c0.im)(L:qD b X.n X.m X.ce c')(M:c'.kind≠5)(S:c'.kind≠4->c'.iS<X.n*X.ce){j:Int}(V:0<=j/\j<=48)(Y:P5 r)(y:r.wh≠0):Xk (b.up 1) (X.oO c' j r):=by obtain⟨Z,h2,h3⟩:=h.all;exact h.qF (c':={c' with e:=r}) D F H (L.ends Y) ⟨M,S,C,Z,h3,.inr (.inr rfl),V,Jd h,λe=>absurd e au,λ_=>rfl,λ_=>y⟩
def Xk.fin(h:Xk b X)(M:c0∈X.dd)(S:c.gH=c0.gH)(Y:P5 r)(L:r.wh≠0):Xk b (X.fin c r):=by
 have D:(X.fin c r).dd.Sublist X.dd:=cE;refine⟨h.n1,h.m1,h.v1,h.v2,h.c1,h.id,h.lay,h.e,h.t,h.me,h.ba,h.mb,h.d,by show((X.res.set c.gH r).length:Int)<=_;rw[bK];exact h.f,λx F=>?_,aF D.length_le h.pl,λd y=>h.a d (D.subset y),h.pr,h.sl,h.vt,h.bg,h.bl,h.mv,λd y e Z=>h.nk d (D.subset y) e (D.subset Z),⟨h.pd.gH.sublist D,λd y=>by show d.gH<(X.res.set c.gH r).length;rw[bK];exact h.pd.lt d (D.subset y),h.pd.im.sublist D,λd y=>h.pd.a d (D.subset y)⟩,λk x F=>?_,λk x F V=>?_,h.cf⟩
 rotate_left
 .have j:(X.res.set c.gH r)[k]?=some x:=F;by_cases H:c.gH=k
  .subst H;rw[aQ (by rw[S];exact h.pd.lt c0 M)]at j;simp only[aJ]at j;subst j;refine⟨λe=>absurd e L,λ⟨d,y,e⟩=>?_⟩;have:=(aU.1 y).2;simp[e]at this
  rw[aH H]at j;rw[h.rp k x j];exact⟨λ⟨d,y,e⟩=>⟨d,aU.2 ⟨y,gM⟩,e⟩,λ⟨d,y,e⟩=>⟨d,D.subset y,e⟩⟩
 .have j:=h.oj k x F V;show(X.res.set c.gH r)[k]?=some x;by_cases H:c.gH=k
  .exact absurd ((h.rp k x j).2 ⟨c0,M,qO S H⟩) V
  rw[aH H];exact j
 obtain h1|rfl:=fN F
 .exact h.rv x h1
 exact Y
def pS(wh)(h:0<=wh/\wh<=10):P5 ⟨wh,0,[]⟩:=⟨h,⟨aA 0,by show(0:Int)<=48;omega⟩,jd,by simp[mA]⟩
def SH(a)(h:0<=a/\a<=48):P5 ⟨1,a,[]⟩:=⟨⟨by show(0:Int)<=1;omega,by show(1:Int)<=10;omega⟩,h,jd,by simp[mA]⟩
def IN{t:Ct}(h:Fw b t):P5 (Cx.oz t):=⟨⟨h.kd.1,by have:=h.kd.2;show t.kd<=10;omega⟩,⟨aA 0,by show(0:Int)<=48;omega⟩,h.vl,h.a⟩
def Of(h:qd k n=true):k≠0:=by intro e;subst e;contradiction
theorem oY{l m:List Int}(F:l.Nodup)(h:∀x∈l,x∈m):l.length<=m.length:=by
 induction l generalizing m with
 |nil=>simp
 |cons x l H=>have j:=h x (aN ..);obtain⟨L,M⟩:=bY.1 F;have:=H (m:=m.erase x) M λy D=>(List.mem_erase_of_ne λe=>L (qO e D)).2 (h y (aX _ D));rw[List.length_erase_of_mem j]at this;have:=cJ j;simp;omega
def Bv{l m:List Int}(j:l.Nodup)(h:∀x∈l,x∈m)(H:m.length<=l.length){y:Int}(D:y∈m):y∈l:=by
 by_cases F:y∈l
 .omega
 have:=oY (bY.2 ⟨F,j⟩) λx hx=>by
  obtain rfl|hx:=bh.1 hx
  .exact D
  simp_all
 simp at this;omega
theorem De{q:Qn An}(h:QU b n m q)(L:q.nodes≠[])(F:q.nodes.length<=q.B.length)(j:q.count (λa=>a.wh==2)=q.nodes.length):∃z∈q.B,(((q.B.find? λz=>z.1==q.nodes.headD 0).map λz=>z.2.ct).getD no)=z.2.ct/\z.2.wh=2:=by
 have H:∀z∈q.B,z.2.wh=2:=by
  have Y:(q.B.filter λz=>z.2.wh==2).length=q.B.length:=by
   have Z:=oY h.an (λx M=>by
    obtain⟨z,D,rfl⟩:=aD.1 M
    exact h.ai z D)
   rw[ay]at Z;unfold Qn.count at j;dsimp only at j;omega
  intro z D;have:=eh.1 Y z D;simpa using this
 obtain⟨y,ys,hy⟩:=bQ L;have S:=Bv h.an (λx M=>by
  obtain⟨z,D,rfl⟩:=aD.1 M
  exact h.ai z D) (by rw[ay];exact F) (show y∈q.nodes by rw[hy];exact aN ..)
 obtain⟨z,D,a0⟩:=aD.1 S
 cases e:q.B.find? _ with
 |none=>have:=bU.1 e z D;simp_all
 |some V=>exact⟨V,bu e,rfl,H V (bu e)⟩
def Xk.dO(h:Xk b X)(y:c0∈X.dd)(D:c'.gH=c0.gH)(F:c'.im=c0.im)(j:qD b X.n X.m X.ce c')(L:c'.kind≠4->c'.kind≠5->c'.iS<X.n*X.ce):Xk (b.up 1) (X.dO c'):=by
 unfold Cx.dO;split
 .rename_i M;have H:qD b X.n X.m X.ce {c' with iR:=c'.gZ,iA:=0}:=⟨j.kd,j.ad,j.un,j.gZ,j.o1,j.gZ,jd,j.e,j.ln,j.st⟩;exact h.ku y D F H M (L C C) (h.ry (h.td j.ad.1)).2.1 (j.o1 M)
 split
 .exact h.oH y D F j (by assumption) (L C C)
 split
 .have:=h.MQ;have:=j.ad;exact h.oO y D F j C (λe=>absurd (by assumption) e) C (pS 1 au) au
 exact h.L (b.F au)
def Xk.jO(h:Xk b X)(y:c0∈X.dd)(D:c'.gH=c0.gH)(H:c'.im=c0.im)(j:qD b X.n X.m X.ce c')(M:c'.kind=1\/c'.kind=3)(S:c'.iS<X.n*X.ce)(F:qd c'.iR.kd c'.iR.val.length=true):Xk (b.up 1) (X.jO c'):=by
 obtain⟨V,Y,Z,h4⟩:=h.ry (h.td j.ad.1);have:=h.MQ;have:=j.ad.1;unfold Cx.jO;split
 .exact h.ku y D H ⟨j.kd,j.ad,j.un,j.gZ,j.o1,j.iR,by show c'.iA+1<=3;omega,j.e,j.ln,j.st⟩ M S (by assumption) F
 split
 .exact(h.fin y D (SH c'.iS C) (show(1:Int)≠0 by decide)).L (b.F au)
 exact(h.fin y D (IN j.iR) (Of F)).L (b.F au)
def Xk.drop(h:Xk b X)(y:c0∈X.dd)(D:c'.gH=c0.gH)(F:c'.im=c0.im)(j:qD b X.n X.m X.ce c')(H:c'.kind=1):Xk b (X.put {c' with q:=Qn.zero}):=
 h.put y D F ⟨⟨j.kd,j.ad,j.un,j.gZ,j.o1,j.iR,j.pl,j.e,j.ln,j.st⟩,λ_ _ e=>by obtain e|e:=e<;>(first|exact absurd rfl e|exact absurd H e),λ_=>rfl,λe=>absurd (show(0:Int)=2 from e) au,QK.zero,λe=>absurd rfl e,λe=>absurd (show(0:Int)=4 from e) au⟩ λe=>absurd rfl e
def Xk.ld(h:Xk b X)(H:c∈X.dd){A:An}(Y:Fh b A)(S:c.q.nodes≠[]):Xk (b.up 1) (X.ld c A):=by
 have M:=h.a c H;have D:=M.toqD;have j:=b.F (k:=1) au;have y:Xk b (X.put c):=h.put H rfl rfl M λe d hd h1 h2 h3=>h1 (by rw[h.nk d hd c H h2 e h3]);have Z:c.kind≠5:=λe=>S (M.u0 e);have F:c.kind≠4->c.iS<X.n*X.ce:=λe=>M.a1 e Z (.inl S);unfold Cx.ld;split
 .unfold Cx.lj;split
  .exact h.oO H rfl rfl D Z F Y.EB (pS 4 au) au
  split
  .exact y.L j
  split
  .rename_i a4 a0;obtain⟨z,hz,e,V⟩:=De M.q S C a0;rw[e];have a1:=M.q.ak z hz;exact(h.fin H rfl (IN (b:=b) a1.ct) (Of (a1.tk V))).L j
  exact(h.fin H rfl (pS 3 au) au).L j
 split
 .rename_i a2;obtain⟨g1,g2⟩:=M.c2 a2;unfold Cx.mN;split
  .exact h.jO H rfl rfl D g2 (F C) g1
  split
  .rename_i V;unfold Cx.oe;split
   .rename_i hq;exact(h.drop H rfl rfl D hq.1).L j
   exact h.jO (c':={c with iR:=A.ct}) H rfl rfl ⟨D.kd,D.ad,D.un,D.gZ,D.o1,Y.ct,D.pl,D.e,D.ln,D.st⟩ g2 (F C) (Y.tk V)
  split
  .unfold Cx.kU;have:=h.MQ;have:=D.ad.1;have:=F C;split
   .split
    .exact h.oO H rfl rfl D Z F Y.EB (SH c.iS C) (show(1:Int)≠0 by decide)
    exact h.oO H rfl rfl D Z F Y.EB (pS 9 au) au
   split
   .rename_i hq;exact(h.drop H rfl rfl D hq).L j
   exact h.oO H rfl rfl D Z F Y.EB (pS 4 au) au
  exact y.L j
 split
 .split
  .rename_i a3 _;exact(h.fin H rfl D.e (M.e1 a3)).L j
  exact y.L j
 exact y.L j
def Xk.Va(h:Xk b X)(D:c∈X.dd)(F:c.q.E nr fr=true){A:An}(H:Fh b A):Xk b (X.put {c with q:=c.q.add fr A}):=by have y:=h.a c D;have j:=y.toqD;exact h.put D rfl rfl ⟨⟨j.kd,j.ad,j.un,j.gZ,j.o1,j.iR,j.pl,j.e,j.ln,j.st⟩,y.a1,y.u0,y.c2,y.q.add F H,y.nr,y.e1⟩ λe d L M S V=>M (by rw[h.nk d L c D S e V])
def OK(j:c∈X.dd)(y:c'.gH=c.gH):c'∈(X.put c').dd:=aD.2 ⟨c,j,by rw[aE y.symm]⟩
def JJ(X:Cx):X.vQ.Nodup/\X.vQ.length=X.vo/\∀u∈X.vQ,BU X.vo u:=by
 unfold Cx.vQ;refine⟨?_,aq,λu j=>?_⟩
 .refine cj.2 (List.Pairwise.imp (λh=>?_) dU);omega
 obtain⟨i,y,rfl⟩:=aD.1 j;have:=di.1 y;unfold BU;omega
def Xk.vE(h:Xk b X){M:Mv}(j:0<=M.c/\M.c<=b.E+1)(y:0<=M.jB/\M.jB<=b.B)(D:QU b X.n X.m M.b)(F:QW b X.vo M.a)(H:∀z∈M.E,CU b z.2)(L:M.E.length<=14)(mv:M.value.length<=255/\mA M.value):Xk b {X with mv:=M}:=
 ⟨h.n1,h.m1,h.v1,h.v2,h.c1,h.id,h.lay,h.e,h.t,j,h.ba,y,h.d,h.f,h.rv,h.pl,h.a,h.pr,D,F,H,L,mv,h.nk,⟨h.pd.gH,h.pd.lt,h.pd.im,h.pd.a⟩,h.rp,h.oj,h.cf⟩
def Xk.VX(h:Xk b X){e:Int}(j:0<=e/\e<=b.E+1)(ch):Xk b {X with mv:={Mv.zero with c:=e,uk:=ch}}:=
 h.vE j ⟨aA 0,by have:=h.ba;show(0:Int)<=b.B;omega⟩ QK.zero QK.zero (λz y=>by simp[Mv.zero]at y) jd ⟨jd,by simp[Mv.zero,mA]⟩
def Xk.GB(h:Xk b X):Xk b {X with mv:=Mv.zero}:=h.VX ⟨au,gI h.e⟩ false
def Xk.kD(h:Xk b X){j pl:Int}{val:List Int}(F:j=5\/j=6\/j=7)(H:0<=pl/\pl<=b.B)(D:val.length<=255/\mA val)(L:j≠6->val=[]):Xk (b.up 1) (X.kD j pl val):=by obtain⟨M,Y,S⟩:=JJ X;have V:=h.v1;have y:=h.J;refine y.vE y.me y.mb y.sl ⟨λ_=>⟨⟨⟨by show(0:Int)<=9;omega,by show(9:Int)<10;omega⟩,⟨by have:=h.d.1;show 0<=X.iu+1;omega,by have:=h.d.2;show X.iu+1<=b.K+1;omega⟩,h.me⟩,F,H,⟨rfl,rfl,rfl⟩,D.1,D.2,L⟩,by show X.vQ.length<=14;omega,M,S,by simp[Qn.new],by simp[Qn.new],by simp[Qn.new],by show 0<=j/\j<=7;omega,D.1⟩ y.bg y.bl y.mv
def Xk.jn(h:Xk b X):Xk (b.up 1) X.jn:=by have j:=h.e;have y:=h.t;exact(h.VX C _).kD (.inr (.inr rfl)) ⟨aA 0,gI h.ba⟩ ⟨jd,by simp[mA]⟩ λ_=>rfl
def IP(h:Xk b X){ln e:Int}(j:0<=ln/\ln<10)(y:0<=e/\e<=b.E+1):QU (b.up 1) X.n X.m (Qn.new (kz X.lay) ⟨1,ln,X.iu+1,e,0,no⟩):=by obtain⟨D,H,F⟩:=h.all;exact⟨λ_=>⟨⟨j,⟨by have:=h.d.1;show 0<=X.iu+1;omega,by have:=h.d.2;show X.iu+1<=b.K+1;omega⟩,y⟩,.inl rfl,⟨aA 0,by show(0:Int)<=48;omega⟩,(Jd h).L (b.F au).toln,λe=>absurd (show(1:Int)=2 from e) au,λ_=>rfl⟩,by show(kz X.lay).length<=14;omega,D,F,by simp[Qn.new],by simp[Qn.new],by simp[Qn.new],by show(0:Int)<=1/\1<=7;omega,by simp[Qn.new,no]⟩
def Xk.jR(h:Xk b X):Xk (b.up 1) X.jR:=by have j:=h.J;have y:=h.e;exact⟨h.n1,h.m1,h.v1,h.v2,h.c1,h.id,h.lay,j.e,j.t,j.me,j.ba,j.mb,j.d,j.f,h.rv,h.pl,j.a,IP h au C,j.sl,j.vt,j.bg,h.bl,h.mv,h.nk,⟨h.pd.gH,h.pd.lt,h.pd.im,h.pd.a⟩,h.rp,h.oj,h.cf⟩
def Xk.LZ(h:Xk b X){e:Int}(j:0<=e/\e<=b.E+1):Xk b {X with kH:=e}:=
 ⟨h.n1,h.m1,h.v1,h.v2,h.c1,h.id,h.lay,h.e,j,h.me,h.ba,h.mb,h.d,h.f,h.rv,h.pl,h.a,h.pr,h.sl,h.vt,h.bg,h.bl,h.mv,h.nk,⟨h.pd.gH,h.pd.lt,h.pd.im,h.pd.a⟩,h.rp,h.oj,h.cf⟩
def Xk.iz(h:Xk b X){e:Int}(j:0<=e/\e<=b.E+1):Xk (b.up 1) (X.iz e):=by
 unfold Cx.iz;split
 .exact h.L (b.F au)
 split
 .exact(h.LZ j).jn
 exact(h.LZ j).L (b.F au)
def Xk.waits(h:Xk b X)(wb wl):Xk b {X with wb:=wb,wl:=wl}:=
 ⟨h.n1,h.m1,h.v1,h.v2,h.c1,h.id,h.lay,h.e,h.t,h.me,h.ba,h.mb,h.d,h.f,h.rv,h.pl,h.a,h.pr,h.sl,h.vt,h.bg,h.bl,h.mv,h.nk,⟨h.pd.gH,h.pd.lt,h.pd.im,h.pd.a⟩,h.rp,h.oj,h.cf⟩
def Xk.rL(h:Xk b X):Xk (b.up 1) X.rL:=by have j:=h.J;exact j.vE j.me j.mb (IP h au h.me) j.vt j.bg j.bl j.mv
def Bd.MU(b:Bd):Bd:={b with B:=b.B+200}
def Bd.C0(b:Bd):b.le b.MU:=⟨⟨iI,iI,iI,by show b.B<=b.B+200;omega⟩,Gh.le.refl _⟩
theorem xr:∀(l:List (Int×Vo)) (m B:Int),0<=m->m<=B->(∀z∈l,z.2.pr<=B)->0<=l.foldl (λb z=>max b z.2.pr) m/\l.foldl (λb z=>max b z.2.pr) m<=B
 |[],m,B,j,y,_=>⟨j,y⟩
 |z::l,m,B,j,y,h=>xr l (max m z.2.pr) B C (gI (h z (aN ..))) λz D=>h z (aX _ D)
def Xk.jD(h:Xk b X):0<=X.jD (ki X.mv.E)/\X.jD (ki X.mv.E)<=b.B+200:=by have j:=xr X.mv.E 0 b.B iI (gI h.ba) λz y=>(h.bg z y).pr.2;change 0<=ki X.mv.E/\ki X.mv.E<=b.B at j;unfold Cx.jD;have:=h.ba;have:=h.id;omega
def Xk.kL(h:Xk b X):Xk (b.MU.up 1) X.kL:=by
 unfold Cx.kL;split
 .exact(h.L b.C0).L (Bd.F _ au)
 have j:=h.L b.C0;have y:=h.jD;generalize X.jD _=D at*;have F:Xk b.MU {X with jB:=D}:=⟨h.n1,h.m1,h.v1,h.v2,h.c1,h.id,h.lay,j.e,j.t,j.me,y,j.mb,j.d,j.f,h.rv,h.pl,j.a,j.pr,j.sl,j.vt,j.bg,j.bl,j.mv,h.nk,⟨h.pd.gH,h.pd.lt,h.pd.im,h.pd.a⟩,h.rp,h.oj,h.cf⟩;exact(F.vE (M:={X.mv with jB:=D}) j.me y j.sl j.vt j.bg j.bl j.mv).kD (.inl rfl) y ⟨jd,by simp[mA]⟩ λ_=>rfl
def Xk.kC(h:Xk b X):Xk (b.MU.up 2) X.kC:=by
 have y:X.mv.a.B.length<=14:=by
  have j:=h.vt.an;have D:(X.mv.a.B.map (·.1)).length<=X.mv.a.nodes.length:=by refine oY j λx F=>?_;obtain⟨z,H,rfl⟩:=aD.1 F;exact h.vt.ai z H
  have:=h.vt.nl;simp at D;omega
 unfold Cx.kC;split
 .exact((h.waits true X.wl).L b.C0).L (Bd.F _ au)
 have j:Xk b {X with wb:=true,mv:={X.mv with E:=X.mv.a.B}}:=(h.waits true X.wl).vE h.me h.mb h.sl h.vt h.vt.ak y h.mv;dsimp only;split
 .exact j.kL.L (Bd.Oa au)
 exact j.rL.kL.L ⟨⟨iI,by show b.K+1+1<=b.K+2;omega,iI,iI⟩,Gh.le.refl _⟩
def Xk.kF(h:Xk b X)(j:c0∈X.dd)(y:c.gH=c0.gH):Xk b (X.kF c):=by
 unfold Cx.kF;split
 .split
  .exact h.fin j y (pS 6 au) au
  omega
 exact h.fin j y (pS 1 au) au
def Oc(j:d∈X.dd)(y:d.gH≠c'.gH):d∈(X.put c').dd:=aD.2 ⟨d,j,by rw[az y]⟩
def MN(j:d∈X.dd)(y:d.gH≠c.gH):d∈(X.fin c r).dd:=aU.2 ⟨j,iG y⟩
theorem LH(j:d∈X.dd)(y:d.gH≠c.gH):d∈(X.lT c).dd:=by
 unfold Cx.lT Cx.kF Cx.dO Cx.ku Cx.oH Cx.oO Cx.qF;repeat' split
 all_goals first
  |exact MN j y
  |exact j
  |exact Oc j y
def Xk.lT(h:Xk b X)(j:c∈X.dd):Xk (b.up 1) (X.lT c):=by
 have y:=h.a c j;unfold Cx.lT;split
 .exact(h.kF j rfl).L (b.F au)
 rename_i D;split
 .exact h.L (b.F au)
 rename_i F;refine h.dO j rfl rfl y.toqD λH _=>y.a1 H D ?_;by_cases M:c.kind=1
 .left;intro e;apply F;simp[Cx.lV,M,Qn.J,e]
 omega
theorem Xk.D7:∀(l:List jf) {b:Bd} {X:Cx},Xk b X->(∀c∈l,c∈X.dd)->l.Pairwise (λc d=>c.gH≠d.gH)->Xk (b.up l.length) (l.foldl Cx.lT X)
 |[],b,X,h,_,_=>h.L (b.F aq)
 |c::l,b,X,h,j,D=>by obtain⟨F,H⟩:=cI.1 D;have:=Xk.D7 l (h.lT (j c (aN ..))) (λd y=>LH (j d (aX _ y)) (F d y).symm) H;exact this.L ⟨⟨iI,by show b.K+1+_<=b.K+_;simp;omega,iI,iI⟩,Gh.le.refl _⟩
def Bd.go(b:Bd):Bd:={b with E:=b.E+1}
def Bd.Oj(b:Bd):b.le b.go:=⟨⟨by show b.E<=b.E+1;omega,iI,iI,iI⟩,Gh.le.refl _⟩
def Xk.nL(h:Xk b X)(v):Xk (b.go.up 9) (X.nL v):=by
 unfold Cx.nL;split
 .exact(h.GB.L b.Oj).L (Bd.F _ au)
 rename_i l F;have y:=(h.GB.waits false false).L b.Oj;have M:Xk b.go {X with c:=X.mv.c,lay:=l,mv:=Mv.zero,wb:=false,wl:=false}:=
  ⟨h.n1,h.m1,h.v1,h.v2,h.c1,h.id,(qw F).2.H h.lay,h.me,y.t,y.me,y.ba,y.mb,y.d,y.f,h.rv,h.pl,y.a,y.pr,y.sl,y.vt,y.bg,y.bl,y.mv,h.nk,⟨h.pd.gH,h.pd.lt,h.pd.im,h.pd.a⟩,h.rp,h.oj,h.cf⟩
 have V:=h.pl;have D:=(Xk.D7 X.dd M (λc S=>S) (h.pd.gH.imp λe=>C)).L (Bd.Oa (j:=8) C);dsimp only;split
 .exact D.jn.L ⟨⟨iI,by show b.K+8+1<=b.K+9;omega,iI,iI⟩,Gh.le.refl _⟩
 exact D.L (Bd.Oa au)
theorem xv:∀(l:List (Int×Vo)) (s:Int×List Int),l.foldl (λb z=>rT b z.2) s=s\/∃z∈l,l.foldl (λb z=>rT b z.2) s=(z.2.ba,z.2.val)
 |[],s=>.inl rfl
 |z::l,s=>by
  obtain e|⟨y,j,e⟩:=xv l (rT s z.2)
  .show l.foldl _ (rT s z.2)=s\/_;rw[dF,e];unfold rT;split
   .exact .inr ⟨z,aN ..,rfl⟩
   exact .inl rfl
  exact .inr ⟨y,aX _ j,by rw[dF];exact e⟩
def GI(l):jF l=(0,[])\/∃z∈l,jF l=(z.2.ba,z.2.val):=xv l _
def wZ{l:List (Int×Vo)}(h:∀z∈l,CU b z.2):(jF l).2.length<=255/\mA (jF l).2:=by
 obtain e|⟨z,j,e⟩:=GI l
 .rw[e];exact⟨jd,by simp[mA]⟩
 rw[e];exact⟨(h z j).vl,(h z j).a⟩
def zh(X:Cx)(l):(X.nH l).Sublist l:=cE
def Xk.kB(h:Xk b X){v:List Int}(j:X.kB=some v):v.length<=255/\mA v:=by
 unfold Cx.kB at j;split at j
 .simp at j;subst j;exact wZ λz D=>h.bg z ((zh X _).subset D)
 obtain⟨R,F,rfl⟩:=bN.1 j;obtain⟨M,S,H⟩:=h.all;have y:=(Cx.Bm F).1.all;have V:=tE h.n1.2 h.m1.2;refine⟨gI y.length_le,λu L=>?_⟩;have:=H u (y.subset L);unfold r8 at this;omega
theorem Xk.ko(h:Xk b X):Xk (b.up 1) X.ko:=by
 unfold Cx.ko;dsimp only;split
 .exact h.L (b.F au)
 have y:∀z∈X.nH (oB X.mv.a.B),CU b z.2:=λz D=>h.vt.ak z (List.filter_sublist.subset ((zh X _).subset D));have j:(if(jF (X.nH (oB X.mv.a.B))).1=0 then X.kB.getD []else(jF (X.nH (oB X.mv.a.B))).2).length<=255/\mA (if(jF (X.nH (oB X.mv.a.B))).1=0 then X.kB.getD []else(jF (X.nH (oB X.mv.a.B))).2):=by
  split
  .cases e:X.kB with
   |none=>exact⟨jd,by simp[mA]⟩
   |some v=>exact h.kB e
  exact wZ y
 generalize (if(jF _).1=0 then X.kB.getD []else(jF _).2)=val at j|-;exact(h.vE (M:={X.mv with value:=val}) h.me h.mb h.sl h.vt h.bg h.bl j).kD (.inr (.inl rfl)) h.mb j λe=>absurd rfl e
def Xk.lU(h:Xk b X):Xk (b.go.up 9) X.lU:=by
 unfold Cx.lU;split
 .exact h.nL _
 exact(h.L b.Oj).L (Bd.F _ au)
def Bd.ev(b:Bd):Bd:=⟨b.E+1,b.B+200,b.K+10,b.N,b.g⟩
def Bd.Sb(b:Bd):b.le b.ev:=⟨⟨by show b.E<=b.E+1;omega,by show b.K<=b.K+10;omega,iI,by show b.B<=b.B+200;omega⟩,Gh.le.refl _⟩
def Bd.Nc(b:Bd):(b.go.up 9).le b.ev:=⟨⟨iI,by show b.K+9<=b.K+10;omega,iI,by show b.B<=b.B+200;omega⟩,Gh.le.refl _⟩
def Bd.Sk(b:Bd)(h:k<=10):(b.up k).le b.ev:=⟨⟨by show b.E<=b.E+1;omega,by show b.K+k<=b.K+10;omega,iI,by show b.B<=b.B+200;omega⟩,Gh.le.refl _⟩
def Bd.IH(b:Bd)(h:k<=10):(b.MU.up k).le b.ev:=⟨⟨by show b.E<=b.E+1;omega,by show b.K+k<=b.K+10;omega,iI,iI⟩,Gh.le.refl _⟩
def Xk.lF(h:Xk b X):Xk b.ev X.lF:=by
 unfold Cx.lF;dsimp only;split
 .exact(h.nL _).L b.Nc
 split
 .exact h.L b.Sb
 split
 .exact(h.nL _).L b.Nc
 exact h.kC.L (b.IH au)
def Xk.lE(h:Xk b X):Xk b.ev X.lE:=by
 unfold Cx.lE;split
 .exact h.kL.L (b.IH au)
 split
 .exact h.ko.L (b.Sk au)
 exact h.L b.Sb
def Xk.M(h:Xk b X){v:Vo}(D:CU b v)(F:X.mv.a.E nr fr=true):Xk b {X with mv:={X.mv with a:=X.mv.a.add fr v,E:=if X.mv.a.a.kd=7/\X.mv.E≠[]then X.mv.a.B++[(fr,v)]else X.mv.E}}:=by
 have j:=h.vt.add F D;have M:(X.mv.a.B++[(fr,v)]).length<=14:=by
  have y:((X.mv.a.add fr v).B.map _).length<=X.mv.a.nodes.length:=oY j.an λx H=>by obtain⟨z,L,rfl⟩:=aD.1 H;exact j.ai z L
  have:=h.vt.nl;rw[ay]at y;exact aF y this
 refine h.vE h.me h.mb h.sl j ?_ ?_ h.mv
 .dsimp only;split
  .exact j.ak
  exact h.bg
 dsimp only;split
 .omega
 exact h.bl
def Bd.J(b:Bd):Bd:=⟨b.E+1,b.B+200,b.K+20,b.N,b.g⟩
def Bd.yF(b:Bd):b.le b.J:=⟨⟨by show b.E<=b.E+1;omega,by show b.K<=b.K+20;omega,iI,by show b.B<=b.B+200;omega⟩,Gh.le.refl _⟩
def Bd.M9(b:Bd)(h:k<=10):((b.up k).ev).le b.J:=⟨⟨by show b.E+1<=b.E+1;omega,by show b.K+k+10<=b.K+20;omega,iI,iI⟩,Gh.le.refl _⟩
def Bd.xk(b:Bd)(h:k<=20):(b.up k).le b.J:=⟨⟨by show b.E<=b.E+1;omega,by show b.K+k<=b.K+20;omega,iI,by show b.B<=b.B+200;omega⟩,Gh.le.refl _⟩
def Xk.pT(h:Xk b X){y:Int}{v:Vo}(F:CU b v)(H:0<=y/\y<=b.E+1):Xk b.J (X.pT fr nr y v):=by
 unfold Cx.pT;split
 .have D:=h.iz H;dsimp only;split
  .rename_i M;have j:=D.M (F.L (b.F au).toln) M;split
   .exact j.lF.L (b.M9 au)
   split
   .exact(j.ko.L (Bd.Sk _ au)).L (b.M9 au)
   split
   .exact(j.lU.L (Bd.Nc _)).L (b.M9 au)
   exact j.L (b.xk au)
  exact D.L (b.xk au)
 exact h.L b.yF
def Xk.jA(h:Xk b X){A:An}(j:Fh b A):Xk b.J (X.jA fr nr A):=by
 unfold Cx.jA;split
 .rename_i y;split
  .exact(h.iz j.ep).L (b.xk au)
  exact Xk.L ⟨h.n1,h.m1,h.v1,h.v2,h.c1,h.id,h.lay,h.e,h.t,h.me,h.ba,h.mb,h.d,h.f,h.rv,h.pl,h.a,h.pr.add y j,h.sl,h.vt,h.bg,h.bl,h.mv,h.nk,⟨h.pd.gH,h.pd.lt,h.pd.im,h.pd.a⟩,h.rp,h.oj,h.cf⟩ b.yF
 split
 .rename_i y;split
  .exact(h.iz j.ep).L (b.xk au)
  have D:=(h.vE (M:={X.mv with b:=X.mv.b.add fr A}) h.me h.mb (h.sl.add y j) h.vt h.bg h.bl h.mv).lE;exact D.L ⟨⟨iI,by show b.K+10<=b.K+20;omega,iI,iI⟩,Gh.le.refl _⟩
 split
 .exact h.L b.yF
 rename_i c F;split
 .exact(h.iz j.ep).L (b.xk au)
 have H:=bu F;have y:c.q.E nr fr=true:=cR (p:=λc:jf=>c.q.E nr fr) F;have D:=h.Va H y j;refine(D.ld (OK H rfl) j ?_).L (b.xk au);obtain⟨_,S,_⟩:=Qn.pW.1 y;intro e;change c.q.nodes=[]at e;rw[e]at S;simp at S
def Xk.kR(h:Xk b X):Xk b.J X.kR:=by
 have h1:Xk b {X with wl:=X.wb,kH:=0,mv:=Mv.zero,dd:=X.dd.map λ(c:jf)=>{c with q:={c.q with mP:=true}}}:=by
  have F:=((h.LZ (e:=0) ⟨au,gI h.e⟩).GB).waits X.wb X.wb;have S:∀c∈X.dd.map (λ(c:jf)=>{c with q:={c.q with mP:=true}}),∃d∈X.dd,c={d with q:={d.q with mP:=true}}:=λc D=>by obtain⟨d,j,rfl⟩:=aD.1 D;exact⟨d,j,rfl⟩
  refine⟨h.n1,h.m1,h.v1,h.v2,h.c1,h.id,h.lay,h.e,F.t,F.me,h.ba,F.mb,h.d,h.f,h.rv,by rw[ay];exact h.pl,λc D=>?_,h.pr,F.sl,F.vt,F.bg,F.bl,F.mv,λc D d j e1 e2 e3=>?_,⟨cj.2 h.pd.gH,λc D=>?_,cj.2 h.pd.im,λc D=>?_⟩,λk r hr=>(h.rp k r hr).H ⟨λ⟨d,j,e⟩=>⟨_,aD.2 ⟨d,j,rfl⟩,e⟩,λ⟨d,j,e⟩=>by obtain⟨V,L,rfl⟩:=S d j;exact⟨V,L,e⟩⟩,h.oj,h.cf⟩
  .obtain⟨d,j,rfl⟩:=S c D;have M:=h.a d j;have y:=M.toqD;exact⟨⟨y.kd,y.ad,y.un,y.gZ,y.o1,y.iR,y.pl,y.e,y.ln,y.st⟩,M.a1,M.u0,M.c2,M.q.mP true,M.nr,M.e1⟩
  .obtain⟨c',a0,rfl⟩:=S c D;obtain⟨V,L,rfl⟩:=S d j;rw[h.nk c' a0 V L e1 e2 e3]
  .obtain⟨d,j,rfl⟩:=S c D;exact h.pd.lt d j
  obtain⟨d,j,rfl⟩:=S c D;exact h.pd.a d j
 have h2:∀Y:Cx,Xk b Y->Xk (b.up 1) (if Y.jl.length<Y.dd.length then Y.jR else Y):=λY hY=>by
  split
  .exact hY.jR
  exact hY.L (b.F au)
 have h3:∀Z:Cx,Xk (b.up 1) Z->Xk b.J (if Z.iO then Z.jn else Z):=λZ hZ=>by
  split
  .exact hZ.jn.L ⟨⟨by show b.E<=b.E+1;omega,by show b.K+1+1<=b.K+20;omega,iI,by show b.B<=b.B+200;omega⟩,Gh.le.refl _⟩
  exact hZ.L (b.xk au)
 exact h3 _ (h2 _ h1)
def Xk.jt(h:Xk b X):Xk b X.jt:=by
 have M:∀c∈X.jt.dd,∃d∈X.dd,c={d with q:=d.q.jt}:=λc D=>by obtain⟨d,j,rfl⟩:=aD.1 D;exact⟨d,j,rfl⟩
 refine⟨h.n1,h.m1,h.v1,h.v2,h.c1,h.id,h.lay,h.e,h.t,h.me,h.ba,h.mb,h.d,h.f,h.rv,by show(X.dd.map _).length<=8;rw[ay];exact h.pl,λc D=>?_,h.pr.mP false,h.sl.mP false,h.vt.mP false,h.bg,h.bl,h.mv,λc D d j Y Z e3=>?_,⟨cj.2 h.pd.gH,λc D=>?_,cj.2 h.pd.im,λc D=>?_⟩,λk r hr=>(h.rp k r hr).H ⟨λ⟨d,j,e⟩=>⟨_,aD.2 ⟨d,j,rfl⟩,e⟩,λ⟨d,j,e⟩=>by obtain⟨S,F,rfl⟩:=M d j;exact⟨S,F,e⟩⟩,h.oj,h.cf⟩
 .obtain⟨d,j,rfl⟩:=M c D;have L:=h.a d j;have y:=L.toqD;exact⟨⟨y.kd,y.ad,y.un,y.gZ,y.o1,y.iR,y.pl,y.e,y.ln,y.st⟩,L.a1,L.u0,L.c2,L.q.mP false,L.nr,L.e1⟩
 .obtain⟨c',V,rfl⟩:=M c D;obtain⟨S,F,rfl⟩:=M d j;rw[h.nk c' V S F Y Z e3]
 .obtain⟨d,j,rfl⟩:=M c D;exact h.pd.lt d j
 obtain⟨d,j,rfl⟩:=M c D;exact h.pd.a d j
theorem Xk.Kz(_h:Xk b X)(L:X.dd.length<8):X.mn<8/\∀c∈X.dd,c.im≠X.mn:=by
 unfold Cx.mn
 cases e:(List.range 8).find? _ with
 |some l=>simp_all
 |none=>
  have y:(List.map (λl:Nat=>(l:Int)) (List.range 8)).length<=(X.dd.map λc=>(c.im:Int)).length:=oY au λx D=>by obtain⟨l,F,rfl⟩:=aD.1 D;have:=(bU.1 e) l F;simp only[Bool.not_eq_true,Bool.not_eq_false',cK]at this;obtain⟨c,H,j⟩:=this;exact aD.2 ⟨c,H,by simp at j;rw[j]⟩
  simp at y;omega
def Xk.begin(h:Xk b X)(h8:X.dd.length<8)(hn:c.gH=X.res.length)(hl:c.im=X.mn)(hB:qD {b with N:=b.N+1} X.n X.m X.ce c)(V:c.kind=1\/c.kind=5\/c.iS<X.n*X.ce\/c.kind=4)(F:c.q=Qn.zero):Xk {b with N:=b.N+1} (X.iW c):=by
 have Y:b.le {b with N:=b.N+1}:=⟨⟨iI,iI,by show b.N<=b.N+1;omega,iI⟩,Gh.le.refl _⟩;have D:=h.L Y;obtain⟨f1,f2⟩:=h.Kz h8;have L:∀d∈(X.iW c).dd,d∈X.dd\/d=c:=λd j=>by
  obtain e|e:=aT.1 j
  .exact .inl e
  simp at e;exact .inr e
 refine⟨h.n1,h.m1,h.v1,h.v2,h.c1,h.id,h.lay,D.e,D.t,D.me,D.ba,D.mb,D.d,?_,λr S=>?_,?_,λd j=>?_,D.pr,D.sl,D.vt,D.bg,h.bl,h.mv,λd j e H M Z h3=>?_,⟨?_,λd j=>?_,?_,λd j=>?_⟩,λk r S=>?_,λk r S hw=>?_,h.cf⟩
 .have:=h.f;show((X.res++[Rz.zero]).length:Int)<=b.N+1;simp;omega
 .obtain e|e:=aT.1 S
  .exact h.rv r e
  simp at e;subst e;exact pS 0 au
 .show(X.dd++[c]).length<=8;simp;omega
 .obtain e|e:=L d j
  .exact D.a d e
  subst e;refine⟨hB,λg4 g5 g=>?_,λ_=>by rw[F];rfl,λe=>by rw[F]at e;exact absurd (show(0:Int)=2 from e) au,by rw[F];exact QK.zero,λe=>by rw[F]at e;exact absurd rfl e,λe=>by rw[F]at e;exact absurd (show(0:Int)=4 from e) au⟩;obtain g|g:=g
  .rw[F]at g;exact absurd rfl g
  obtain k|k|k|k:=V
  .exact absurd k g
  .exact absurd k g5
  .exact k
  exact absurd k g4
 .obtain g|g:=L d j<;>obtain g'|g':=L e H
  .exact h.nk d g e g' M Z h3
  .subst g';rw[F]at Z;exact absurd rfl Z
  .subst g;rw[F]at M;exact absurd rfl M
  rw[g,g']
 .show(X.dd++[c]).Pairwise _;refine cu.2 ⟨h.pd.gH,aq,λd j e H=>?_⟩;simp at H;subst H;have:=h.pd.lt d j;omega
 .show d.gH<(X.res++[Rz.zero]).length;obtain e|e:=L d j
  .have:=h.pd.lt d e;simp;omega
  subst e;simp;omega
 .show(X.dd++[c]).Pairwise _;refine cu.2 ⟨h.pd.im,aq,λd j e H=>?_⟩;simp at H;subst H;rw[hl];exact f2 d j
 .obtain e|e:=L d j
  .exact h.pd.a d e
  subst e;omega
 .have y:(X.res++[Rz.zero])[k]?=some r:=S;by_cases V:k<X.res.length
  .rw[aB V]at y;rw[h.rp k r y];refine⟨λ⟨d,j,e⟩=>⟨d,dG _ j,e⟩,λ⟨d,j,e⟩=>?_⟩;obtain g|g:=L d j
   .exact⟨d,g,e⟩
   subst g;omega
  have a0:=(aj.1 y).1;simp at a0;have a1:k=X.res.length:=C;subst a1;rw[aC jc]at y;simp at y;subst y;exact⟨λ_=>⟨c,cM _ (cw.2 rfl),hn⟩,λ_=>rfl⟩
 have M:=h.oj k r S hw;show(X.res++[Rz.zero])[k]?=some r;rw[aB (aj.1 M).1];exact M
def Bd.nc(b:Bd):Bd:=⟨b.E+1,b.B+200,b.K+20,b.N+1,b.g⟩
def uN(X:Cx)(c):c∈(X.iW c).dd:=cM _ (cw.2 rfl)
def yL(h:Xk b X)(j:0<=k/\k<=9){val:List Int}(y:val.length<=8)(D:mA val):Fw {b with N:=b.N+1} ⟨k,X.id,X.res.length,val⟩:=by have:=h.id;have:=h.f;exact⟨j,⟨by show 0<=X.id;omega,by show X.id<=1099;omega⟩,⟨eG _,by show(X.res.length:Int)<=b.N+1;omega⟩,y,D⟩
def zc(h:Xk b X):Fw {b with N:=b.N+1} no:=(Jd h).L ⟨iI,iI,by show b.N<=b.N+1;omega,iI⟩
def DF(b:Bd)(j:k<=20):(Bd.up {b with N:=b.N+1} k).le b.nc:=⟨⟨by show b.E<=b.E+1;omega,by show b.K+k<=b.K+20;omega,iI,by show b.B<=b.B+200;omega⟩,Gh.le.refl _⟩
def Xk.append(h:Xk b X)(j:X.dd.length<8){val:List Int}(y:b.g.J X.res.length 1 ⟨8,X.id,X.res.length,val⟩ 0 0)(D:1<=val.length)(F:val.length<=8)(H:mA val):Xk b.nc (X.append val):=by have:=h.begin j (c:={X.iy 1 with gZ:={(X.iy 1).gZ with kd:=8,val:=val}}) rfl rfl ⟨.inl rfl,⟨aA 0,by show(0:Int)<=X.n*X.ce;exact_mod_cast jd⟩,λe=>absurd (show(1:Int)=5 from e) au,yL h au F H,λ_=>by show qd 8 val.length=true;simp[qd];omega,zc h,jd,pS 0 au,(h.Kz j).1,y⟩ (.inl rfl) rfl;exact this.L ⟨⟨by show b.E<=b.E+1;omega,by show b.K<=b.K+20;omega,iI,by show b.B<=b.B+200;omega⟩,Gh.le.refl _⟩
def Xk.yU(h:Xk b X)(y:X.dd.length<8)(F:b.g.J X.res.length 2 ⟨0,X.id,X.res.length,[]⟩ 0 a)(H:X.F a):Xk b.nc (X.yU a):=by obtain⟨M,j⟩:=H;have D:qD {b with N:=b.N+1} X.n X.m X.ce {X.iy 2 with iS:=a}:=⟨.inr (.inl rfl),⟨M,fZ j⟩,λe=>absurd (show(2:Int)=5 from e) au,yL h au jd (by simp[mA]),λe=>by obtain e|e:=e<;>exact absurd (show(2:Int)=_ from e) au,zc h,jd,pS 0 au,(h.Kz y).1,F⟩;exact((h.begin y rfl rfl D (.inr (.inr (.inl j))) rfl).dO (uN X _) rfl rfl D λ_ _=>j).L (DF b au)
def Xk.fill(h:Xk b X)(y:X.dd.length<8)(F:b.g.J X.res.length 3 ⟨9,X.id,X.res.length,[]⟩ 0 a)(H:X.F a):Xk b.nc (X.fill a):=by obtain⟨M,j⟩:=H;have D:qD {b with N:=b.N+1} X.n X.m X.ce {X.iy 3 with iS:=a,gZ:={(X.iy 3).gZ with kd:=9}}:=⟨.inr (.inr (.inl rfl)),⟨M,fZ j⟩,λe=>absurd (show(3:Int)=5 from e) au,yL h au jd λd S=>by simp[Cx.iy]at S,λ_=>rfl,zc h,jd,pS 0 au,(h.Kz y).1,F⟩;exact((h.begin y rfl rfl D (.inr (.inr (.inl j))) rfl).dO (uN X _) rfl rfl D λ_ _=>j).L (DF b au)
def Xk.rV(h:Xk b X)(j:X.dd.length<8)(D:b.g.J X.res.length 4 ⟨0,X.id,X.res.length,[]⟩ 0 a)(F:0<=a/\a<=X.n*X.ce):Xk b.nc (X.rV a):=by have y:qD {b with N:=b.N+1} X.n X.m X.ce {X.iy 4 with iS:=a}:=⟨.inr (.inr (.inr (.inl rfl))),F,λe=>absurd (show(4:Int)=5 from e) au,yL h au jd (by simp[mA]),λe=>by obtain e|e:=e<;>exact absurd (show(4:Int)=_ from e) au,zc h,jd,pS 0 au,(h.Kz j).1,D⟩;exact((h.begin j rfl rfl y (.inr (.inr (.inr rfl))) rfl).dO (uN X _) rfl rfl y λe _=>absurd rfl e).L (DF b au)
def Xk.change(h:Xk b X)(j:X.dd.length<8){u:Int}(D:b.g.J X.res.length 5 ⟨0,X.id,X.res.length,[]⟩ u 0)(F:r8 X.n X.m u):Xk b.nc (X.change u):=by
 have H:qD {b with N:=b.N+1} X.n X.m X.ce {X.iy 5 with unit:=u}:=⟨.inr (.inr (.inr (.inr rfl))),⟨aA 0,by show(0:Int)<=X.n*X.ce;exact_mod_cast jd⟩,λ_=>F,yL h au jd (by simp[mA]),λe=>by obtain e|e:=e<;>exact absurd (show(5:Int)=_ from e) au,zc h,jd,pS 0 au,(h.Kz j).1,D⟩;have y:=(h.begin j rfl rfl H (.inr (.inl rfl)) rfl).kF (c:={X.iy 5 with unit:=u}) (uN X _) rfl;unfold Cx.change;dsimp only;split
 .exact y.jn.L (DF b au)
 exact(y.L (Bd.F _ (k:=1) au)).L (DF b au)
def Xk.jv(h:Xk b X){k:Nat}{t:Int}(S:∀c∈X.dd,c.gH=k->b.g.J c.gH c.kind c.gZ c.unit t):Xk b.J (X.jv k t):=by
 unfold Cx.jv;split
 .exact h.L b.yF
 rename_i c M;have y:=bu M;have D:=h.a c y;have j:=D.toqD;split
 .rename_i F;unfold Cx.qB at F;simp at F;have H:qD b X.n X.m X.ce {c with iS:=t}:=⟨j.kd,⟨F.1,fZ F.2⟩,j.un,j.gZ,j.o1,j.iR,j.pl,j.e,j.ln,S c y (by have:=cR M;simpa using this)⟩;exact((h.put y (c':={c with iS:=t}) rfl rfl ⟨H,λ_ _ _=>F.2,D.u0,D.c2,D.q,D.nr,D.e1⟩ λe d V Y Z h3=>Y (by rw[h.nk d V c y Z e h3])).dO (OK y rfl) rfl rfl H λ_ _=>F.2).L (b.xk au)
 exact(h.fin y rfl (pS 7 au) au).L b.yF
def Xk.new{j:Nat}{D:Int}(H:1<=n/\n<=3)(L:1<=m/\m<=3)(V:1<=j/\j<=5)(Y:j%2=1)(c1:1<=ce/\ce<=16)(fu:1000<=D/\D<=1099)(y:0<=b.E/\0<=b.B/\0<=b.K/\0<=b.N)(M:b.g.R=[]/\(n=b.g.n/\m=b.g.m)/\j=b.g.v/\ce=b.g.c/\D=b.g.id):Xk b (Cx.new n m j ce D):=by
 have F:∀{α:Type} {R:Rq->Prop} {Z:α->Prop} {iQ:Int->Prop},QK R Z iQ _:=QK.zero;obtain⟨_,_,_,_,f5⟩:=xp n (I6 H) m (I6 L);refine⟨H,L,V,Y,c1,fu,⟨rfl,λi r ch h1 S=>?_⟩,⟨aA 0,y.1⟩,⟨aA 0,by show(0:Int)<=b.E+1;omega⟩,⟨aA 0,by show(0:Int)<=b.E+1;omega⟩,⟨aA 0,y.2.1⟩,⟨aA 0,y.2.1⟩,⟨aA 0,y.2.2.1⟩,y.2.2.2,by simp[Cx.new],by simp[Cx.new],by simp[Cx.new],F,F,F,by simp[Cx.new,Mv.zero],by simp[Cx.new,Mv.zero],⟨jd,by simp[Cx.new,Mv.zero,mA]⟩,by simp[MR,Cx.new],⟨by simp[Cx.new],by simp[Cx.new],by simp[Cx.new],by simp[Cx.new]⟩,by simp[Cx.new],nI M.1,M.2⟩;have e:r=ch:=by have:=h1.symm.H S;simp_all
 subst e;refine⟨dy _,λe=>?_⟩;have:=f5 r (aR S);rw[e]at this;simp at this;omega
def Xk.base(h:Xk b X):Xk {b with g:=⟨X.res,X.n,X.m,X.vo,X.ce,X.id,b.g.J⟩} X:=
 ⟨h.n1,h.m1,h.v1,h.v2,h.c1,h.id,h.lay,h.e,h.t,h.me,h.ba,h.mb,h.d,h.f,h.rv,h.pl,λc j=>(h.a c j).L ⟨iI,iI,iI,iI⟩ (λ_ _ _ _ _ e=>e) iI,h.pr.L (λ_ e=>e.L ⟨iI,iI,iI,iI⟩) λ_ e=>e.L ⟨iI,iI,iI,iI⟩,h.sl.L (λ_ e=>e.L ⟨iI,iI,iI,iI⟩) λ_ e=>e.L ⟨iI,iI,iI,iI⟩,h.vt.L (λ_ e=>e.L ⟨iI,iI,iI,iI⟩) λ_ e=>e.L ⟨iI,iI,iI,iI⟩,λz y=>(h.bg z y).L ⟨iI,iI,iI,iI⟩,h.bl,h.mv,h.nk,h.pd,h.rp,λ_ _ e _=>e,⟨⟨rfl,rfl⟩,rfl,rfl,rfl⟩⟩
structure SB(b:Bd)(s:St):Prop where
 ep:0<=s.ep/\s.ep<=b.E+1
 EB:0<=s.mark/\s.mark<=48
 ct:∀i,Fw b (s.ct i)
 c1:∀i,(s.ct i).kd≠0->qd (s.ct i).kd (s.ct i).val.length=true
structure OQ(b:Bd)(s:VS):Prop where
 pr:∀e,0<=(s.E e).pr/\(s.E e).pr<=b.B
 ba:∀e,0<=(s.E e).ba/\(s.E e).ba<=b.B
 vl:∀e,(s.E e).val.length<=255
 a:∀e,mA (s.E e).val
 lt:0<=s.lt/\s.lt<=b.E+1
def SB.L(h:SB b s)(k:b.ln b'):SB b' s:=⟨⟨h.ep.1,by have:=h.ep.2;have:=k.e;omega⟩,h.EB,λi=>(h.ct i).L k,h.c1⟩
def OQ.L{s:VS}(h:OQ b s)(k:b.ln b'):OQ b' s:=⟨λe=>⟨(h.pr e).1,bt (h.pr e).2 k.ba⟩,λe=>⟨(h.ba e).1,bt (h.ba e).2 k.ba⟩,h.vl,h.a,⟨h.lt.1,by have:=h.lt.2;have:=k.e;omega⟩⟩
def U6(h:0<=b.N):Fw b ⟨0,0,0,[]⟩:=⟨au,au,⟨au,h⟩,au,by simp[mA]⟩
def Ds(h:0<=b.N){j y mk:Int}(D:0<=j/\j<=10)(F:j≠2)(H:0<=y/\y<=b.E+1)(L:0<=mk/\mk<=48):Fh b (an j y mk):=⟨D,H,L,U6 h,λe=>absurd e F⟩
def IU(H:0<=b.E)(D:0<=b.N){b1 c d:Int}(h:SB b s)(x):Fh b (tN a b1 c d ch s x):=by
 unfold tN jQ;have j:(0:Int)<=0/\0<=b.E+1:=⟨au,C⟩;split
 .exact⟨au,j,au,U6 D,λe=>absurd (show(6:Int)=2 from e) au⟩
 split
 .have y:=h.ct (n9 a b1 c d x).2.1.toNat;exact⟨⟨by show(0:Int)<=4;omega,by show(4:Int)<=10;omega⟩,j,h.EB,⟨y.kd,y.cl,y.ca,jd,by simp[mA]⟩,λe=>absurd (show(4:Int)=2 from e) au⟩
 split
 .exact⟨au,j,au,U6 D,λe=>absurd (show(3:Int)=2 from e) au⟩
 rename_i F;exact⟨⟨by show(0:Int)<=2;omega,by show(2:Int)<=10;omega⟩,j,⟨aA 0,by show(0:Int)<=48;omega⟩,h.ct _,λ_=>h.c1 _ F⟩
def Qu{r:Rq}(L:0<=b.E)(j:0<=b.N)(h:SB b s)(y:OL b r):Fh b (my n m v ce ch s r).1/\SB b (my n m v ce ch s r).2:=by
 have D:SB b ⟨r.ep,s.mark,s.ct⟩:=⟨y.ep,h.EB,h.ct,h.c1⟩;have F:Fh b (an 5 s.ep 0):=Ds j au au h.ep au;unfold my uM;split
 .unfold tM;split
  .exact⟨F,h⟩
  exact⟨Ds j au au y.ep au,D⟩
 split
 .rename_i H;unfold r9;split
  .exact⟨F,h⟩
  split
  .exact⟨Ds j au au ⟨au,C⟩ au,D⟩
  split
  .refine⟨Ds j au au ⟨au,C⟩ au,⟨y.ep,h.EB,λi=>?_,λi=>?_⟩⟩
   .show Fw b (if i=_ then _ else _);split
    .exact y.ct
    exact h.ct i
   show(if i=_ then _ else _:Ct).kd≠0->qd (if i=_ then _ else _:Ct).kd (if i=_ then _ else _:Ct).val.length=true;split
   .exact λ_=>y.c2 H
   exact h.c1 i
  exact⟨IU L j h _,D⟩
 split
 .unfold xq;split
  .exact⟨F,h⟩
  exact⟨IU L j h _,D⟩
 have M:0<=(if s.mark<r.pl then r.pl else s.mark)/\(if s.mark<r.pl then r.pl else s.mark)<=48:=by have:=h.EB;have:=y.pl;split<;>omega
 unfold tK;split
 .exact⟨F,h⟩
 exact⟨Ds j au au ⟨au,C⟩ M,⟨y.ep,M,h.ct,h.c1⟩⟩
def OQ.tZ{s:VS}(h:OQ b s){e j y:Int}{val:List Int}{l:Int}(F:0<=j/\j<=b.B)(H:0<=y/\y<=b.B)(L:val.length<=255)(M:mA val)(D:0<=l/\l<=b.E+1):OQ b ⟨nD s.E e ⟨j,y,val⟩,l⟩:=by
 refine⟨λk=>?_,λk=>?_,λk=>?_,λk=>?_,D⟩<;>(simp only[nD];split)
 .omega
 .exact h.pr k
 .omega
 .exact h.ba k
 .omega
 .exact h.vl k
 .omega
 exact h.a k
def Px{s:VS}{r:Rq}(L:0<=b.B)(h:OQ b s)(j:ON b r):CU b (uB s r).1/\OQ b (uB s r).2:=by
 have D:∀p:Prop,[Decidable p]->0<=(if p then max s.lt r.ep else s.lt)/\(if p then max s.lt r.ep else s.lt)<=b.E+1:=λp _=>by have:=h.lt;have:=j.ep;split<;>omega
 have F:∀l,(0<=l/\l<=b.E+1)->OQ b ⟨s.E,l⟩:=λl D=>⟨h.pr,h.ba,h.vl,h.a,D⟩;have M:CU b ⟨6,(s.E r.ep).pr,0,[]⟩:=⟨⟨by show(0:Int)<=6;omega,by show(6:Int)<=10;omega⟩,h.pr _,⟨aA 0,L⟩,jd,by simp[mA]⟩;have H:(0:Int)<=1/\(1:Int)<=10:=au;unfold uB;dsimp only;refine⟨?_,?_⟩
 .unfold nV;split
  .split
   .exact M
   exact⟨H,j.pl,h.ba _,h.vl _,h.a _⟩
  split
  .split
   .exact M
   exact⟨H,j.pl,⟨aA 0,L⟩,jd,by simp[mA]⟩
  exact⟨H,h.pr _,h.ba _,h.vl _,h.a _⟩
 generalize V:(if(nV s.E r.kd r.ep r.pl r.ct.val).1.wh=1/\r.kd≠7 then max s.lt r.ep else s.lt)=S;have y:0<=S/\S<=b.E+1:=by rw[<-V];exact D _
 unfold nV;split
 .split
  .exact F _ y
  exact h.tZ j.pl (h.ba _) (h.vl _) (h.a _) y
 split
 .split
  .exact F _ y
  exact h.tZ j.pl j.pl j.vl j.a y
 exact F _ y
def Ti(b:Bd):Pk->Prop
 | .rep nr A=>(0<=nr/\nr<=b.K)/\Fh b A
 | .vot nr lt v=>(0<=nr/\nr<=b.K)/\(0<=lt/\lt<=b.E+1)/\CU b v
 |_=>False
theorem Ti.L{p:Pk}(h:Ti b p)(k:b.ln b'):Ti b' p:=by
 have j:=k.e;have y:=k.k
 cases p with
 |rep nr A=>exact⟨⟨h.1.1,gI h.1.2⟩,h.2.L k⟩
 |vot nr D v=>exact⟨⟨h.1.1,gI h.1.2⟩,⟨h.2.1.1,gI h.2.1.2⟩,h.2.2.L k⟩
 |req r=>exact h
 |noi ds=>exact h
def TM(x:Int):Prop:=∃i,i<8/\x=iM i
def tJ(b:Bd)(n m v:Nat)(l:Le):Prop:=match l.pk with
 | .req r=>TM l.fr/\((r8 n m l.tt/\OL b r)\/(BU v l.tt/\ON b r))
 | .noi ds=>ds.length<4/\mA ds
 |p=>1000<=l.tt/\Ti b p
theorem tJ.L(h:tJ b n m v l)(k:b.ln b'):tJ b' n m v l:=by
 obtain⟨fr,tt,p⟩:=l
 cases p with
 |req r=>
  refine⟨h.1,?_⟩;obtain⟨j,y⟩|⟨j,y⟩:=h.2
  .exact .inl ⟨j,y.L k⟩
  exact .inr ⟨j,y.L k⟩
 |rep nr A=>exact⟨h.1,Ti.L h.2 k⟩
 |vot nr D v=>exact⟨h.1,Ti.L h.2 k⟩
 |noi ds=>exact h
structure SE(b:Bd)(e:Qe):Prop where
 cl:TM e.cl
 ln:0<=e.ln/\e.ln<10
 pk:Ti b e.pk
def Qe.key(e:Qe):Int:=10*((e.cl-1000)/7)+e.ln
structure Ia(b:Bd)(q:List Qe):Prop where
 e:∀x∈q,SE b x
 nd:(q.map Qe.key).Nodup
def SE.L{e:Qe}(h:SE b e)(k:b.ln b'):SE b' e:=⟨h.cl,h.ln,h.pk.L k⟩
def Ia.L(h:Ia b q)(k:b.ln b'):Ia b' q:=⟨λx j=>(h.e x j).L k,h.nd⟩
def Ia.nil:Ia b []:=⟨aq,aq⟩
def LI{e:Qe}(h:SE b e):0<=e.key/\e.key<80:=by obtain⟨i,y,j⟩:=h.cl;have:=h.ln;unfold Qe.key;rw[j];unfold iM;omega
def Ia.len(h:Ia b q):q.length<=80:=by
 have:=oY (m:=(List.range 80).map λi:Nat=>i) h.nd λx j=>by obtain⟨e,y,rfl⟩:=aD.1 j;have:=LI (h.e e y);exact aD.2 ⟨e.key.toNat,di.2 C,C⟩
 simp_all
def N5{x a:Qe}(y:SE b x)(D:SE b a):x.is a.cl a.ln=true↔x.key=a.key:=by obtain⟨i,L,F⟩:=y.cl;obtain⟨j,M,H⟩:=D.cl;have S:=y.ln;have V:=D.ln;unfold Qe.is Qe.key;simp;rw[F,H];unfold iM;omega
def Ia.add(h:Ia b q){a:Qe}(j:SE b a):Ia b (xL q a):=by
 unfold xL;split
 .rename_i H;refine⟨λx hx=>?_,?_⟩
  .obtain hx|hx:=aT.1 hx
   .exact h.e x hx
   simp at hx;subst hx;exact j
  rw[aZ,cX];refine⟨h.nd,aq,λx hx y D=>?_⟩;simp at D;subst D;obtain⟨e,F,rfl⟩:=aD.1 hx;intro L;exact bU.1 H e F ((N5 (h.e e F) j).2 L)
 split
 .exact h
 have M:∀x∈q,(if x.is a.cl a.ln then a else x).key=x.key:=λx hx=>by
  split
  .rename_i e;exact((N5 (h.e x hx) j).1 e).symm
  rfl
 refine⟨λx hx=>?_,?_⟩
 .obtain⟨y,D,rfl⟩:=aD.1 hx;split
  .exact j
  exact h.e y D
 rw[br];have:q.map (Qe.key∘λb=>if b.is a.cl a.ln then a else b)=q.map Qe.key:=bf λx hx=>M x hx;rw[this];exact h.nd
def IY(b:Bd)(n m v i:Nat):mJ->Prop
 | .unit ch s h=>i<n*m/\ch=(i/m:Nat)/\s∈h/\∀x∈h,SB b x
 | .voter s h=>n*m<=i/\i<n*m+v/\s∈h/\∀x∈h,OQ b x
theorem IY.L{p:mJ}(h:IY b n m v i p)(k:b.ln b'):IY b' n m v i p:=by
 cases p with
 |unit ch s l=>exact⟨h.1,h.2.1,h.2.2.1,λx j=>(h.2.2.2 x j).L k⟩
 |voter s l=>exact⟨h.1,h.2.1,h.2.2.1,λx j=>(h.2.2.2 x j).L k⟩
structure G1(b:Bd)(n m v i:Nat)(P:Pl):Prop where
 part:IY b n m v i P.part
 q:Ia b P.q
def G1.L{P:Pl}(h:G1 b n m v i P)(k:b.ln b'):G1 b' n m v i P:=⟨h.part.L k,h.q.L k⟩
theorem G1.recv{P:Pl}(h:G1 b n m v i P)(hE:0<=b.E)(hB:0<=b.B)(hN:0<=b.N)(hm:n*m<=9)(hl:tJ b n m v l)(M:jZ n m i=l.tt):G1 b n m v i (P.recv n m v ce l.fr l.pk):=by
 obtain⟨fr,tt,p⟩:=l
 cases p with
 |req r=>
  obtain⟨S,V⟩:=hl;simp only at M S V;obtain⟨y,q,up,qk⟩:=P
  cases y with
  |unit ch s hs=>
   obtain⟨H,Y,Z,D⟩:=h.part;have fu:jZ n m i=i:=by unfold jZ;rw[aE H]
   obtain⟨F,j⟩|⟨F,j⟩:=V
   .obtain⟨a1,L⟩:=Qu (n:=n) (m:=m) (v:=v) (ce:=ce) (ch:=ch) hE hN (D s Z) j;refine⟨⟨H,Y,cM _ (cw.2 rfl),λx hx=>?_⟩,h.q.add ⟨S,j.ln,⟨j.nr,a1⟩⟩⟩;obtain hx|hx:=aT.1 hx
    .exact D x hx
    simp at hx;subst hx;exact L
   unfold BU at F;omega
  |voter s hs=>
   obtain⟨H,Y,Z,D⟩:=h.part;have fu:jZ n m i=100+i-(n*m:Nat):=by unfold jZ;rw[az C]
   obtain⟨F,j⟩|⟨F,j⟩:=V
   .unfold r8 at F;have:(n:Int)*m<=9:=by exact_mod_cast hm
    omega
   obtain⟨a1,L⟩:=Px hB (D s Z) j;refine⟨⟨H,Y,cM _ (cw.2 rfl),λx hx=>?_⟩,h.q.add ⟨S,j.ln,⟨j.nr,L.lt,a1⟩⟩⟩;obtain hx|hx:=aT.1 hx
   .exact D x hx
   simp at hx;subst hx;exact L
 |rep nr A=>exact h
 |vot nr lt v=>exact h
 |noi ds=>exact h
theorem G1.jt{P:Pl}(h:G1 b n m v i P):G1 b n m v i P.jt:=by
 obtain⟨j,q,S,V⟩:=P;refine⟨?_,Ia.nil⟩
 cases j with
 |unit ch s M=>obtain⟨D,F,H,L⟩:=h.part;exact⟨D,F,cw.2 rfl,λx y=>by simp at y;subst y;exact L _ H⟩
 |voter s M=>obtain⟨D,F,H,L⟩:=h.part;exact⟨D,F,cw.2 rfl,λx y=>by simp at y;subst y;exact L _ H⟩
theorem G1.u9{j:Nat}{P:Pl}(h:G1 b n m v i P)(F:j<P.part.hl):G1 b n m v i (P.u9 j):=by
 obtain⟨y,q,Z,qk⟩:=P;refine⟨?_,Ia.nil⟩;have D:∀{α:Type} (l:List α) d,j<l.length->l.getD j d∈l.take (j+1):=λl d F=>by rw[aS,ah F,fM];exact⟨j,C,rfl⟩
 cases y with
 |unit ch s H=>obtain⟨L,M,Y,S⟩:=h.part;exact⟨L,M,D H _ F,λx V=>S x (ed _ _|>.subset V)⟩
 |voter s H=>obtain⟨L,M,Y,S⟩:=h.part;exact⟨L,M,D H _ F,λx V=>S x (ed _ _|>.subset V)⟩
def Wd.J(W:Wd)(i:Nat)(gH:Nat)(kind:Int)(gZ:Ct)(unit iS:Int):Prop:=
 ∃c∈W.bx,c.a=i/\c.b=gH/\c.kind=kind/\gZ=⟨if kind=1 then 8 else if kind=3 then 9 else 0,iM i,gH,c.value⟩/\(kind=1->iS=0\/iS∈c.c)/\(kind=2\/kind=3\/kind=4->iS=c.pos)/\(kind=5->unit=c.pos)
def Wd.B(W:Wd)(i:Nat):Bd:=⟨W.iH,200*W.iH,20*W.iH,W.bx.length,⟨[],W.n,W.m,W.v,W.ce,iM i,W.J i⟩⟩
structure Tv(W:Wd)(i:Nat)(A:Ac):Prop where
 x:Xk (W.B i) A.X
 nm:(W.bx.filter λc=>c.a==i).map (·.b)=List.range A.X.res.length
structure TW(W:Wd)(c:Kl):Prop where
 ac:∃A,W.ac[c.a]?=some A/\c.b<A.X.res.length/\(A.up=true->c.fin≠0->A.X.res[c.b]?=some c.r)
 kd:c.kind=1\/c.kind=2\/c.kind=3\/c.kind=4\/c.kind=5
 po:0<=c.pos/\c.pos<=48
 vl:c.value.length<=8/\mA c.value
 tk:c.c.length<=W.iH
 bg:0<=c.d/\c.d<=W.a
 fi:0<=c.fin/\c.fin<=W.a
 r:P5 c.r
 fw:c.fin≠0->c.r.wh≠0
structure Wk(W:Wd):Prop where
 n1:1<=W.n/\W.n<=3
 m1:1<=W.m/\W.m<=3
 v1:1<=W.v/\W.v<=5
 v2:W.v%2=1
 c1:1<=W.ce/\W.ce<=16
 pl:W.pl.length=W.n*W.m+W.v
 pk:∀i P,W.pl[i]?=some P->G1 (W.B 0) W.n W.m W.v i P
 al:W.ac.length<=8
 ac:∀i A,W.ac[i]?=some A->Tv W i A
 po:∀l∈W.iq,tJ (W.B 0) W.n W.m W.v l
 a:W.iq.length<=200*W.iH
 nw:0<=W.a/\W.a<=4*W.iH
 cl:W.bx.length<=W.iH
 ca:∀c∈W.bx,TW W c
 hd:W.kS.length<=W.iH
 ms:W.jU.length<=2/\∀x∈W.jU,0<=x/\x<=31
def tU(W W':Wd)(i j)(h:W.iH<=W'.iH)(y:W.bx.length<=W'.bx.length):(W.B i).ln (W'.B j):=by have:(W.iH:Int)<=W'.iH:=C;exact⟨this,by show 20*(W.iH:Int)<=20*W'.iH;omega,by show(W.bx.length:Int)<=W'.bx.length;omega,by show 200*(W.iH:Int)<=200*W'.iH;omega⟩
def Fc(W W':Wd)(i)(h:W.iH<=W'.iH)(j:W.bx.length<=W'.bx.length)(y:W'.n=W.n)(D:W'.m=W.m)(F:W'.v=W.v)(H:W'.ce=W.ce)(L:∀a b c d e,W.J i a b c d e->W'.J i a b c d e):(W.B i).le (W'.B i):=
 ⟨tU W W' i i h j,rfl,⟨⟨y,D⟩,F,H,rfl⟩,L⟩
def UO(W W':Wd)(i)(h:W.iH+1<=W'.iH)(L:W.bx.length<=W'.bx.length)(j:W'.n=W.n)(y:W'.m=W.m)(D:W'.v=W.v)(F:W'.ce=W.ce)(H:∀a b c d e,W.J i a b c d e->W'.J i a b c d e):(W.B i).J.le (W'.B i):=by have:(W.iH:Int)+1<=W'.iH:=C;exact⟨⟨this,by show 20*(W.iH:Int)+20<=20*W'.iH;omega,by show(W.bx.length:Int)<=W'.bx.length;omega,by show 200*(W.iH:Int)+200<=200*W'.iH;omega⟩,rfl,⟨⟨j,y⟩,D,F,rfl⟩,H⟩
def U7(W:Wd)(i):0<=(W.B i).E/\0<=(W.B i).B/\0<=(W.B i).K/\0<=(W.B i).N:=⟨by show(0:Int)<=W.iH;omega,by show(0:Int)<=200*W.iH;omega,by show(0:Int)<=20*W.iH;omega,by show(0:Int)<=W.bx.length;omega⟩
def Xk.QE(h:Xk b X)(k:∀g:Gh,g.J=b.g.J->Xk {b with g:=g} X->Xk (Bd.J {b with g:=g}) X'):Xk b.J X'/\∀(k:Nat) (r:Rz),X.res[k]?=some r->r.wh≠0->X'.res[k]?=some r:=⟨k b.g rfl h,λi r j y=>(k ⟨X.res,X.n,X.m,X.vo,X.ce,X.id,b.g.J⟩ rfl h.base).oj i r j y⟩
def r7(t)(c:Kl)(a):(c.E t a).a=c.a/\(c.E t a).b=c.b/\(c.E t a).kind=c.kind/\(c.E t a).pos=c.pos/\(c.E t a).value=c.value/\(c.E t a).c=c.c/\(c.E t a).d=c.d:=by
 unfold Kl.E;repeat' split
 all_goals exact⟨rfl,rfl,rfl,rfl,rfl,rfl,rfl⟩
def RT(W:Wd)(i):∀a b c d e,W.J i a b c d e->W.iY.J i a b c d e:=by rintro a b c d e⟨k,y,D,F,H,L,M,S,V⟩;obtain⟨Y,Z,s3,j,s5,s6,s7⟩:=r7 _ k W.ac[k.a]?;exact⟨_,aD.2 ⟨k,y,rfl⟩,Y.H D,Z.H F,s3.H H,jP s5 L,jP s6 M,jP j S,jP j V⟩
def Wk.iY(h:Wk W)(hn:W.a+1<=4*W.iH):Wk W.iY:=by
 have S:W.bx.length<=W.iY.bx.length:=by show _<=(W.bx.map _).length;rw[ay];exact jc
 have hl:=tU W W.iY 0 0 jc S;have a4:=h.nw;have V:∀i,(W.iY.bx.filter λc=>c.a==i).map (·.b)=(W.bx.filter λc=>c.a==i).map (·.b):=λi=>by
  show((W.bx.map λc=>c.E (W.a+1) W.ac[c.a]?).filter λc=>c.a==i).map (·.b)=_;rw[dZ,br];have e1:((λc:Kl=>c.a==i)∘λc:Kl=>c.E (W.a+1) W.ac[c.a]?)=λc:Kl=>c.a==i:=by funext c;simp[(r7 (W.a+1) c W.ac[c.a]?).1]
  rw[e1];exact bf λc _=>(r7 (W.a+1) c W.ac[c.a]?).2.1
 refine⟨h.n1,h.m1,h.v1,h.v2,h.c1,h.pl,λi P hP=>(h.pk i P hP).L hl,h.al,λi A M=>⟨(h.ac i A M).x.L (Fc W W.iY i jc S rfl rfl rfl rfl (RT W i)),(V i).H (h.ac i A M).nm⟩,λl Z=>(h.po l Z).L hl,h.a,⟨by show 0<=W.a+1;omega,hn⟩,?_,λc hc=>?_,h.hd,h.ms⟩
 .show(W.bx.map _).length<=W.iH;rw[ay];exact h.cl
 obtain⟨d,hd,rfl⟩:=aD.1 hc;have D:=h.ca d hd;obtain⟨s1,s2,s3,s4,s5,s6,s7⟩:=r7 (W.a+1) d W.ac[d.a]?;obtain⟨A,M,a0,a1⟩:=D.ac;have hx:=(h.ac _ A M).x;have F:((d.E (W.a+1) W.ac[d.a]?).fin=d.fin/\(d.E (W.a+1) W.ac[d.a]?).r=d.r)\/((d.E (W.a+1) W.ac[d.a]?).fin=W.a+1/\A.X.res[d.b]?=some (d.E (W.a+1) W.ac[d.a]?).r/\(d.E (W.a+1) W.ac[d.a]?).r.wh≠0):=by
  rw[M];unfold Kl.E;dsimp only;split
  .split
   .exact .inl ⟨rfl,rfl⟩
   split
   .rename_i hr hq;exact .inr ⟨rfl,hr,hq.2⟩
   exact .inl ⟨rfl,rfl⟩
  exact .inl ⟨rfl,rfl⟩
 have a2:=D.bg;have a3:=D.fi;refine⟨⟨A,jP s1 M,jP s2 a0,λhu hf=>?_⟩,by rw[s3];exact D.kd,by rw[s4];exact D.po,by rw[s5];exact D.vl,by rw[s6];exact D.tk,by rw[s7];exact⟨a2.1,by show d.d<=W.a+1;omega⟩,?_,?_,λhf=>?_⟩
 .rw[s2];obtain⟨y,j⟩|⟨y,j,Y⟩:=F
  .rw[j];exact a1 hu (qO y hf)
  exact j
 .obtain⟨y,j⟩|⟨y,j,Y⟩:=F
  .rw[y];exact⟨a3.1,by show d.fin<=W.a+1;omega⟩
  rw[y];exact⟨C,iI⟩
 .obtain⟨y,j⟩|⟨y,j,Y⟩:=F
  .rw[j];exact D.r
  exact hx.rv _ (aR j)
 obtain⟨y,j⟩|⟨y,j,Y⟩:=F
 .rw[j];exact D.fw (qO y hf)
 exact Y
structure ve(A A':Ac):Prop where
 up:A'.up=true->A.up=true
 len:A'.X.res.length=A.X.res.length
 oj:∀(k:Nat) (r:Rz),A.X.res[k]?=some r->r.wh≠0->A'.X.res[k]?=some r
def ve.refl(A):ve A A:=⟨λe=>e,rfl,λ_ _ e _=>e⟩
def TW.go{c:Kl}(h:TW W c)(Z:W.iH<=W'.iH)(hn:W.a<=W'.a)(y:∀(i:Nat) A,W.ac[i]?=some A->∃j,W'.ac[i]?=some j/\ve A j):TW W' c:=by obtain⟨A,V,D,F⟩:=h.ac;obtain⟨j,H,g⟩:=y _ A V;have L:=h.bg;have M:=h.fi;exact⟨⟨j,H,by rw[g.len];exact D,λY S=>g.oj _ _ (F (g.up Y) S) (h.fw S)⟩,h.kd,h.po,h.vl,gI h.tk,⟨L.1,C⟩,⟨M.1,C⟩,h.r,h.fw⟩
def Xk.KW(h:Xk b X)(k:∀g:Gh,g.J=b.g.J->Xk {b with g:=g} X->Xk (Bd.J {b with g:=g}) X')(j:X'.res.length=X.res.length)(up up')(y:up'=true->up=true):Xk b.J X'/\ve ⟨X,up⟩ ⟨X',up'⟩:=by obtain⟨D,F⟩:=h.QE k;exact⟨D,y,j,F⟩
def uH(X:Cx)(c)(r):(X.fin c r).res.length=X.res.length:=bK ..
def E5(X:Cx)(c):(X.jO c).res.length=X.res.length:=by
 unfold Cx.jO;repeat' split
 all_goals first|rfl|exact uH ..
def LQ(A):(X.ld c A).res.length=X.res.length:=by
 unfold Cx.ld Cx.lj Cx.mN Cx.oe Cx.kU;repeat' split
 all_goals first|rfl|exact uH .. |exact E5 ..
def M6:(X.lT c).res.length=X.res.length:=by
 unfold Cx.lT Cx.kF Cx.dO;repeat' split
 all_goals first|rfl|exact uH ..
theorem wH:∀(l:List jf) (X:Cx),(l.foldl Cx.lT X).res.length=X.res.length
 |[],_=>rfl
 |c::l,X=>(wH l (X.lT c)).H M6
def tT(X:Cx):X.jn.res=X.res:=rfl
def AX(v):(X.nL v).res.length=X.res.length:=by
 unfold Cx.nL;split
 .rfl
 dsimp only;split
 .rw[tT];exact wH _ _
 exact wH _ _
def zp(e):(X.iz e).res=X.res:=by
 unfold Cx.iz;repeat' split
 all_goals rfl
def xo:X.kL.res=X.res:=by unfold Cx.kL;split<;>rfl
def Aa:X.kC.res=X.res:=by
 unfold Cx.kC;split
 .rfl
 dsimp only;rw[xo];split<;>rfl
def B7:X.lF.res.length=X.res.length:=by
 unfold Cx.lF;dsimp only;repeat' split
 all_goals first|rfl|exact AX _|rw[Aa]
def vp:X.ko.res=X.res:=by unfold Cx.ko;dsimp only;split<;>rfl
def Gm:X.lE.res=X.res:=by
 unfold Cx.lE;repeat' split
 all_goals first|rfl|exact xo|exact vp
def JL(fr nr lt)(v):(X.pT fr nr lt v).res.length=X.res.length:=by
 have h:=zp (X:=X) lt;unfold Cx.pT Cx.lU;dsimp only;repeat' split
 all_goals first|rfl|(rw[h];done)|(rw[B7];rw[h])|(rw[vp];show(X.iz lt).res.length=_;rw[h])|(rw[AX];show(X.iz lt).res.length=_;rw[h])|(show(X.iz lt).res.length=_;rw[h])
def Dy(fr nr)(A):(X.jA fr nr A).res.length=X.res.length:=by
 unfold Cx.jA;repeat' split
 all_goals first|rfl|(rw[zp])|(rw[Gm];done)|(rw[LQ];rfl)
def L0(fr)(p):(X.recv fr p).res.length=X.res.length:=by
 unfold Cx.recv;split
 .exact Dy ..
 .exact JL ..
 rfl
def EK:X.kR.res=X.res:=by
 unfold Cx.kR;dsimp only;repeat' split
 all_goals rfl
def NS(k)(t):(X.jv k t).res.length=X.res.length:=by
 unfold Cx.jv Cx.dO;dsimp only;repeat' split
 all_goals first|rfl|exact uH ..
def Xk.recv(h:Xk b X){p:Pk}(D:∀nr A,p=.rep nr A->Fh b A)(y:∀nr j v,p=.vot nr j v->(0<=j/\j<=b.E+1)/\CU b v):Xk b.J (X.recv fr p):=by
 unfold Cx.recv;split
 .exact h.jA (D _ _ rfl)
 .exact h.pT (y _ _ _ rfl).2 (y _ _ _ rfl).1
 exact h.L b.yF
def oE{k:Nat}:(W.pY l k)[i]?=(W.pl[i]?).map λP=>if i<k/\jZ W.n W.m i=l.tt/\P.up=true then P.recv W.n W.m W.v W.ce l.fr l.pk else P:=gz
def ot{k:Nat}:(W.rF l k)[i]?=(W.ac[i]?).map λA=>if i<k/\iM i=l.tt/\A.up=true then{A with X:=A.X.recv l.fr l.pk}else A:=gz
def tJ.B(h:tJ b n m v l)(b')(k:b.ln b'):(∀nr A,l.pk=.rep nr A->Fh b' A)/\∀nr j u,l.pk=.vot nr j u->(0<=j/\j<=b'.E+1)/\CU b' u:=by
 obtain⟨fr,tt,p⟩:=l;have:=k.e;refine⟨λnr A e=>?_,λnr j u e=>?_⟩
 .simp only at e;subst e;exact h.2.2.L k
 simp only at e;subst e;exact⟨⟨h.2.2.1.1,gI h.2.2.1.2⟩,h.2.2.2.L k⟩
def Tv.recv(h:Tv W i A)(j:tJ (W.B 0) W.n W.m W.v l):Xk (W.B i).J (A.X.recv l.fr l.pk)/\ve A {A with X:=A.X.recv l.fr l.pk}:=by refine h.x.KW (λg _ y=>?_) (L0 ..) A.up A.up λe=>e;obtain⟨D,F⟩:=j.B {W.B i with g:=g} ⟨iI,iI,iI,iI⟩;exact y.recv D F
def Wk.E(h:Wk W)(H:W'.n=W.n)(M:W'.m=W.m)(y:W'.v=W.v)(hc:W'.ce=W.ce)(ha:W.iH+1<=W'.iH)(a0:W'.pl.length=W.pl.length)(a1:∀(i:Nat) P,W'.pl[i]?=some P->G1 (W.B 0) W.n W.m W.v i P)(a2:W'.ac.length=W.ac.length)(S:∀(i:Nat) A,W.ac[i]?=some A->∃A',W'.ac[i]?=some A'/\(A'=A\/Xk (W.B i).J A'.X)/\ve A A')(a3:∀l∈W'.iq,tJ (W.B 0) W.n W.m W.v l)(a4:W'.iq.length<=200*W'.iH)(V:W.a<=W'.a/\W'.a<=W.a+1)(j:W'.bx=W.bx)(a5:W'.kS=W.kS)(a6:W'.jU=W.jU):Wk W':=by
 have D:W.bx.length<=W'.bx.length:=by rw[j];exact jc
 have Y:=tU W W' 0 0 C D;have a8:=h.nw;refine⟨by rw[H];exact h.n1,by rw[M];exact h.m1,by rw[y];exact h.v1,by rw[y];exact h.v2,by rw[hc];exact h.c1,by rw[a0,h.pl,H,M,y],λi P hP=>?_,by rw[a2];exact h.al,λi A' F=>?_,λl hl=>?_,a4,C,by rw[j];have:=h.cl;omega,λc Z=>?_,by rw[a5];have:=h.hd;omega,by rw[a6];exact h.ms⟩
 .rw[H,M,y];exact(a1 i P hP).L Y
 .have hi:=(aj.1 F).1;obtain⟨A,hA⟩:∃A,W.ac[i]?=some A:=⟨_,ah C⟩;obtain⟨A2,a7,hx,hg⟩:=S i A hA;have e:A2=A':=by rw[a7]at F;simpa using F
  subst e;have hk:=h.ac i A hA;have hJ:∀a b c d e,W.J i a b c d e->W'.J i a b c d e:=λa b c d e=>by unfold Wd.J;rw[j];exact λe=>e
  refine⟨?_,by rw[j,hg.len];exact hk.nm⟩;obtain rfl|hx:=hx
  .exact hk.x.L (Fc W W' i C D H M y hc hJ)
  exact hx.L (UO W W' i ha D H M y hc hJ)
 .rw[H,M,y];exact(a3 l hl).L Y
 rw[j]at Z;exact(h.ca c Z).go C V.1 λi A hA=>by obtain⟨A',h1,_,h2⟩:=S i A hA;exact⟨A',h1,h2⟩
def Wk.qJ(h:Wk W)(y:tJ (W.B 0) W.n W.m W.v l):Wk (W.qJ l):=by
 obtain⟨b1,H,Y,L⟩:=U7 W 0;refine h.E rfl rfl rfl rfl jc (dJ ..) (λi P j=>?_) (dJ ..) (λi A D=>?_) h.po (by have:=h.a;show W.iq.length<=200*(W.iH+1);omega) ⟨by show W.a<=W.a+1;omega,iI⟩ rfl rfl rfl
 .change (W.pY l W.pl.length)[i]?=some P at j;rw[oE]at j;obtain⟨P0,F,rfl⟩:=bN.1 j;split
  .rename_i M;exact(h.pk i P0 F).recv b1 H L (tE h.n1.2 h.m1.2) y M.2.1
  exact h.pk i P0 F
 refine⟨_,by show(W.rF l W.ac.length)[i]?=_;rw[ot,D];rfl,?_⟩;dsimp only;split
 .obtain⟨S,V⟩:=(h.ac i A D).recv y;exact⟨.inr S,V⟩
 exact⟨.inl rfl,ve.refl A⟩
def Wk.mO(h:Wk W)(j:tJ (W.B 0) W.n W.m W.v l):Wk (W.mO l):=by
 unfold Wd.mO;split
 .exact h.E rfl rfl rfl rfl jc rfl h.pk rfl (λi A y=>⟨A,y,.inl rfl,ve.refl A⟩) h.po (by have:=h.a;show W.iq.length<=200*(W.iH+1);omega) ⟨by show W.a<=W.a+1;omega,iI⟩ rfl rfl rfl
 have:=h.nw;exact(h.qJ j).iY (by show W.a+1+1<=4*((W.iH+1):Int);omega)
def Wk.mM(h:Wk W)(D:W.ac[i]?=some A)(F:Xk (W.B i).J X'/\ve A {A with X:=X'}):Wk (W.mM i X'):=by
 refine h.E rfl rfl rfl rfl jc rfl h.pk (cy ..) (λj B y=>?_) h.po (by have:=h.a;show W.iq.length<=200*(W.iH+1);omega) ⟨iI,by show W.a<=W.a+1;omega⟩ rfl rfl rfl;refine⟨_,by show(W.ac.modify i _)[j]?=_;rw[bS,y];rfl,?_⟩;by_cases e:i=j
 .simp_all
 dsimp only;rw[az e];exact⟨.inl rfl,ve.refl _⟩
def Tv.kR(h:Tv W i A):Xk (W.B i).J A.X.kR/\ve A {A with X:=A.X.kR}:=h.x.KW (λ_ _ j=>j.kR) (by show A.X.kR.res.length=_;rw[EK]) A.up A.up λe=>e
def Tv.jv(h:Tv W i A)(k)(t)(j:∀c∈A.X.dd,c.gH=k->W.J i c.gH c.kind c.gZ c.unit t):Xk (W.B i).J (A.X.jv k t)/\ve A {A with X:=A.X.jv k t}:=h.x.KW (λg y D=>D.jv (by show∀c∈A.X.dd,c.gH=k->g.J c.gH c.kind c.gZ c.unit t;rw[y];exact j)) (NS ..) A.up A.up λe=>e
def El{α:Type}{q:Qn α}{z:Int×Rq}(h:z∈q.iE):z.1∈q.nodes/\z.2=q.a:=by
 unfold Qn.iE at h;split at h
 .obtain⟨u,j,rfl⟩:=aD.1 h;simp_all
 simp_all
def vD{α:Type}(q:Qn α):q.iE.length<=q.nodes.length:=by
 unfold Qn.iE;split
 .rw[ay];exact bF _ _
 simp
theorem Xk.iE(h:Xk b X):(∀z∈X.iE,(r8 X.n X.m z.1/\OL b z.2)\/(BU X.vo z.1/\ON b z.2))/\X.iE.length<=160:=by
 have j:∀{q:Qn An},QU b X.n X.m q->∀z∈q.iE,(r8 X.n X.m z.1/\OL b z.2)\/(BU X.vo z.1/\ON b z.2):=fun{q} H z hz=>by obtain⟨y,D⟩:=El hz;exact .inl ⟨H.id _ y,by rw[D];exact H.a (bM y)⟩
 refine⟨λz hz=>?_,?_⟩
 .unfold Cx.iE at hz;simp only[aT,eB]at hz;obtain ((⟨c,F,hz⟩|hz)|hz)|hz:=hz
  .exact j (h.a c F).q z hz
  .exact j h.pr z hz
  .exact j h.sl z hz
  obtain⟨y,D⟩:=El hz;exact .inr ⟨h.vt.id _ y,by rw[D];exact h.vt.a (bM y)⟩
 have y:∀l:List jf,(∀c∈l,QU b X.n X.m c.q)->(l.flatMap λc=>c.q.iE).length<=14*l.length:=λl=>by
  induction l with
  |nil=>simp
  |cons c l M=>intro L;have D:=M λd S=>L d (aX _ S);have V:=vD c.q;have Y:=(L c (aN ..)).nl;rw[dP,aO,df];omega
 have D:=y X.dd λc F=>(h.a c F).q;have V:=h.pl;have Y:=vD X.jg;have Z:=vD X.mv.b;have h6:=vD X.mv.a;have h7:=h.pr.nl;have h8:=h.sl.nl;have h9:=h.vt.nl;unfold Cx.iE;simp only[aO];omega
def I5(h:Wk W)(j:W.ac[i]?=some A):TM (iM i):=⟨i,by have:=(aj.1 j).1;have:=h.al;omega,rfl⟩
theorem Wk.kE(h:Wk W)(k):Wk (W.kE k):=by
 have a3:=h.a;unfold Wd.kE;split
 .split
  .exact h
  rename_i P hP;split
  .have H:=h.pk k P hP;have hq:=H.q.len;refine h.E rfl rfl rfl rfl jc (bK ..) (λi P' D=>?_) rfl (λi A F=>⟨A,F,.inl rfl,ve.refl A⟩) (λl hl=>?_) (by show(W.iq++_).length<=200*(W.iH+1);rw[aO,ay];omega) ⟨iI,by show W.a<=W.a+1;omega⟩ rfl rfl rfl
   .change (W.pl.set k P.jt)[i]?=some P' at D;by_cases e:k=i
    .subst e;rw[aQ (aj.1 hP).1]at D;simp only[aJ]at D;subst D;exact H.jt
    rw[aH e]at D;exact h.pk i P' D
   obtain hl|hl:=aT.1 hl
   .exact h.po l hl
   obtain⟨e,he,rfl⟩:=aD.1 hl;have L:=H.q.e e he;obtain⟨j,_,hj⟩:=L.cl;have M:1000<=e.cl:=by rw[hj];unfold iM;omega
   have y:=L.pk;show tJ _ _ _ _ ⟨_,e.cl,e.pk⟩
   cases V:e.pk with
   |req r=>rw[V]at y;exact y.elim
   |noi ds=>rw[V]at y;exact y.elim
   |rep nr A=>rw[V]at y;exact⟨M,y⟩
   |vot nr lt v=>rw[V]at y;exact⟨M,y⟩
  exact h
 split
 .exact h
 rename_i A F;split
 .have H:=h.ac _ A F;have Z:=H.x;obtain⟨o1,o2⟩:=Z.iE;obtain⟨⟨c1,c2⟩,c3,c4,c5⟩:=Z.cf;refine h.E rfl rfl rfl rfl jc rfl h.pk (bK ..) (λj B Y=>?_) (λl hl=>?_) (by show(W.iq++_).length<=200*(W.iH+1);rw[aO,ay];omega) ⟨iI,by show W.a<=W.a+1;omega⟩ rfl rfl rfl
  .by_cases e:k-W.pl.length=j
   .subst e;rw[F]at Y;simp only[aJ]at Y;subst Y;exact⟨_,aQ (aj.1 F).1,.inr (Z.jt.L (Bd.yF _)),λe=>e,rfl,λ_ _ e _=>e⟩
   exact⟨B,by show(W.ac.set _ _)[j]?=_;rw[aH e];exact Y,.inl rfl,ve.refl B⟩
  obtain hl|hl:=aT.1 hl
  .exact h.po l hl
  obtain⟨z,hz,rfl⟩:=aD.1 hl;refine⟨I5 h F,?_⟩;have a0:A.X.n=W.n:=c1;have a1:A.X.m=W.m:=c2;have a2:A.X.vo=W.v:=c3;obtain⟨S,g2⟩|⟨S,g2⟩:=o1 z hz
  .rw[a0,a1]at S;exact .inl ⟨S,g2.L (tU W W _ 0 jc jc)⟩
  rw[a2]at S;exact .inr ⟨S,g2.L (tU W W _ 0 jc jc)⟩
 exact h
structure nW(W W':Wd):Prop where
 n:W'.n=W.n
 m:W'.m=W.m
 v:W'.v=W.v
 ce:W'.ce=W.ce
 pl:W'.pl.length=W.pl.length
 ac:W'.ac.length=W.ac.length
 ca:W'.bx.length=W.bx.length
 hd:W'.kS=W.kS
 ms:W'.jU=W.jU
 iH:W.iH<=W'.iH
 a:W.a<=W'.a
section
variable{W2:Wd}
def nW.refl(W):nW W W:=⟨rfl,rfl,rfl,rfl,rfl,rfl,rfl,rfl,rfl,jc,iI⟩
def nW.H(h:nW W W')(k:nW W' W2):nW W W2:=⟨k.n.H h.n,k.m.H h.m,k.v.H h.v,k.ce.H h.ce,k.pl.H h.pl,k.ac.H h.ac,k.ca.H h.ca,k.hd.H h.hd,k.ms.H h.ms,aF h.iH k.iH,bt h.a k.a⟩
theorem yD(W)(k):nW W (W.kE k)/\(W.kE k).iH<=W.iH+1/\(W.kE k).a=W.a:=by
 unfold Wd.kE;repeat' split
 all_goals first
  |exact⟨nW.refl W,pK,rfl⟩
  |exact⟨⟨rfl,rfl,rfl,rfl,aq,aq,rfl,rfl,rfl,pK,iI⟩,jc,rfl⟩
def zn(W):nW W W.iY:=⟨rfl,rfl,rfl,rfl,rfl,rfl,ay ..,rfl,rfl,jc,by show W.a<=W.a+1;omega⟩
def Gj(W)(l):nW W (W.qJ l):=⟨rfl,rfl,rfl,rfl,dJ ..,dJ ..,rfl,rfl,rfl,pK,by show W.a<=W.a+1;omega⟩
def pM(W)(l):nW W (W.mO l)/\(W.mO l).iH=W.iH+1/\(W.mO l).iq=W.iq:=by
 unfold Wd.mO;split
 .exact⟨⟨rfl,rfl,rfl,rfl,rfl,rfl,rfl,rfl,rfl,pK,by show W.a<=W.a+1;omega⟩,rfl,rfl⟩
 exact⟨(Gj W l).H (zn _),rfl,rfl⟩
def nW.le(h:nW W W')(j:tJ (W.B 0) W.n W.m W.v l):tJ (W'.B 0) W'.n W'.m W'.v l:=by rw[h.n,h.m,h.v];exact j.L (tU W W' 0 0 h.iH (by rw[h.ca];exact jc))
def Wk.Sh(h:Wk W)(D:∀l∈po,tJ (W.B 0) W.n W.m W.v l)(F:po.length<=200*W.iH):Wk {W with iq:=po}:=
 ⟨h.n1,h.m1,h.v1,h.v2,h.c1,h.pl,h.pk,h.al,λi A y=>⟨(h.ac i A y).x,(h.ac i A y).nm⟩,D,F,h.nw,h.cl,λc j=>⟨(h.ca c j).ac,(h.ca c j).kd,(h.ca c j).po,(h.ca c j).vl,(h.ca c j).tk,(h.ca c j).bg,(h.ca c j).fi,(h.ca c j).r,(h.ca c j).fw⟩,h.hd,h.ms⟩
def Wd.M(W:Wd)(k:Nat):Wd:=(List.range k).foldl Wd.kE {W with iq:=[]}
def pf(W:Wd)(k):W.M (k+1)=(W.M k).kE k:=by unfold Wd.M;rw[dp,dN];rfl
theorem vP(h:Wk W):∀k,Wk (W.M k)/\nW W (W.M k)/\(W.M k).iH<=W.iH+k/\(W.M k).iq.length<=80*k+80*(k-W.pl.length)
 |0=>⟨h.Sh (po:=[]) aq aq,⟨rfl,rfl,rfl,rfl,rfl,rfl,rfl,rfl,rfl,jc,iI⟩,jc,by simp[Wd.M]⟩
 |k+1=>by
  obtain⟨y,D,Y,Z⟩:=vP h k;obtain⟨H,s2,_⟩:=yD (W.M k) k;have L:=D.pl;rw[pf];refine⟨y.kE k,D.H H,C,?_⟩;have j:∀(V:Wd),Wk V->(V.kE k).iq.length<=V.iq.length+80+(if k<V.pl.length then 0 else 80):=λV F=>by
   unfold Wd.kE;split
   .split
    .omega
    rename_i P M;split
    .have:=(F.pk k P M).q.len;show(V.iq++_).length<=_;rw[aO,ay];omega
    omega
   split
   .omega
   rename_i A S;split
   .have:=(F.ac _ A S).x.iE.2;show(V.iq++_).length<=_;rw[aO,ay];omega
   omega
  have:=j _ y;split at this<;>omega
def xX(W:Wd):W.iE=W.M (W.pl.length+W.ac.length):=rfl
def BK(h:Wk W):Wk W.iE/\nW W W.iE/\W.iE.iH<=W.iH+22/\W.iE.iq.length<=2400:=by obtain⟨j,y,D,F⟩:=vP h _;have:=h.al;have:=h.pl;have:=tE h.n1.2 h.m1.2;have:=h.v1;rw[xX];exact⟨j,y,C,C⟩
def te(h:Wk W):Wk ({W.iE with iq:=W.iq}:Wd)/\nW W ({W.iE with iq:=W.iq}:Wd)/\∀l∈W.iE.iq,tJ (({W.iE with iq:=W.iq}:Wd).B 0) W.n W.m W.v l:=by
 obtain⟨D,j,H,L⟩:=BK h;have F:nW W ({W.iE with iq:=W.iq}:Wd):=⟨j.n,j.m,j.v,j.ce,j.pl,j.ac,j.ca,j.hd,j.ms,j.iH,j.a⟩;refine⟨D.Sh (λl y=>?_) (by have:=h.a;have:=j.iH;omega),F,λl y=>?_⟩
 .have:=j.le (h.po l y);omega
 have:=D.po l y;rwa[j.n,j.m,j.v]at this
theorem vz:∀(ls:List Le) {W:Wd},Wk W->(∀l∈ls,tJ (W.B 0) W.n W.m W.v l)->Wk (W.kW ls)/\nW W (W.kW ls)/\(W.kW ls).iH=W.iH+ls.length/\(W.kW ls).iq=W.iq
 |[],W,h,_=>⟨h,nW.refl W,rfl,rfl⟩
 |l::ls,W,h,j=>by obtain⟨y,V,D⟩:=pM W l;obtain⟨F,H,L,M⟩:=vz ls (h.mO (j l (aN ..))) λx S=>y.le (j x (aX _ S));exact⟨F,y.H H,by show((W.mO l).kW ls).iH=_;rw[L];simp;omega,by show((W.mO l).kW ls).iq=_;rw[M,D]⟩
def rf(h:Wk W):Wk W.step/\nW W W.step/\W.step.iH<=W.iH+2422/\W.step.iq=W.iq/\W.iE.iH<=W.step.iH:=by
 obtain⟨y,j,D⟩:=te h;obtain⟨S,V,Y,Z⟩:=BK h;obtain⟨F,H,L,M⟩:=vz W.iE.iq y (by rw[j.n,j.m,j.v];exact D);refine⟨F,j.H H,?_,M,?_⟩
 .show(Wd.kW _ _).iH<=_;rw[L];show W.iE.iH+_<=_;omega
 show _<=(Wd.kW _ _).iH;simp_all
end
structure jq(P:Nat->Prop)(w:World)(aY:Nat->Nat)(w':World)(bp:Nat->Nat):Prop where
 only:bz (λb=>P (aY b)) w w'
 aY:∀b,b<w.heap.size->bp b=aY b
def jq.refl:jq P w aY w aY:=⟨sQ,λ_ _=>rfl⟩
def jq.H(h:jq P w aY w' bp)(k:jq P w' bp w2 tag2):jq P w aY w2 tag2:=
 ⟨⟨k.only.os.H h.only.os,k.only.tape.H h.only.tape,k.only.output.H h.only.output,aF h.only.size k.only.size,λi j y=>by
  rw[k.only.block i (af j h.only.size) (by rw[h.aY i j];exact y),h.only.block i j y]⟩,
  λb D=>(k.aY b (af D h.only.size)).H (h.aY b D)⟩
def jq.L(h:jq P w aY w' bp)(j:∀t,P t->Q t):jq Q w aY w' bp:=⟨h.only.L λ_ _ e=>j _ e,h.aY⟩
def jq.E(h:Bl w w')(t):jq P w aY w' (gN aY w.heap.size t):=⟨bz.E h,λ_ j=>fz _ _ _ _ j⟩
def jq.B(h:Bl w w')(j:∀b,b<w.heap.size->bp b=aY b):jq P w aY w' bp:=⟨bz.E h,j⟩
def jq.size(h:jq P w aY w' bp):w.heap.size<=w'.heap.size:=h.only.size
def jq.heap(h:jq P w aY w' bp){b:Nat}{o:Obj}(j:w.heap[b]?=some o)(y:aY b=t)(F:¬P t):w'.heap[b]?=some o/\bp b=t:=by have D:=(ae.1 j).1;exact⟨(h.only.block b D (jP y F)).H j,(h.aY b D).H y⟩
structure mx(w:World)(aY:Nat->Nat)(t:Nat)(e:TypeId)(sz:Nat)(v:Value)(n:Nat)(xs:List Value):Prop where
 gZ:w.ownsRow 0 e sz v n xs
 aY:∀b,v.ownBlock=some b->aY b=t
def mx.nil(t)(e)(sz):mx w aY t e sz OO 0 []:=⟨mC,λb j=>mX j⟩
def mx.B{v:Value}(h:mx w aY t e sz v n xs)(k:jq P w aY w' bp)(y:¬P t):mx w' bp t e sz v n xs:=
 ⟨k.only.iJ h.gZ λb j D=>y (by rw[<-h.aY b j];exact D),λb j=>(k.aY b (h.gZ.lt b j).2).H (h.aY b j)⟩
def mx.E{v:Value}(h:mx w aY t e sz v n xs):∃a c,v=dk a n c:=by obtain⟨e,y⟩|⟨g,cap,j,e,_⟩:=h.gZ.2;all_goals simp_all
def mx.block{v:Value}(h:mx w aY t e sz v n xs)(L:0<n):∃g cap j,v=dk (G g) n cap/\aY g=t/\g<w.heap.size/\w.heap[g]?=some (gO j e (0,0))/\n<=cap/\cap<=maxLen:=by
 obtain⟨e,M⟩|⟨g,cap,j,e,_,y,D,F,_⟩:=h.gZ.2
 .omega
 subst e;exact⟨g,cap,j,rfl,h.aY g rfl,(λb H=>(h.gZ.lt b H).2) g rfl,y,D,F⟩
def mx.cells{cap:Nat}{a:Option Addr}(h:mx w aY t e sz (dk a n cap) n xs)(D:0<n):∃g,a=G g/\aY g=t/\g<w.heap.size/\(∀j,j<n*sz->w.cell? (U g j)=xs[j]?)/\∀j,w.frozen? (U g j)=false:=by obtain⟨g,y,F,H,L,M,S,_⟩:=h.block D;obtain⟨rfl,rfl⟩:=H;exact⟨g,rfl,L,M,λj V=>h.gZ.cellAt j V,λj=>aP w g j _ _ S⟩
def Rd.B{v:Value}(h:Rd w aY t e v cs)(k:jq P w aY w' bp)(j:¬P t):Rd w' bp t e v cs:=
 h.only k.only (λ_ _ e y=>j (y▸e)) λb D e=>(k.aY b D).H e
def Nd.B{tg y D:Nat}{b c d:Int}{q:List Qz}(h:Nd w aY tg y D g a b c d N q)(k:jq P w aY w' bp)(F:¬P tg)(H:¬P y)(L:¬P D):Nd w' bp tg y D g a b c d N q:=
 h.only k.only (λ_ _ e=>⟨λj=>F (j▸e),λj=>H (j▸e),λj=>L (j▸e)⟩) k.aY
def Cl.B(h:Cl w aY t p qb X)(k:jq P w aY w' bp)(j:∀s,t<=s->s<t+32->¬P s):Cl w' bp t p qb X:=
 h.only k.only (λb _ e=>by
  by_cases y:aY b<t
  .omega
  .by_cases D:aY b<t+32
   .simp_all
   .exact .inr C) k.aY
def CS.B(h:CS w aY t p qb X' w'):∃bp,jq (Mc t) w aY w' bp/\Cl w' bp t p qb X':=by obtain⟨bp,j,y,D⟩:=h;exact⟨bp,⟨D,j⟩,y⟩
def Pn.ab(k0:Nat):Pn->mJ->Prop
 | .unit ch rs S,.unit ch' s h=>ch'=ch/\k0<=rs.length/\s=S rs.length/\(((List.range (rs.length+1)).drop k0).map S).Sublist h
 | .voter rs S,.voter s h=>k0<=rs.length/\s=⟨S rs.length,oG rs⟩/\(((List.range (rs.length+1)).drop k0).map λk=>VS.mk (S k) (oG (rs.take k))).Sublist h
 |_,_=>False
def xP(w:World)(aY:Nat->Nat)(n m v ce i gi iH mk:Nat)(P:Pl):Prop:=
 ∃N k0,Nd w aY (10+3*i) (11+3*i) (12+3*i) gi n m v ce N (P.q.map Qe.z)/\N.of n m v ce (jZ n m i)/\N.ab k0 P.part/\mk=off N.B k0/\N.iT.length<=300*iH/\N.B.length<=iH
def xP.B{p:Pl}(h:xP w aY n m v ce i gi iH mk p)(k:jq P w aY w' bp)(j:¬P (10+3*i))(y:¬P (11+3*i))(D:¬P (12+3*i)):xP w' bp n m v ce i gi iH mk p:=by obtain⟨N,F,H,L⟩:=h;exact⟨N,F,H.B k j y D,L⟩
def xP.later{j:Nat}{p:Pl}(h:xP w aY n m v ce i gi iH mk p)(y:iH<=j):xP w aY n m v ce i gi j mk p:=by obtain⟨N,D,F,H,L,M,S,V⟩:=h;exact⟨N,D,F,H,L,M,aF S (gA _ y),aF V y⟩
def Gs(ps:List Value)(n m i gi mk:Nat)(up qk:Bool):Prop:=ps[i*5]?=some (I (jZ n m i))/\ps[i*5+1]?=some (O gi)/\ps[i*5+2]?=some (I mk)/\ps[i*5+3]?=some (.bool up)/\ps[i*5+4]?=some (.bool qk)
structure G8(w:World)(aY:Nat->Nat)(n m v ce iH:Nat)(pl:List Pl)(pv:Value)(ps:List Value):Prop where
 row:mx w aY 2 72 5 pv pl.length ps
 pl:∀(i:Nat) (P:Pl),pl[i]?=some P->∃gi mk,Gs ps n m i gi mk P.up P.qk/\xP w aY n m v ce i gi iH mk P
def G8.B(h:G8 w aY n m v ce iH pl pv ps)(k:jq P w aY w' bp)(D:¬P 2)(j:∀t,10<=t->t<10+3*pl.length->¬P t):G8 w' bp n m v ce iH pl pv ps:=
 ⟨h.row.B k D,λi p y=>by
  obtain⟨g,mk,F,H⟩:=h.pl i p y
  have:=(aj.1 y).1
  exact⟨g,mk,F,H.B k (j _ C C) (j _ C C) (j _ C C)⟩⟩
def G8.later{j:Nat}(h:G8 w aY n m v ce iH pl pv ps)(y:iH<=j):G8 w aY n m v ce j pl pv ps:=
 ⟨h.row,λi p D=>by
  obtain⟨g,mk,F,H⟩:=h.pl i p D
  exact⟨g,mk,F,H.later y⟩⟩
def ME(aw:List Value)(i p:Nat)(up:Bool):Prop:=aw[i*3]?=some (I (iM i))/\aw[i*3+1]?=some (O p)/\aw[i*3+2]?=some (.bool up)
structure OU(w:World)(aY:Nat->Nat)(ac:List Ac)(av:Value)(aw:List Value):Prop where
 row:mx w aY 3 129 3 av ac.length aw
 ac:∀(i:Nat) (A:Ac),ac[i]?=some A->∃p qb,ME aw i p A.up/\Cl w aY (100+32*i) p qb A.X
def OU.B{j:Value}(h:OU w aY ac j aw)(k:jq P w aY w' bp)(D:¬P 3)(F:∀t,100<=t->t<100+32*ac.length->¬P t):OU w' bp ac j aw:=
 ⟨h.row.B k D,λi A y=>by
  obtain⟨p,qb,H,L⟩:=h.ac i A y
  have:=(aj.1 y).1
  exact⟨p,qb,H,L.B k λs M S=>F s C C⟩⟩
def Jb(w:World)(aY:Nat->Nat)(cs:List Value)(i:Nat)(c:Kl):Prop:=∃tv rv,cs[i*11]?=some (I c.a)/\cs[i*11+1]?=some (I c.b)/\cs[i*11+2]?=some (I c.kind)/\cs[i*11+3]?=some (I c.pos)/\cs[i*11+4]?=some (.string (ik c.value))/\cs[i*11+5]?=some tv/\cs[i*11+6]?=some (I c.d)/\cs[i*11+7]?=some (I c.fin)/\cs[i*11+8]?=some (I c.r.wh)/\cs[i*11+9]?=some (I c.r.ad)/\cs[i*11+10]?=some rv/\mx w aY (1000+i) 3 1 tv c.c.length (c.c.map I)/\Rd w aY 99 5 rv (c.r.val.map B8)
structure qE(w:World)(aY:Nat->Nat)(bx:List Kl)(cv:Value)(cs:List Value):Prop where
 row:mx w aY 4 60 11 cv bx.length cs
 c:∀(i:Nat) (c:Kl),bx[i]?=some c->Jb w aY cs i c
def Jb.B{c:Kl}(h:Jb w aY cs i c)(k:jq P w aY w' bp)(H:¬P (1000+i))(L:¬P 99):Jb w' bp cs i c:=by obtain⟨M,S,V,Y,Z,e4,e5,e6,e7,e8,e9,j,y,D,F⟩:=h;exact⟨M,S,V,Y,Z,e4,e5,e6,e7,e8,e9,j,y,D.B k H,F.B k L⟩
def qE.B{j:Value}(h:qE w aY bx j cs)(k:jq P w aY w' bp)(y:¬P 4)(D:¬P 99)(F:∀t,1000<=t->¬P t):qE w' bp bx j cs:=
 ⟨h.row.B k y,λi c H=>(h.c i c H).B k (F _ C) D⟩
structure sX(w:World)(aY:Nat->Nat)(tp:Nat)(iq:List Le)(lv:Value)(ls:List Value):Prop where
 row:mx w aY tp 138 3 lv iq.length ls
 l:∀(j:Nat) (x:Le),iq[j]?=some x->ls[j*3]?=some (I x.fr)/\ls[j*3+1]?=some (I x.tt)/\∃dv,ls[j*3+2]?=some dv/\Rd w aY 98 5 dv (x.pk.bytes.map B8)
def sX.nil(tp):sX w aY tp [] OO []:=⟨mx.nil _ _ _,λj x h=>lY h⟩
def sX.B(h:sX w aY tp iq lv ls)(k:jq P w aY w' bp)(y:¬P tp)(D:¬P 98):sX w' bp tp iq lv ls:=
 ⟨h.row.B k y,λj x F=>by
  obtain⟨H,L,M,S,V⟩:=h.l j x F
  exact⟨H,L,M,S,V.B k D⟩⟩
structure WV where
 pv:Value
 av:Value
 lv:Value
 cv:Value
 hv:Value
 mv:Value
 ps:List Value
 aw:List Value
 ls:List Value
 cs:List Value
 tp:Nat
def Ek(W:Wd)(V:WV):List Value:=[I W.n,I W.m,I W.v,I W.ce,V.pv,V.av,V.lv,V.cv,I W.a,V.hv,V.mv]
structure jJ(w:World)(aY:Nat->Nat)(g:Nat)(W:Wd)(V:WV):Prop where
 hg:w.heap[g]?=some (.cells (Ek W V).toArray 66 (0,0))
 tg:aY g=1
 J:G8 w aY W.n W.m W.v W.ce W.iH W.pl V.pv V.ps
 E:OU w aY W.ac V.av V.aw
 ca:qE w aY W.bx V.cv V.cs
 po:sX w aY V.tp W.iq V.lv V.ls
 ha:mx w aY 7 3 1 V.hv W.kS.length (W.kS.map I)
 ms:mx w aY 6 3 1 V.mv W.jU.length (W.jU.map I)
 a:W.pl.length<=14
 an:W.ac.length<=8
 ht:V.tp=8\/V.tp=97
def Wx(w:World)(aY:Nat->Nat)(g:Nat)(W:Wd):Prop:=∃V,jJ w aY g W V
def Mu(t:Nat):Prop:=t=0\/t=5\/t=9\/(52<=t/\t<97)\/(356<=t/\t<1000)
def jJ.B{V:WV}(h:jJ w aY g W V)(k:jq P w aY w' bp)(F:∀t,P t->Mu t):jJ w' bp g W V:=by have j:∀t,¬Mu t->¬P t:=λt y D=>y (F t D);unfold Mu at j;have y:=h.a;have D:=h.an;have H:=h.ht;exact⟨(k.heap h.hg h.tg (j 1 C)).1,(k.heap h.hg h.tg (j 1 C)).2,h.J.B k (j _ C) λt _ _=>j _ C,h.E.B k (j _ C) λt _ _=>j _ C,h.ca.B k (j _ C) (j _ C) λt _=>j _ C,h.po.B k (j _ C) (j _ C),h.ha.B k (j _ C),h.ms.B k (j _ C),y,D,H⟩
def jJ.bl{V:WV}(h:jJ w aY g W V)(j:Bl w w')(y:∀b,b<w.heap.size->bp b=aY b):jJ w' bp g W V:=
 h.B (P:=λ_=>False) (jq.B j y) λ_ e=>e.elim
def jJ.cellAt{V:WV}(h:jJ w aY g W V)(o)(j:(Ek W V)[o]?=some u):w.cell? (U g o)=some u:=by rw[ax w g o _ 66 _ h.hg];simpa using j
def jJ.lt{V:WV}(h:jJ w aY g W V):g<w.heap.size:=(ae.1 h.hg).1
def jJ.F{V:WV}(h:jJ w aY g W V)(i):w.frozen? (U g i)=false:=aP w g i _ 66 h.hg
def jJ.M{X:Wd}{Y:WV}(h:jJ w T p X Y)(i j:Nat){a b:Value}(e:((Ek X Y)[i]?,(Ek X Y)[j]?)=(some a,some b)):w.cell? (U p i)=some a/\w.cell? (U p j)=some b:=by simp at e;exact⟨h.cellAt i e.1,h.cellAt j e.2⟩
def jJ.Iq{X:Wd}{Y:WV}(h:jJ w T p X Y)(i j k:Nat){a b c:Value}(e:((Ek X Y)[i]?,(Ek X Y)[j]?,(Ek X Y)[k]?)=(some a,some b,some c)):w.cell? (U p i)=some a/\w.cell? (U p j)=some b/\w.cell? (U p k)=some c:=by simp at e;exact⟨h.cellAt i e.1,h.cellAt j e.2.1,h.cellAt k e.2.2⟩
def jJ.Z{X:Wd}{Y:WV}(h:jJ w T p X Y)(i j k m:Nat){a b c d:Value}(e:((Ek X Y)[i]?,(Ek X Y)[j]?,(Ek X Y)[k]?,(Ek X Y)[m]?)=(some a,some b,some c,some d)):w.cell? (U p i)=some a/\w.cell? (U p j)=some b/\w.cell? (U p k)=some c/\w.cell? (U p m)=some d:=by simp at e;exact⟨h.cellAt i e.1,h.cellAt j e.2.1,h.cellAt k e.2.2.1,h.cellAt m e.2.2.2⟩
def Fj{α:Type}(p:α->Bool)(l:List α)(k:Nat):Nat:=((l.take k).filter p).length
def D8{α:Type}(p)(l:List α):Fj p l 0=0:=rfl
def Ir{α:Type}(p)(l:List α):Fj p l l.length=(l.filter p).length:=by simp[Fj]
def N4{α:Type}(p)(l:List α)(k):Fj p l k<=k:=aF (bF _ _) gM
def IX{α:Type}{p:α->Bool}{l:List α}{k:Nat}{x:α}(h:l[k]?=some x)(j:p x=true):Fj p l (k+1)=Fj p l k+1:=by unfold Fj;rw[cW,h];simp[j]
def Gu{α:Type}{p:α->Bool}{l:List α}{k:Nat}{x:α}(h:l[k]?=some x)(j:p x=false):Fj p l (k+1)=Fj p l k:=by unfold Fj;rw[cW,h];simp[j]
section
variable{V:WV}
def Wk.mI(h:Wk W):mI W.n W.m W.v W.ce=true:=by have j:=h.n1;have y:=h.m1;have D:=h.v1;have F:=h.c1;have H:=h.v2;simp[Go.Proofs.YtbghhbpacijmmaaGreat.mI];omega
theorem tz(h:jJ w aY g W V)(j:Wk W):ib 27 #[O g] w λy w'=>y=gG (I (W.n*W.ce))/\Bl w w':=by
 obtain⟨D,F,H,L⟩:=rY j.mI;obtain⟨c0,M⟩:=h.M 0 3 rfl;have S:=h.lt;have Y:=qG D F H L;have Z:IntKind.i64.wrap ((W.n:Int)*W.ce)=W.n*W.ce:=Aj;clear h j;go_enter func27,ntmps27;go_wp2_with fail;go_quiet(fail);go_wp2;go_ret;exact⟨rfl,iZ⟩
theorem BN(h:jJ w aY g W V)(a:Nat)(hl:W.bx.length<=1000000000):ib 54 #[O g,I a] w λen w'=>en=gG (I (W.mR a))/\w'=w:=by
 obtain⟨ca,cc,j⟩:=h.ca.row.E;have c7:=h.cellAt 7 rfl;rw[j]at c7;have lg:=h.lt;have y:=h.ca;rw[j]at y;have y:=fu y;have hN:=Ir (λc:Kl=>c.a==a) W.bx;have D:W.mR a=(W.bx.filter λc=>c.a==a).length:=rfl;rw[D,<-hN];clear h j hN D;go_enter func54,ntmps54;go_wp2_with fail;go_loopw[5,6](λs i wr=>∃k:Nat,k<=W.bx.length/\s=I (Fj (λc:Kl=>c.a==a) W.bx k)/\i=I k/\wr=w) λ_ i _=>W.bx.length-(Go.RowKit.intOf i).toNat
 case atStart=>exact⟨0,jd,by rw[D8];rfl,rfl,rfl⟩
 obtain⟨k,hk,rfl,rfl,rfl⟩:=hrel;by_cases iV:k<W.bx.length
 .have a0:(k:Int)<(W.bx.length:Int):=C;obtain⟨cb,rfl,_,a1,F,_⟩:=y.row.cells C;obtain⟨c,L⟩:=m9 iV;obtain⟨tv,rv,e0,_⟩:=y.c k c L;have d0:=(F (k*11) C).H e0;have a2:=N4 (λc:Kl=>c.a==a) W.bx k;have hn:0<=(Fj (λc:Kl=>c.a==a) W.bx k:Int):=eG _;clear F e0;by_cases M:c.a=a
  .have S:=IX (p:=λc:Kl=>c.a==a) L (mY M);rw[M]at d0;have Y:=fu S;clear S M L;go_wp2;go_roundw
   case rel=>exact⟨k+1,C,by rw[Y.o];go_num,gX,trivial⟩
   exact gW
  have S:=Gu (p:=λc:Kl=>c.a==a) L (mY M);have a3:¬((c.a:Int)=(a:Int)):=C;have Y:=fu S;clear S M L;go_wp2;go_roundw
  case rel=>exact⟨k+1,C,qz Y.o,gX,trivial⟩
  exact gW
 have a4:¬((k:Int)<(W.bx.length:Int)):=C;have Z:k=W.bx.length:=C;subst Z;go_wp2;go_ret;exact⟨rfl,rfl⟩
theorem DM(h:jJ w aY g W V)(a:Nat)(hl:W.bx.length<=1000000000):ib 55 #[O g,I a] w λen w'=>en=gG (I (W.th a))/\w'=w:=by
 obtain⟨ca,cc,y⟩:=h.ca.row.E;have c7:=h.cellAt 7 rfl;rw[y]at c7;have lg:=h.lt;have M:=h.ca;rw[y]at M;have M:=fu M;have hN:=Ir (λc:Kl=>c.a==a&&decide (c.fin=0)) W.bx;have S:W.th a=(W.bx.filter λc=>c.a==a&&decide (c.fin=0)).length:=rfl;rw[S,<-hN];clear h y hN S;go_enter func55,ntmps55;go_wp2_with fail;go_loopw[5,6](λs i wr=>∃k:Nat,k<=W.bx.length/\s=I (Fj (λc:Kl=>c.a==a&&decide (c.fin=0)) W.bx k)/\i=I k/\wr=w) λ_ i _=>W.bx.length-(Go.RowKit.intOf i).toNat
 case atStart=>exact⟨0,jd,by rw[D8];rfl,rfl,rfl⟩
 obtain⟨k,hk,rfl,rfl,rfl⟩:=hrel;by_cases iV:k<W.bx.length
 .have a1:(k:Int)<(W.bx.length:Int):=C;obtain⟨cb,rfl,_,a2,D,_⟩:=M.row.cells C;obtain⟨c,F⟩:=m9 iV;obtain⟨tv,rv,e0,e1,e2,e3,e4,e5,e6,e7,_⟩:=M.c k c F;have d0:=(D (k*11) C).H e0;have d7:=(D (k*11+7) C).H e7;have a3:=N4 (λc:Kl=>c.a==a&&decide (c.fin=0)) W.bx k;have hn:0<=(Fj (λc:Kl=>c.a==a&&decide (c.fin=0)) W.bx k:Int):=eG _;clear D e0 e1 e2 e3 e4 e5 e6 e7;by_cases L:c.a=a
  .rw[L]at d0;by_cases Z:c.fin=0
   .have j:=IX (p:=λc:Kl=>c.a==a&&decide (c.fin=0)) F (by simp[L,Z]);rw[Z]at d7;have Y:=fu j;clear j L Z F;go_wp2;go_roundw
    case rel=>exact⟨k+1,C,by rw[Y.o];go_num,gX,trivial⟩
    exact gW
   have j:=Gu (p:=λc:Kl=>c.a==a&&decide (c.fin=0)) F (mY Z);have Y:=fu j;generalize c.fin=fi at*;clear j L F;go_wp2;go_roundw
   case rel=>exact⟨k+1,C,qz Y.o,gX,trivial⟩
   exact gW
  have j:=Gu (p:=λc:Kl=>c.a==a&&decide (c.fin=0)) F (mY L);have a4:¬((c.a:Int)=(a:Int)):=C;have Y:=fu j;clear j L F;go_wp2;go_roundw
  case rel=>exact⟨k+1,C,qz Y.o,gX,trivial⟩
  exact gW
 have a5:¬((k:Int)<(W.bx.length:Int)):=C;have a0:k=W.bx.length:=C;subst a0;go_wp2;go_ret;exact⟨rfl,rfl⟩
end
theorem Oi:∀(j:List Value) (l:List Value) (o:Nat),(vC l o j).length=l.length
 |[],_,_=>rfl
 |v::j,l,o=>by unfold vC;rw[Oi j];simp
theorem uV:∀(y:List Value) (l:List Value) (o j:Nat),(j<o\/o+y.length<=j)->(vC l o y)[j]?=l[j]?
 |[],_,_,_,_=>rfl
 |v::y,l,o,j,h=>by unfold vC;rw[uV y _ _ _ (by simp at h;omega),aH (by simp at h;omega)]
theorem Ik:∀(j:List Value) (l:List Value) (o k:Nat),k<j.length->o+j.length<=l.length->(vC l o j)[o+k]?=j[k]?
 |[],_,_,_,h,_=>lY h
 |v::j,l,o,0,_,y=>by unfold vC;rw[uV j _ _ _ C,fj,aQ (by simp at y;omega)];rfl
 |v::j,l,o,k+1,D,y=>by unfold vC;rw[show o+(k+1)=(o+1)+k by omega,Ik j _ _ _ (iG D) (by simp at y|-;omega)];simp
def rC{base cap:Nat}(h:w.ownsRow base e sz (dk (G g) n cap) n xs)(j)(u):(w.setCell (U g j) u).ownsRow base e sz (dk (G g) n cap) n (xs.set j u):=by
 refine⟨by rw[bK];exact h.1,?_⟩;obtain⟨e,_⟩|⟨Y,D,y,e,F,H,L,M,S,V⟩:=h.2
 .simp_all
 simp at e;obtain⟨rfl,rfl⟩:=e;refine .inr ⟨g,cap,y.setIfInBounds j u,rfl,F,fy w g j y _ u H,L,M,iG S,?_⟩;rw[<-V,Array.toList_setIfInBounds,List.take_set]
theorem Et{base cap:Nat}:∀(j:List Value) (o:Nat) (w:World) (xs:List Value),w.ownsRow base e sz (dk (G g) n cap) n xs->(jX w g o j).ownsRow base e sz (dk (G g) n cap) n (vC xs o j)
 |[],_,_,_,h=>h
 |v::j,o,_,_,h=>Et j (o+1) _ _ (rC h o v)
section
variable{V:WV}
def ka{b:Nat}(j:aY b=t)(o)(u):jq (λs=>s=t) w aY (w.setCell (U b o) u) aY:=⟨(bz.refl _ w).setCell (U b o) (.inl j) _,λ_ _=>rfl⟩
def DR{b:Nat}(j:aY b=t)(o)(vs):jq (λs=>s=t) w aY (jX w b o vs) aY:=⟨jw (S:=λb=>aY b=t) (.inl j) vs o w (bz.refl _ w),λ_ _=>rfl⟩
def jJ.sd(h:jJ w aY g W V){a:Nat}(j:W.iH<=a):jJ w aY g {W with iH:=a} V:=⟨h.hg,h.tg,h.J.later j,h.E,h.ca,h.po,h.ha,h.ms,h.a,h.an,h.ht⟩
def jJ.Mx(h:jJ w aY g W V)(t):jJ (w.setCell (U g 8) (I t)) aY g {W with a:=t} V:=by have k:jq _ w aY (w.setCell (U g 8) (I t)) aY:=ka h.tg 8 _;have j:=h.ht;exact⟨iU 8 _ w _ h.hg,h.tg,h.J.B k C λi _ _=>C,h.E.B k C λi _ _=>C,h.ca.B k C C λi _=>C,h.po.B k C C,h.ha.B k C,h.ms.B k C,h.a,h.an,h.ht⟩
def jJ.IB(h:jJ w aY g W V)(j:sX w aY tp po lv ls)(y:tp=8\/tp=97):jJ (w.setCell (U g 6) lv) aY g {W with iq:=po} {V with lv:=lv,ls:=ls,tp:=tp}:=by have k:jq _ w aY (w.setCell (U g 6) lv) aY:=ka h.tg 6 _;exact⟨iU 6 _ w _ h.hg,h.tg,h.J.B k C λi _ _=>C,h.E.B k C λi _ _=>C,h.ca.B k C C λi _=>C,j.B k C C,h.ha.B k C,h.ms.B k C,h.a,h.an,y⟩
def jJ.Rh(h:jJ w aY g W V)(k:jq (λt=>t=4\/t=99\/1000<=t) w aY w' bp){j:List Kl}{y:List Value}(D:qE w' bp j V.cv y):jJ w' bp g {W with bx:=j} {V with cs:=y}:=by have F:=h.a;have H:=h.an;have L:=h.ht;exact⟨(k.heap h.hg h.tg C).1,(k.heap h.hg h.tg C).2,h.J.B k C λi _ _=>C,h.E.B k C λi _ _=>C,D,h.po.B k C C,h.ha.B k C,h.ms.B k C,h.a,h.an,h.ht⟩
def jJ.UT(h:jJ w aY g W V){u:Nat}(k:jq (λt=>t=10+3*u\/t=11+3*u\/t=12+3*u) w aY w' bp){P0 P1:Pl}(D:W.pl[u]?=some P0){gu:Nat}(y:Gs V.ps W.n W.m u gu mk P1.up P1.qk)(F:xP w' bp W.n W.m W.v W.ce u gu W.iH mk P1):jJ w' bp g {W with pl:=W.pl.set u P1} V:=by
 have Y:=h.a;have Z:=h.an;have h3:=h.ht;have H:=(aj.1 D).1;refine⟨(k.heap h.hg h.tg C).1,(k.heap h.hg h.tg C).2,⟨?_,λi P j=>?_⟩,h.E.B k C λi _ _=>C,h.ca.B k C C λi _=>C,h.po.B k C C,h.ha.B k C,h.ms.B k C,by rw[bK];exact h.a,h.an,h.ht⟩
 .have:=h.J.row.B k C;rw[bK];exact this
 by_cases e:u=i
 .subst e;rw[aQ H]at j;simp only[aJ]at j;subst j;exact⟨gu,mk,y,F⟩
 rw[aH e]at j;obtain⟨L,mk',M,S⟩:=h.J.pl i P j;exact⟨L,mk',M,S.B k C C C⟩
def jJ.Qa(h:jJ w aY g W V){u:Nat}(k:jq P w aY w' bp)(M:∀t,P t->(100+32*u<=t/\t<132+32*u)\/Mu t)(L:W.ac[u]?=some A)(F:ME V.aw u p A.up)(S:Cl w' bp (100+32*u) p qb X'):jJ w' bp g {W with ac:=W.ac.modify u λA=>{A with X:=X'}} V:=by
 have h1:=h.a;have h2:=h.an;have h3:=h.ht;have hu:=(aj.1 L).1;have j:∀t,¬(100+32*u<=t/\t<132+32*u)->¬Mu t->¬P t:=λt Y Z g3=>by obtain e|e:=M t g3;exact Y e;exact Z e
 unfold Mu at j;refine⟨(k.heap h.hg h.tg (j _ C C)).1,(k.heap h.hg h.tg (j _ C C)).2,h.J.B k (j _ C C) λi _ _=>j _ C C,⟨?_,λi B y=>?_⟩,h.ca.B k (j _ C C) (j _ C C) λi _=>j _ C C,h.po.B k (j _ C C) (j _ C C),h.ha.B k (j _ C C),h.ms.B k (j _ C C),h.a,by rw[cy];exact h.an,h.ht⟩
 .have:=h.E.row.B k (j _ C C);rw[cy];exact this
 rw[bS]at y;by_cases e:u=i
 .subst e;rw[L]at y;simp only[if_true,dL,bG,aJ]at y;subst y;exact⟨p,qb,F,S⟩
 simp only[az e,dL]at y;obtain⟨B',D,rfl⟩:=bN.1 y;have:=(aj.1 D).1;obtain⟨p',H,e1,e2⟩:=h.E.ac i B' D;exact⟨p',H,e1,e2.B k λs _ _=>j _ C C⟩
def qE.E{cb len cap:Nat}{c:Kl}(h:qE w aY bx (dk (G cb) len cap) cs)(F:bx.length=len)(hc:bx[i]?=some c)(t)(r)(rv)(hr:Rd w aY 99 5 rv (r.val.map B8)):qE (jX w cb (i*11+7) [I t,I r.wh,I r.ad,rv]) aY (bx.set i {c with fin:=t,r:=r}) (dk (G cb) len cap) (vC cs (i*11+7) [I t,I r.wh,I r.ad,rv]):=by
 subst F;have a1:=h.row.aY cb rfl;have k:jq (λs=>s=4) w aY (jX w cb (i*11+7) [I t,I r.wh,I r.ad,rv]) aY:=DR a1 _ _;have hl:=h.row.gZ.1;have a2:=(aj.1 hc).1;have L:i*11+7+4<=cs.length:=C;refine⟨⟨by rw[bK];exact Et _ _ _ _ h.row.gZ,h.row.aY⟩,λj c' M=>?_⟩;by_cases S:j=i
 .subst S;rw[aQ a2]at M;simp only[aJ]at M;subst M;obtain⟨tv,Y,e0,e1,e2,e3,e4,e5,e6,e7,e8,e9,Z,D,a0⟩:=h.c j c hc;have z:=λkk hk=>Ik [I t,I r.wh,I r.ad,rv] cs (j*11+7) kk hk L;have y:=λo (ho:o<7)=>uV [I t,I r.wh,I r.ad,rv] cs (j*11+7) (j*11+o) (.inl C);exact⟨tv,rv,(y 0 C).H e0,(y 1 C).H e1,(y 2 C).H e2,(y 3 C).H e3,(y 4 C).H e4,(y 5 C).H e5,(y 6 C).H e6,z 0 aq,z 1 aq,z 2 aq,z 3 aq,D.B k C,hr.B k C⟩
 rw[aH (Ne.symm S)]at M;obtain⟨tv,Y,e0,e1,e2,e3,e4,e5,e6,e7,e8,e9,Z,D,a0⟩:=h.c j c' M;have y:=λo (ho:o<11)=>uV [I t,I r.wh,I r.ad,rv] cs (i*11+7) (j*11+o) gM;exact⟨tv,Y,(y 0 C).H e0,(y 1 C).H e1,(y 2 C).H e2,(y 3 C).H e3,(y 4 C).H e4,(y 5 C).H e5,(y 6 C).H e6,(y 7 C).H e7,(y 8 C).H e8,(y 9 C).H e9,(y 10 C).H Z,D.B k C,a0.B k C⟩
end
def Tryz.PL:(prog.info? 138).map (λi=>(i.zero,i.size,i.bytes))=some (some (.agg #[I 0,I 0,OO]),3,40):=rfl
section
variable{V:WV}
def Nd.JX{tg F L:Nat}{b c d:Int}(h:Nd w aY tg F L g a b c d N [])(k:jq P w aY w' bp)(M:¬P tg)(y:¬P F):Nd w' bp tg F L g a b c d N []:=by obtain⟨S,Y,gm,clk,Z,l,j⟩:=h;refine⟨S,Y.only k.only (λb _ e e'=>M (e'▸e)) k.aY,gm,clk,Z,l,?_⟩;have hl:l=[]:=aW.1 j.len;subst hl;exact⟨(k.heap j.hp j.tg y).1,(k.heap j.hp j.tg y).2,(k.heap j.mp j.tm y).1,(k.heap j.mp j.tm y).2,k.only.iJ j.gZ λb D e=>y ((j.tw b D)▸e),λb D=>(k.aY b (j.gZ.lt b D).2).H (j.tw b D),rfl,λi e z he=>lY he,aq,aq⟩
def xP.JX{p:Pl}(h:xP w aY n m v ce i gi iH mk p)(y:p.q=[])(k:jq P w aY w' bp)(D:¬P (10+3*i))(F:¬P (11+3*i)):xP w' bp n m v ce i gi iH mk p:=by obtain⟨N,H,j,L⟩:=h;refine⟨N,H,?_,L⟩;rw[y]at j|-;exact j.JX k D F
def jJ.VH(h:jJ w aY g W V){p:Pl}(H:W.pl[i]?=some p)(M:p.q=[])(k:jq P w aY w' bp)(S:∀t,P t->t=12+3*i):jJ w' bp g W V:=by
 have F:=h.a;have Y:=h.an;have Z:=h.ht;have hi:=(aj.1 H).1;have y:∀t,t≠12+3*i->¬P t:=λt F e=>F (S t e);refine⟨(k.heap h.hg h.tg (y 1 C)).1,(k.heap h.hg h.tg (y 1 C)).2,⟨h.J.row.B k (y _ C),λj Q D=>?_⟩,h.E.B k (y _ C) λt _ _=>y _ C,h.ca.B k (y _ C) (y _ C) λt _=>y _ C,h.po.B k (y _ C) (y _ C),h.ha.B k (y _ C),h.ms.B k (y _ C),F,Y,Z⟩;obtain⟨gj,mk,e1,L⟩:=h.J.pl j Q D;refine⟨gj,mk,e1,?_⟩;by_cases e:j=i
 .subst e;rw[H]at D;simp only[aJ]at D;subst D;exact L.JX M k (y _ C) (y _ C)
 exact L.B k (y _ C) (y _ C) (y _ C)
def jJ.NB(h:jJ w aY g W {V with lv:=dk la W.iq.length lc}){Wa W1 S:World}(hW:Bl w Wa)(Y:Bl Wa W1){cap:Nat}(x)(hd:Wa.ownsRow w.heap.size 5 1 (dk ga x.pk.bytes.length cap) x.pk.bytes.length (x.pk.bytes.map B8)){gg cp:Nat}(Z:S.ownsRow 0 138 3 (dk (G gg) (W.iq.length+1) cp) (W.iq.length+1) (V.ls++[I x.fr,I x.tt,dk ga x.pk.bytes.length cap]))(D:W1.grownBy S (dk la W.iq.length lc).ownBlock)(a4:(dk la W.iq.length lc).ownBlock=some gg\/Wa.heap.size<=gg):∃tag2,jq (λt=>t=1\/t=V.tp) w aY (S.setCell (U g 6) (dk (G gg) (W.iq.length+1) cp)) tag2/\jJ (S.setCell (U g 6) (dk (G gg) (W.iq.length+1) cp)) tag2 g {W with iq:=W.iq++[x]} {V with lv:=dk (G gg) (W.iq.length+1) cp,ls:=V.ls++[I x.fr,I x.tt,dk ga x.pk.bytes.length cap]}:=by
 have lw:=h.lt;have l1:=hW.lt;have l2:=Y.lt;have l3:=D.size;have tl:∀b,(dk la W.iq.length lc).ownBlock=some b->aY b=V.tp:=h.po.row.aY;have ll:=λb F=>(h.po.row.gZ.lt b F).2;have a0:=λb F=>hd.lt b F;have n1:=h.a;have n2:=h.an;have n3:V.tp=8\/V.tp=97:=h.ht;obtain⟨tag2,a1⟩:∃tag2:Nat->Nat,tag2=λb=>if b<w.heap.size then aY b else if(dk ga x.pk.bytes.length cap).ownBlock=some b then 98 else if b=gg then V.tp else 9:=⟨_,rfl⟩
 have M:∀b,b<w.heap.size->tag2 b=aY b:=λb F=>by rw[a1];simp[F]
 have a5:tag2 gg=V.tp:=by
  obtain e|e:=a4
  .rw[M gg (ll gg e)];exact tl gg e
  rw[a1];dsimp only;rw[az C,az λe'=>by have:=(a0 gg e').2;omega,aE rfl]
 have a2:∀b,(dk ga x.pk.bytes.length cap).ownBlock=some b->tag2 b=98:=λb F=>by rw[a1];dsimp only;rw[az (gI ((a0 b F).1)),aE F]
 have oQ:bz (λb=>aY b=1\/aY b=V.tp) w (S.setCell (U g 6) (dk (G gg) (W.iq.length+1) cp)):=((bz.E (hW.H Y)).H ((bz.B D).L λb _ e=>.inr (tl b e.symm))).setCell (U g 6) (.inl (.inl h.tg)) _;have k:jq (λt=>t=1\/t=V.tp) w aY (S.setCell (U g 6) (dk (G gg) (W.iq.length+1) cp)) tag2:=⟨oQ,M⟩;have a3:S.heap[g]?=some (gO (Ek W {V with lv:=dk la W.iq.length lc}).toArray 66 (0,0)):=by rw[D.block g C λe=>by have:=tl g e.symm;rw[h.tg]at this;omega,Y.heap C,hW.heap lw];exact h.hg
 refine⟨tag2,k,iU 6 _ S _ a3,(M g lw).H h.tg,h.J.B k C λi _ _=>C,h.E.B k C λi _ _=>C,h.ca.B k C C λi _=>C,⟨⟨?_,λb F=>?_⟩,λj y hy=>?_⟩,h.ha.B k C,h.ms.B k C,n1,n2,n3⟩
 .rw[aO];exact lD Z λb F=>Z8 _ _ _ _ λe=>gJ Z a3 au (j4 F e)
 .have e:gg=b:=by simpa [Value.ownBlock]using F
  rw[<-e];exact a5
 have hl:V.ls.length=W.iq.length*3:=h.po.row.gZ.1;by_cases hj:j<W.iq.length
 .rw[aB hj]at hy;obtain⟨e1,e2,dv,e3,e4⟩:=h.po.l j y hy;exact⟨by rw[aB C];exact e1,by rw[aB C];exact e2,dv,by rw[aB C];exact e3,e4.B k C⟩
 have a6:=(aj.1 hy).1;simp at a6;have a7:j=W.iq.length:=C;subst a7;rw[aC jc]at hy;simp at hy;subst hy;have a8:(S.setCell (U g 6) (dk (G gg) (W.iq.length+1) cp)).ownsRow w.heap.size 5 1 (dk ga x.pk.bytes.length cap) x.pk.bytes.length (x.pk.bytes.map B8):=by refine lD hd λb F=>?_;have a9:=a0 b F;rw[Z8 _ _ _ _ (show b≠g by omega),D.block b C λe=>by have:=ll b e.symm;omega,Y.heap a9.2]
 exact⟨by rw[aC C,hl];simp,by rw[aC C,hl];simp,_,by rw[aC C,hl];simp,Rd.pB a8 a2⟩
structure Jk(w:World)(aY:Nat->Nat)(ty:Nat)(la:Option Addr)(lc:Nat)(qs:List (Int×List Int))(xs:List Value)(j:Nat):Prop where
 row:mx w aY ty 179 2 (.slice la qs.length lc) qs.length xs
 f:∀i z,j<=i->qs[i]?=some z->xs[i*2]?=some (I z.1)/\∃u,xs[i*2+1]?=some u/\mx w aY ty 5 1 u z.2.length (z.2.map B8)
 ap:∀i j u v b,i<j->xs[2*i+1]?=some u->xs[2*j+1]?=some v->u.ownBlock=some b->v.ownBlock≠some b
def Jk.B{y j:Nat}{D:List (Int×List Int)}(h:Jk w aY y la lc D xs j)(k:jq P w aY w' bp)(F:¬P y):Jk w' bp y la lc D xs j:=
 ⟨h.row.B k F,λi z H L=>by
  obtain⟨M,u,S,Y⟩:=h.f i z H L
  exact⟨M,u,S,Y.B k F⟩,h.ap⟩
def Jk.Ro{M j:Nat}{S:List (Int×List Int)}(h:Jk w aY M la lc S xs j){D:Nat}(hu:xs[j*2+1]?=some u)(F:u.ownBlock=some D)(H:∃y,w.heap[D]?=some (gO y 5 (0,0)))(Y:bz (λb=>b=D) w w'):Jk w' aY M la lc S xs (j+1):=by obtain⟨y,H⟩:=H;refine⟨⟨Y.iJ h.row.gZ λb L e=>gJ h.row.gZ H au (j4 L e),h.row.aY⟩,λi z hi hz=>?_,h.ap⟩;obtain⟨e1,Z,e2,e3⟩:=h.f i z C hz;refine⟨e1,Z,e2,⟨Y.iJ e3.gZ λb L e=>?_,e3.aY⟩⟩;subst e;exact h.ap j i u Z b C (by rw[cN];exact hu) (by rw[cN];exact e2) F L
def wF.VT{j:List (Int×List Int)}(h:wF w (λb=>aY b=t) (dk la j.length lc) j xs):Jk w aY t la lc j xs 0:=
 ⟨⟨h.gZ,h.ob⟩,λi z _ y=>by
  obtain⟨D,a,c,F,H,L⟩:=h.f i z y
  exact⟨by rw[cN];exact D,_,by rw[cN];exact F,H,L⟩,h.ap⟩
def qX.VT{base:Nat}{j:List (Int×List Int)}(h:qX base w (dk la j.length lc) j xs)(D:∀b,base<=b->aY b=t):Jk w aY t la lc j xs 0:=
 ⟨⟨gL h.gZ λ_ _=>jd,λb y=>D b (h.gZ.lt b y).1⟩,λi z _ H=>by
  obtain⟨L,u,M,F⟩:=h.f i z H
  exact⟨by rw[cN];exact L,u,by rw[cN];exact M,gL F λ_ _=>jd,λb y=>D b (F.lt b y).1⟩,h.ap⟩
def jJ.PT{pb N pc:Nat}(h:jJ w aY g W V)(M:V.pv=dk (G pb) N pc)(Y:W.pl.length=N){mk':Nat}{p p':Pl}(Z:W.pl[i]?=some p)(D:Gs V.ps W.n W.m i gi mk p.up p.qk)(S:p'.up=p.up/\p'.qk=p.qk)(L:xP w aY W.n W.m W.v W.ce i gi W.iH mk' p'):jJ (w.setCell (U pb (i*5+2)) (I mk')) aY g {W with pl:=W.pl.set i p'} {V with ps:=V.ps.set (i*5+2) (I mk')}:=by
 subst Y;have hi:=(aj.1 Z).1;have y:=h.J.row;rw[M]at y;have k:jq (λs=>s=2) w aY (w.setCell (U pb (i*5+2)) (I mk')) aY:=ka (y.aY pb rfl) _ _;have hl:=y.gZ.1;have n1:=h.a;have n2:=h.an;have n3:=h.ht;refine⟨(k.heap h.hg h.tg C).1,(k.heap h.hg h.tg C).2,⟨by show mx _ _ _ _ _ V.pv _ _;rw[M,bK];exact⟨rC y.gZ _ _,y.aY⟩,λj q F=>?_⟩,h.E.B k C λt _ _=>C,h.ca.B k C C λi _=>C,h.po.B k C C,h.ha.B k C,h.ms.B k C,by rw[bK];exact n1,n2,n3⟩;have hj:=(aj.1 F).1;rw[bK]at hj;by_cases e:i=j
 .subst e;rw[aQ hi]at F;simp only[aJ]at F;subst F;refine⟨gi,mk',⟨?_,?_,?_,?_,?_⟩,L.B k C C C⟩
  .rw[aH C];exact D.1
  .rw[aH C];exact D.2.1
  .rw[aQ C]
  .rw[aH C,S.1];exact D.2.2.2.1
  rw[aH C,S.2];exact D.2.2.2.2
 rw[aH e]at F;obtain⟨gj,mj,H,nj⟩:=h.J.pl j q F;refine⟨gj,mj,⟨?_,?_,?_,?_,?_⟩,nj.B k C C C⟩
 .rw[aH C];exact H.1
 .rw[aH C];exact H.2.1
 .rw[aH C];exact H.2.2.1
 .rw[aH C];exact H.2.2.2.1
 rw[aH C];exact H.2.2.2.2
end
theorem Pn.Qs{H:Nat}{p:mJ}(h:N.ab H p):N.ab N.B.length p.jt:=by
 have y:∀{α:Type} (S:Nat->α) (n:Nat),((List.range (n+1)).drop n).map S=[S n]:=λS n=>by rw[dp];simp
 cases N with
 |unit ch rs S=>
  cases p with
  |voter s D=>exact h.elim
  |unit F s D=>obtain⟨L,M,j,Y⟩:=h;exact⟨L,jc,j,by show(((List.range (rs.length+1)).drop rs.length).map S).Sublist [s];rw[y,j];exact dy _⟩
 |voter rs S=>
  cases p with
  |unit F s D=>exact h.elim
  |voter s D=>obtain⟨M,j,Y⟩:=h;refine⟨jc,j,?_⟩;show(((List.range (rs.length+1)).drop rs.length).map λk=>VS.mk (S k) _).Sublist [s];simp_all
def CZ(rs)(k):off rs k<=(gY rs).length:=by
 unfold off gY
 conv=>rhs;rw[<-dK k rs,eZ,aO]
 omega
def Pn.om(N:Pn):N.iT=gY N.B:=by cases N<;>rfl
structure Sm(b:Bd):Prop where
 e:b.E<=100000000000000
 k:b.K<=100000000000000
 n:b.N<=10000000
 ba:b.B<=100000000000000
def Xk.OJ(h:Xk b X)(s:Sm b):mD X:=by have D:=h.n1;have F:=h.m1;have H:=h.v1;have L:=h.v2;have M:=h.c1;have y:=h.d;have S:=s.k;refine⟨?_,h.lay.1.H h.first.2.2.2.1,λch j=>⟨(h.ry j).2.1,(h.ry j).2.2.1⟩,y.1,C⟩;simp[mI];omega
def Xk.xn(h:Xk b X)(s:Sm b):XN X:=by have j:=h.e;have y:=h.t;have D:=s.e;exact⟨C,C⟩
def Xk.qs(h:Xk b X):zZ X:=by have y:=h.pr.nl;have D:=h.sl.nl;have F:=h.vt.nl;exact⟨C,C,C,λc j=>by have:=(h.a c j).q.nl;omega⟩
def Xk.us(h:Xk b X):zW X:=λch j u y=>by have D:=(h.ry j).2.2.2 u y;unfold r8 at D;have F:=tE h.n1.2 h.m1.2;omega
def Xk.JT(h:Xk b X)(s:Sm b):X.res.length<=10000000:=by have j:=h.f;have y:=s.n;omega
def Xk.Vd(h:Xk b X):∀c∈X.dd,JZ X c:=λc D=>by
 have j:=h.a c D;have:=j.q.nl;refine⟨j.kd,λF H L=>⟨j.ad.1,j.a1 H L ?_⟩,λe=>j.un e,C⟩;by_cases y:c.kind=1
 .left;intro e;have:=F y;simp[Cx.lV,y,Qn.J,e]at this
 omega
def Xk.V9(h:Xk b X)(s:Sm b):Dp X:=by have j:=h.me;have y:=h.t;have D:=h.d;have F:=s.e;have H:=s.k;have L:=h.JT s;exact⟨h.OJ s,h.us,C,C,C,C,h.pl,h.Vd⟩
def BQ{α:Type}{j:α->Prop}{q:Qn α}(h:QK R j iQ q):q.B.length<=q.nodes.length:=by
 have:=oY h.an (λx y=>by
  obtain⟨z,D,rfl⟩:=aD.1 y
  exact h.ai z D)
 simp_all
def Xk.We(h:Xk b X):yh X:=by have D:=BQ h.sl;have F:=h.sl.nl;refine⟨λz j=>?_,C⟩;have y:=h.sl.id _ (h.sl.ai z j);unfold r8 at y;have H:=tE h.n1.2 h.m1.2;omega
def Uu(s:Sm b)(h:∀z∈zz,CU b z.2)(y:zz.length<=100):Gl zz:=by
 have D:=s.ba;refine⟨λz j=>(h z j).a,λz j=>?_,λz j=>?_,y⟩
 .have:=(h z j).ba;exact qy C C
 have:=(h z j).pr;omega
def Xk.Uu(h:Xk b X)(s:Sm b):Gl X.mv.a.B:=by have j:=BQ h.vt;have y:=h.vt.nl;exact Go.Proofs.YtbghhbpacijmmaaGreat.Uu s h.vt.ak C
def Xk.Wg(h:Xk b X)(s:Sm b):J5 X:=by have j:=h.ba;have y:=s.ba;have D:=h.JT s;have F:=h.bl;exact⟨h.OJ s,h.us,h.We,h.Uu s,Go.Proofs.YtbghhbpacijmmaaGreat.Uu s h.bg C,C,h.id,C,h.pl⟩
def Xk.Wi(h:Xk b X)(s:Sm b)(y:X.mv.a.a.kd=7)(j:X.mv.a.B≠[]):NL X:=by have D:=h.ba;have F:=s.ba;have H:=h.sl.nl;exact⟨h.V9 s,h.We,C,h.Uu s,y,j,C,h.id⟩
def U3{α:Type}{j:α->Prop}{q:Qn α}(h:QK R j iQ q):xI q:=by have y:=h.k0;have D:=h.nl;exact⟨C,C,h.v0,C⟩
def Xk.Wz(h:Xk b X):Th X:=⟨U3 h.pr,U3 h.sl,U3 h.vt,λc j=>U3 (h.a c j).q⟩
def Xk.Ww(h:Xk b X)(s:Sm b){A:An}(S:Fh b A):SP X fr nr A:=by
 have h1:=S.ep;have h2:=s.e;refine⟨h.OJ s,h.xn s,h.qs,h.nk,C,λL=>?_,λc hc L=>?_⟩
 .exact(h.vE (M:={X.mv with b:=X.mv.b.add fr A}) h.me h.mb (h.sl.add L S) h.vt h.bg h.bl h.mv).Wg s
 have D:=h.a c hc;have V:=D.q.add L S;obtain⟨_,j,_⟩:=Qn.pW.1 L;have F:0<c.q.nodes.length:=cJ j;have hl:=BQ V;have hn:=D.q.nl;have a0:(c.q.add fr A).B.length<=c.q.nodes.length:=hl;refine⟨⟨F,by show c.q.nodes.length<=100;omega,by show(c.q.add fr A).B.length<=100;omega,?_⟩,λe=>⟨⟨D.ad.1,?_⟩,by have:=D.pl;show c.iA<1000;omega⟩⟩
 .by_cases iV:(c.q.add fr A).B.length<c.q.nodes.length
  .exact .inl iV
  obtain⟨y,ys,hy⟩:=bQ (bM j);have H:=Bv V.an (λx hx=>by
   obtain⟨z,Y,rfl⟩:=aD.1 hx
   exact V.ai z Y) (by rw[ay];show c.q.nodes.length<=_;omega) (show y∈c.q.nodes by rw[hy];exact aN ..)
  obtain⟨z,Y,Z⟩:=aD.1 H;refine .inr ⟨z,Y,?_⟩;show z.1=c.q.nodes.headD 0;rw[hy,Z];rfl
 obtain⟨g1,g2⟩:=D.c2 e;exact D.a1 C C (.inl (bM j))
def Sm.up(s:Sm b)(k:b.K+1<=100000000000000):Sm (b.up 1):=⟨s.e,k,s.n,s.ba⟩
def Xk.Wt(h:Xk b X)(s:Sm b)(M:b.K+1<=100000000000000){D:Int}{v:Vo}(F:CU b v)(S:0<=D/\D<=b.E+1):T0 X fr nr D v:=by
 have j:=h.iz S;have H:=s.up M;have V:=s.e;have Y:=h.vt.nl;have Z:=j.vt.nl;refine⟨h.OJ s,h.xn s,C,C,C,λy L=>?_,λy L=>?_,λy L=>?_⟩
 .refine(j.M (F.L (b.F au).toln) y).Wi H L ?_;show(X.iz D).mv.a.B++[_]≠[];simp
 .exact(j.M (F.L (b.F au).toln) y).Wg H
 exact⟨(j.M (F.L (b.F au).toln) y).V9 H,j.mv.2⟩
end Go.Proofs.YtbghhbpacijmmaaGreat
