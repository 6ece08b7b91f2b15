import Derived.Test.YtbghhbpacijmmaaGreatL10
open Go.Proofs.Tryz
namespace Go.Proofs.YtbghhbpacijmmaaGreat
set_option maxRecDepth 99999
set_option maxHeartbeats 0
set_option linter.defProp false
set_option linter.unusedVariables false
variable {a e u ch k e' fr nr E:Int} {i n m v ce:Nat} {b b':Bd} {t ie:Ct} {X X':Cx} {l:Le} {F:Int->St} {c c' c0 d:jz} {s:St} {W W':Wd} {q:List Qe} {r:Rq} {P:Pl} {Q l1 l2 v1:List Int} {p:Pk} {po:List Le}
def Cp(X:Cx):X.vP.Nodup/\X.vP.length=X.vo/\∀u∈X.vP,oj X.vo u:=by
 unfold Cx.vP;refine⟨?_,gG,λu j=>?_⟩
 .refine cj.2 (List.Pairwise.imp (λh=>?_) dU);omega
 obtain⟨i,y,rfl⟩:=aD.1 j;have:=di.1 y;unfold oj;omega
def Xk.vh(h:Xk b X){M:Mv}(j:0<=M.b/\M.b<=b.E+1)(y:0<=M.B/\M.B<=b.B)(A:QU b X.n X.m M.a)(H:QW b X.vo M.A)(L:∀z∈M.D,Bg b z.2)(T:M.D.length<=14)(mv:M.value.length<=255/\mR M.value):Xk b {X with mv:=M}:=
 ⟨h.n1,h.m1,h.v1,h.v2,h.c1,h.id,h.lay,h.e,h.t,j,h.ba,y,h.pJ,h.g,h.rv,h.pl,h.d,h.pr,A,H,L,T,mv,h.nk,⟨h.a.gU,h.a.lt,h.a.a,h.a.b⟩,h.f,h.oL,h.c⟩
def Xk.XW(h:Xk b X)(j:0<=e/\e<=b.E+1)(ch):Xk b {X with mv:={Mv.zero with b:=e,c:=ch}}:=
 h.vh j ⟨aA 0,by have:=h.ba;show(0:Int)<=b.B;omega⟩ QK.zero QK.zero (λz y=>by simp[Mv.zero]at y) ju ⟨ju,by simp[Mv.zero,mR]⟩
def Xk.Jy(h:Xk b X):Xk b {X with mv:=Mv.zero}:=h.XW ⟨gF,gS h.e⟩ false
def Xk.lH(h:Xk b X){kd pl:Int}{val:List Int}(A:kd=5\/kd=6\/kd=7)(H:0<=pl/\pl<=b.B)(y:val.length<=255/\mR val)(L:kd≠6->val=[]):Xk (b.up 1) (X.lH kd pl val):=by let⟨v1,V,M⟩:=Cp X;have T:=h.v1;have j:=h.T;refine j.vh j.me j.mb j.sl ⟨λ_=>⟨⟨⟨by show(0:Int)<=9;omega,by show(9:Int)<10;omega⟩,⟨by have:=h.pJ.1;show 0<=X.ib+1;omega,by have:=h.pJ.2;show X.ib+1<=b.K+1;omega⟩,h.me⟩,A,H,⟨rfl,rfl,rfl⟩,y.1,y.2,L⟩,by show X.vP.length<=14;omega,v1,M,by simp[Qn.new],by simp[Qn.new],by simp[Qn.new],by show 0<=kd/\kd<=7;omega,y.1⟩ j.bg j.bl j.mv
def Xk.jH(h:Xk b X):Xk (b.up 1) X.jH:=by have j:=h.e;have y:=h.t;exact(h.XW C _).lH (.inr (.inr rfl)) ⟨aA 0,gS h.ba⟩ ⟨ju,by simp[mR]⟩ λ_=>rfl
def K8(h:Xk b X){ln:Int}(j:0<=ln/\ln<10)(y:0<=e/\e<=b.E+1):QU (b.up 1) X.n X.m (Qn.new (jW X.lay) ⟨1,ln,X.ib+1,e,0,no⟩):=by obtain⟨A,M,H⟩:=h.all;exact⟨λ_=>⟨⟨j,⟨by have:=h.pJ.1;show 0<=X.ib+1;omega,by have:=h.pJ.2;show X.ib+1<=b.K+1;omega⟩,y⟩,.inl rfl,⟨aA 0,by show(0:Int)<=48;omega⟩,(J0 h).L (b.A gF).toln,λe=>absurd (show(1:Int)=2 from e) gF,λ_=>rfl⟩,by show(jW X.lay).length<=14;omega,A,H,by simp[Qn.new],by simp[Qn.new],by simp[Qn.new],by show(0:Int)<=1/\1<=7;omega,by simp[Qn.new,no]⟩
def Xk.jM(h:Xk b X):Xk (b.up 1) X.jM:=by have j:=h.T;have y:=h.e;exact⟨h.n1,h.m1,h.v1,h.v2,h.c1,h.id,h.lay,j.e,j.t,j.me,j.ba,j.mb,j.pJ,j.g,h.rv,h.pl,j.d,K8 h gF C,j.sl,j.vt,j.bg,h.bl,h.mv,h.nk,⟨h.a.gU,h.a.lt,h.a.a,h.a.b⟩,h.f,h.oL,h.c⟩
def Xk.OG(h:Xk b X)(j:0<=e/\e<=b.E+1):Xk b {X with e:=e}:=
 ⟨h.n1,h.m1,h.v1,h.v2,h.c1,h.id,h.lay,h.e,j,h.me,h.ba,h.mb,h.pJ,h.g,h.rv,h.pl,h.d,h.pr,h.sl,h.vt,h.bg,h.bl,h.mv,h.nk,⟨h.a.gU,h.a.lt,h.a.a,h.a.b⟩,h.f,h.oL,h.c⟩
def Xk.iW(h:Xk b X)(j:0<=e/\e<=b.E+1):Xk (b.up 1) (X.iW e):=by
 unfold Cx.iW;split
 .exact h.L (b.A gF)
 split
 .exact(h.OG j).jH
 exact(h.OG j).L (b.A gF)
def Xk.waits(h:Xk b X)(wb wl):Xk b {X with wb:=wb,wl:=wl}:=
 ⟨h.n1,h.m1,h.v1,h.v2,h.c1,h.id,h.lay,h.e,h.t,h.me,h.ba,h.mb,h.pJ,h.g,h.rv,h.pl,h.d,h.pr,h.sl,h.vt,h.bg,h.bl,h.mv,h.nk,⟨h.a.gU,h.a.lt,h.a.a,h.a.b⟩,h.f,h.oL,h.c⟩
def Xk.qT(h:Xk b X):Xk (b.up 1) X.qT:=by have j:=h.T;exact j.vh j.me j.mb (K8 h gF h.me) j.vt j.bg j.bl j.mv
def Bd.zr(b:Bd):Bd:={b with B:=b.B+200}
def Bd.DM(b:Bd):b.le b.zr:=⟨⟨iK,iK,iK,by show b.B<=b.B+200;omega⟩,Gh.le.refl _⟩
theorem xZ:∀(l:List (Int×Vo)) (m B:Int),0<=m->m<=B->(∀z∈l,z.2.pr<=B)->0<=l.foldl (λb z=>max b z.2.pr) m/\l.foldl (λb z=>max b z.2.pr) m<=B
 |[],m,B,j,y,_=>⟨j,y⟩
 |z::l,m,B,j,y,h=>xZ l (max m z.2.pr) B C (gS (h z (aN ..))) λz A=>h z (aX _ A)
def Xk.jv(h:Xk b X):0<=X.jv (kC X.mv.D)/\X.jv (kC X.mv.D)<=b.B+200:=by have j:=xZ X.mv.D 0 b.B iK (gS h.ba) λz y=>(h.bg z y).pr.2;change 0<=kC X.mv.D/\kC X.mv.D<=b.B at j;unfold Cx.jv;have:=h.ba;have:=h.id;omega
def Xk.lL(h:Xk b X):Xk (b.zr.up 1) X.lL:=by
 unfold Cx.lL;split
 .exact(h.L b.DM).L (Bd.A _ gF)
 have j:=h.L b.DM;have y:=h.jv;generalize X.jv _=A at*;have H:Xk b.zr {X with B:=A}:=⟨h.n1,h.m1,h.v1,h.v2,h.c1,h.id,h.lay,j.e,j.t,j.me,y,j.mb,j.pJ,j.g,h.rv,h.pl,j.d,j.pr,j.sl,j.vt,j.bg,j.bl,j.mv,h.nk,⟨h.a.gU,h.a.lt,h.a.a,h.a.b⟩,h.f,h.oL,h.c⟩;exact(H.vh (M:={X.mv with B:=A}) j.me y j.sl j.vt j.bg j.bl j.mv).lH (.inl rfl) y ⟨ju,by simp[mR]⟩ λ_=>rfl
def Xk.lj(h:Xk b X):Xk (b.zr.up 2) X.lj:=by
 have y:X.mv.A.B.length<=14:=by
  have j:=h.vt.an;have A:(X.mv.A.B.map (·.1)).length<=X.mv.A.nodes.length:=by refine oq j λx H=>?_;obtain⟨z,M,rfl⟩:=aD.1 H;exact h.vt.ai z M
  have:=h.vt.nl;simp at A;omega
 unfold Cx.lj;split
 .exact((h.waits true X.wl).L b.DM).L (Bd.A _ gF)
 have j:Xk b {X with wb:=true,mv:={X.mv with D:=X.mv.A.B}}:=(h.waits true X.wl).vh h.me h.mb h.sl h.vt h.vt.ak y h.mv;dsimp only;split
 .exact j.lL.L (Bd.QA gF)
 exact j.qT.lL.L ⟨⟨iK,by show b.K+1+1<=b.K+2;omega,iK,iK⟩,Gh.le.refl _⟩
def Xk.kE(h:Xk b X)(j:c0∈X.a)(y:c.gU=c0.gU):Xk b (X.kE c):=by
 unfold Cx.kE;split
 .split
  .exact h.fin j y (qL 6 gF) gF
  omega
 exact h.fin j y (qL 1 gF) gF
def QH(h:d∈X.a)(j:d.gU≠c'.gU):d∈(X.put c').a:=aD.2 ⟨d,h,by rw[az j]⟩
def PD{r:Rz}(h:d∈X.a)(j:d.gU≠c.gU):d∈(X.fin c r).a:=aU.2 ⟨h,iU j⟩
theorem Cj(h:d∈X.a)(j:d.gU≠c.gU):d∈(X.kP c).a:=by
 unfold Cx.kP Cx.kE Cx.dO Cx.kL Cx.qq Cx.pW Cx.tR;repeat' split
 all_goals first
  |exact PD h j
  |exact h
  |exact QH h j
def Xk.kP(h:Xk b X)(j:c∈X.a):Xk (b.up 1) (X.kP c):=by
 have y:=h.d c j;unfold Cx.kP;split
 .exact(h.kE j rfl).L (b.A gF)
 rename_i A;split
 .exact h.L (b.A gF)
 rename_i H;refine h.dO j rfl rfl y.torQ λM _=>y.a1 M A ?_;by_cases T:c.kind=1
 .left;intro e;apply H;simp[Cx.ml,T,Qn.T,e]
 omega
theorem Xk.T6:∀(l:List jz) {b:Bd} {X:Cx},Xk b X->(∀c∈l,c∈X.a)->l.Pairwise (λc d=>c.gU≠d.gU)->Xk (b.up l.length) (l.foldl Cx.kP X)
 |[],b,X,h,_,_=>h.L (b.A gG)
 |c::l,b,X,h,j,A=>by obtain⟨H,L⟩:=cI.1 A;have:=Xk.T6 l (h.kP (j c (aN ..))) (λd y=>Cj (j d (aX _ y)) (H d y).symm) L;exact this.L ⟨⟨iK,by show b.K+1+_<=b.K+_;simp;omega,iK,iK⟩,Gh.le.refl _⟩
def Bd.go(b:Bd):Bd:={b with E:=b.E+1}
def Bd.Pq(b:Bd):b.le b.go:=⟨⟨by show b.E<=b.E+1;omega,iK,iK,iK⟩,Gh.le.refl _⟩
def Xk.oK(h:Xk b X)(v):Xk (b.go.up 9) (X.oK v):=by
 unfold Cx.oK;split
 .exact(h.Jy.L b.Pq).L (Bd.A _ gF)
 rename_i l M;have y:=(h.Jy.waits false false).L b.Pq;have T:Xk b.go {X with b:=X.mv.b,lay:=l,mv:=Mv.zero,wb:=false,wl:=false}:=
  ⟨h.n1,h.m1,h.v1,h.v2,h.c1,h.id,(rE M).2.H h.lay,h.me,y.t,y.me,y.ba,y.mb,y.pJ,y.g,h.rv,h.pl,y.d,y.pr,y.sl,y.vt,y.bg,y.bl,y.mv,h.nk,⟨h.a.gU,h.a.lt,h.a.a,h.a.b⟩,h.f,h.oL,h.c⟩
 have Y:=h.pl;have A:=(Xk.T6 X.a T (λc V=>V) (h.a.gU.imp λe=>C)).L (Bd.QA (j:=8) C);dsimp only;split
 .exact A.jH.L ⟨⟨iK,by show b.K+8+1<=b.K+9;omega,iK,iK⟩,Gh.le.refl _⟩
 exact A.L (Bd.QA gF)
theorem yi:∀(l:List (Int×Vo)) (s:Int×List Int),l.foldl (λb z=>qA b z.2) s=s\/∃z∈l,l.foldl (λb z=>qA b z.2) s=(z.2.ba,z.2.val)
 |[],s=>.inl rfl
 |z::l,s=>by
  obtain e|⟨y,h,e⟩:=yi l (qA s z.2)
  .show l.foldl _ (qA s z.2)=s\/_;rw[dF,e];unfold qA;split
   .exact .inr ⟨z,aN ..,rfl⟩
   exact .inl rfl
  exact .inr ⟨y,aX _ h,by rw[dF];exact e⟩
def qH(l):jP l=(0,[])\/∃z∈l,jP l=(z.2.ba,z.2.val):=yi l _
def yn{l:List (Int×Vo)}(h:∀z∈l,Bg b z.2):(jP l).2.length<=255/\mR (jP l).2:=by
 obtain e|⟨z,j,e⟩:=qH l
 .rw[e];exact⟨ju,by simp[mR]⟩
 rw[e];exact⟨(h z j).vl,(h z j).a⟩
def sG(X:Cx)(l):(X.mW l).Sublist l:=cE
def Xk.kF(h:Xk b X){v:List Int}(j:X.kF=some v):v.length<=255/\mR v:=by
 unfold Cx.kF at j;split at j
 .simp at j;subst j;exact yn λz A=>h.bg z ((sG X _).subset A)
 obtain⟨R,H,rfl⟩:=bN.1 j;obtain⟨T,V,L⟩:=h.all;have y:=(Cx.xp H).1.all;have Y:=uP h.n1.2 h.m1.2;refine⟨gS y.length_le,λu M=>?_⟩;have:=L u (y.subset M);unfold nL at this;omega
theorem Xk.kT(h:Xk b X):Xk (b.up 1) X.kT:=by
 unfold Cx.kT;dsimp only;split
 .exact h.L (b.A gF)
 have y:∀z∈X.mW (nA X.mv.A.B),Bg b z.2:=λz A=>h.vt.ak z (List.filter_sublist.subset ((sG X _).subset A));have j:(if(jP (X.mW (nA X.mv.A.B))).1=0 then X.kF.getD []else(jP (X.mW (nA X.mv.A.B))).2).length<=255/\mR (if(jP (X.mW (nA X.mv.A.B))).1=0 then X.kF.getD []else(jP (X.mW (nA X.mv.A.B))).2):=by
  split
  .cases e:X.kF with
   |none=>exact⟨ju,by simp[mR]⟩
   |some v=>exact h.kF e
  exact yn y
 generalize (if(jP _).1=0 then X.kF.getD []else(jP _).2)=val at j|-;exact(h.vh (M:={X.mv with value:=val}) h.me h.mb h.sl h.vt h.bg h.bl j).lH (.inr (.inl rfl)) h.mb j λe=>absurd rfl e
def Xk.nC(h:Xk b X):Xk (b.go.up 9) X.nC:=by
 unfold Cx.nC;split
 .exact h.oK _
 exact(h.L b.Pq).L (Bd.A _ gF)
def Bd.ev(b:Bd):Bd:=⟨b.E+1,b.B+200,b.K+10,b.N,b.g⟩
def Bd.Up(b:Bd):b.le b.ev:=⟨⟨by show b.E<=b.E+1;omega,by show b.K<=b.K+10;omega,iK,by show b.B<=b.B+200;omega⟩,Gh.le.refl _⟩
def Bd.NK(b:Bd):(b.go.up 9).le b.ev:=⟨⟨iK,by show b.K+9<=b.K+10;omega,iK,by show b.B<=b.B+200;omega⟩,Gh.le.refl _⟩
def Bd.T3(b:Bd)(h:k<=10):(b.up k).le b.ev:=⟨⟨by show b.E<=b.E+1;omega,by show b.K+k<=b.K+10;omega,iK,by show b.B<=b.B+200;omega⟩,Gh.le.refl _⟩
def Bd.KE(b:Bd)(h:k<=10):(b.zr.up k).le b.ev:=⟨⟨by show b.E<=b.E+1;omega,by show b.K+k<=b.K+10;omega,iK,iK⟩,Gh.le.refl _⟩
def Xk.mM(h:Xk b X):Xk b.ev X.mM:=by
 unfold Cx.mM;dsimp only;split
 .exact(h.oK _).L b.NK
 split
 .exact h.L b.Up
 split
 .exact(h.oK _).L b.NK
 exact h.lj.L (b.KE gF)
def Xk.mD(h:Xk b X):Xk b.ev X.mD:=by
 unfold Cx.mD;split
 .exact h.lL.L (b.KE gF)
 split
 .exact h.kT.L (b.T3 gF)
 exact h.L b.Up
def Xk.M(h:Xk b X){v:Vo}(H:Bg b v)(L:X.mv.A.D nr fr=true):Xk b {X with mv:={X.mv with A:=X.mv.A.add fr v,D:=if X.mv.A.A.kd=7/\X.mv.D≠[]then X.mv.A.B++[(fr,v)]else X.mv.D}}:=by
 have j:=h.vt.add L H;have V:(X.mv.A.B++[(fr,v)]).length<=14:=by
  have y:((X.mv.A.add fr v).B.map _).length<=X.mv.A.nodes.length:=oq j.an λx M=>by obtain⟨z,T,rfl⟩:=aD.1 M;exact j.ai z T
  have:=h.vt.nl;rw[ay]at y;exact aF y this
 refine h.vh h.me h.mb h.sl j ?_ ?_ h.mv
 .dsimp only;split
  .exact j.ak
  exact h.bg
 dsimp only;split
 .omega
 exact h.bl
def Bd.D(b:Bd):Bd:=⟨b.E+1,b.B+200,b.K+20,b.N,b.g⟩
def Bd.Af(b:Bd):b.le b.D:=⟨⟨by show b.E<=b.E+1;omega,by show b.K<=b.K+20;omega,iK,by show b.B<=b.B+200;omega⟩,Gh.le.refl _⟩
def Bd.OH(b:Bd)(h:k<=10):((b.up k).ev).le b.D:=⟨⟨by show b.E+1<=b.E+1;omega,by show b.K+k+10<=b.K+20;omega,iK,iK⟩,Gh.le.refl _⟩
def Bd.yk(b:Bd)(h:k<=20):(b.up k).le b.D:=⟨⟨by show b.E<=b.E+1;omega,by show b.K+k<=b.K+20;omega,iK,by show b.B<=b.B+200;omega⟩,Gh.le.refl _⟩
def Xk.sg(h:Xk b X){y:Int}{v:Vo}(H:Bg b v)(M:0<=y/\y<=b.E+1):Xk b.D (X.sg fr nr y v):=by
 unfold Cx.sg;split
 .have A:=h.iW M;dsimp only;split
  .rename_i T;have j:=A.M (H.L (b.A gF).toln) T;split
   .exact j.mM.L (b.OH gF)
   split
   .exact(j.kT.L (Bd.T3 _ gF)).L (b.OH gF)
   split
   .exact(j.nC.L (Bd.NK _)).L (b.OH gF)
   exact j.L (b.yk gF)
  exact A.L (b.yk gF)
 exact h.L b.Af
def Xk.kI(h:Xk b X){A:An}(j:DC b A):Xk b.D (X.kI fr nr A):=by
 unfold Cx.kI;split
 .rename_i y;split
  .exact(h.iW j.ep).L (b.yk gF)
  exact Xk.L ⟨h.n1,h.m1,h.v1,h.v2,h.c1,h.id,h.lay,h.e,h.t,h.me,h.ba,h.mb,h.pJ,h.g,h.rv,h.pl,h.d,h.pr.add y j,h.sl,h.vt,h.bg,h.bl,h.mv,h.nk,⟨h.a.gU,h.a.lt,h.a.a,h.a.b⟩,h.f,h.oL,h.c⟩ b.Af
 split
 .rename_i y;split
  .exact(h.iW j.ep).L (b.yk gF)
  have H:=(h.vh (M:={X.mv with a:=X.mv.a.add fr A}) h.me h.mb (h.sl.add y j) h.vt h.bg h.bl h.mv).mD;exact H.L ⟨⟨iK,by show b.K+10<=b.K+20;omega,iK,iK⟩,Gh.le.refl _⟩
 split
 .exact h.L b.Af
 rename_i c T;split
 .exact(h.iW j.ep).L (b.yk gF)
 have V:=bu T;have y:c.q.D nr fr=true:=cR (p:=λc:jz=>c.q.D nr fr) T;have H:=h.Wr V y j;refine(H.rT (DY V rfl) j ?_).L (b.yk gF);obtain⟨_,Y,_⟩:=Qn.oO.1 y;intro e;change c.q.nodes=[]at e;rw[e]at Y;simp at Y
def Xk.nM(h:Xk b X):Xk b.D X.nM:=by
 have h1:Xk b {X with wl:=X.wb,e:=0,mv:=Mv.zero,a:=X.a.map λ(c:jz)=>{c with q:={c.q with qU:=true}}}:=by
  have L:=((h.OG (e:=0) ⟨gF,gS h.e⟩).Jy).waits X.wb X.wb;have V:∀c∈X.a.map (λ(c:jz)=>{c with q:={c.q with qU:=true}}),∃d∈X.a,c={d with q:={d.q with qU:=true}}:=λc A=>by obtain⟨d,j,rfl⟩:=aD.1 A;exact⟨d,j,rfl⟩
  refine⟨h.n1,h.m1,h.v1,h.v2,h.c1,h.id,h.lay,h.e,L.t,L.me,h.ba,L.mb,h.pJ,h.g,h.rv,by rw[ay];exact h.pl,λc A=>?_,h.pr,L.sl,L.vt,L.bg,L.bl,L.mv,λc A d j e1 e2 e3=>?_,⟨cj.2 h.a.gU,λc A=>?_,cj.2 h.a.a,λc A=>?_⟩,λk r hr=>(h.f k r hr).H ⟨λ⟨d,j,e⟩=>⟨_,aD.2 ⟨d,j,rfl⟩,e⟩,λ⟨d,j,e⟩=>by obtain⟨d',M,rfl⟩:=V d j;exact⟨d',M,e⟩⟩,h.oL,h.c⟩
  .obtain⟨d,j,rfl⟩:=V c A;have T:=h.d d j;have y:=T.torQ;exact⟨⟨y.kd,y.ad,y.un,y.ie,y.o1,y.jb,y.pl,y.e,y.ln,y.st⟩,T.a1,T.u0,T.c2,T.q.qU true,T.nr,T.e1⟩
  .obtain⟨c',a0,rfl⟩:=V c A;obtain⟨d',M,rfl⟩:=V d j;rw[h.nk c' a0 d' M e1 e2 e3]
  .obtain⟨d,j,rfl⟩:=V c A;exact h.a.lt d j
  obtain⟨d,j,rfl⟩:=V c A;exact h.a.b d j
 have h2:∀Y:Cx,Xk b Y->Xk (b.up 1) (if Y.jA.length<Y.a.length then Y.jM else Y):=λY hY=>by
  split
  .exact hY.jM
  exact hY.L (b.A gF)
 have h3:∀Z:Cx,Xk (b.up 1) Z->Xk b.D (if Z.jn then Z.jH else Z):=λZ hZ=>by
  split
  .exact hZ.jH.L ⟨⟨by show b.E<=b.E+1;omega,by show b.K+1+1<=b.K+20;omega,iK,by show b.B<=b.B+200;omega⟩,Gh.le.refl _⟩
  exact hZ.L (b.yk gF)
 exact h3 _ (h2 _ h1)
def Xk.mF(h:Xk b X):Xk b X.mF:=by
 have T:∀c∈X.mF.a,∃d∈X.a,c={d with q:=d.q.mF}:=λc A=>by obtain⟨d,j,rfl⟩:=aD.1 A;exact⟨d,j,rfl⟩
 refine⟨h.n1,h.m1,h.v1,h.v2,h.c1,h.id,h.lay,h.e,h.t,h.me,h.ba,h.mb,h.pJ,h.g,h.rv,by show(X.a.map _).length<=8;rw[ay];exact h.pl,λc A=>?_,h.pr.qU false,h.sl.qU false,h.vt.qU false,h.bg,h.bl,h.mv,λc A d j Z e2 e3=>?_,⟨cj.2 h.a.gU,λc A=>?_,cj.2 h.a.a,λc A=>?_⟩,λk r hr=>(h.f k r hr).H ⟨λ⟨d,j,e⟩=>⟨_,aD.2 ⟨d,j,rfl⟩,e⟩,λ⟨d,j,e⟩=>by obtain⟨V,L,rfl⟩:=T d j;exact⟨V,L,e⟩⟩,h.oL,h.c⟩
 .obtain⟨d,j,rfl⟩:=T c A;have M:=h.d d j;have y:=M.torQ;exact⟨⟨y.kd,y.ad,y.un,y.ie,y.o1,y.jb,y.pl,y.e,y.ln,y.st⟩,M.a1,M.u0,M.c2,M.q.qU false,M.nr,M.e1⟩
 .obtain⟨c',Y,rfl⟩:=T c A;obtain⟨V,L,rfl⟩:=T d j;rw[h.nk c' Y V L Z e2 e3]
 .obtain⟨d,j,rfl⟩:=T c A;exact h.a.lt d j
 obtain⟨d,j,rfl⟩:=T c A;exact h.a.b d j
theorem Xk.MV(_h:Xk b X)(L:X.a.length<8):X.mQ<8/\∀c∈X.a,c.a≠X.mQ:=by
 unfold Cx.mQ
 cases e:(List.range 8).find? _ with
 |some l=>simp_all
 |none=>
  have j:(List.map (λl:Nat=>(l:Int)) (List.range 8)).length<=(X.a.map λc=>(c.a:Int)).length:=oq gF λx y=>by obtain⟨l,A,rfl⟩:=aD.1 y;have:=(bU.1 e) l A;simp only[Bool.not_eq_true,Bool.not_eq_false',cK]at this;obtain⟨c,H,h⟩:=this;exact aD.2 ⟨c,H,by simp at h;rw[h]⟩
  simp at j;omega
def Xk.begin(h:Xk b X)(h8:X.a.length<8)(hn:c.gU=X.c.length)(hl:c.a=X.mQ)(hB:rQ {b with N:=b.N+1} X.n X.m X.ce c)(Y:c.kind=1\/c.kind=5\/c.ij<X.n*X.ce\/c.kind=4)(H:c.q=Qn.zero):Xk {b with N:=b.N+1} (X.je c):=by
 have Z:b.le {b with N:=b.N+1}:=⟨⟨iK,iK,by show b.N<=b.N+1;omega,iK⟩,Gh.le.refl _⟩;have A:=h.L Z;let⟨f1,f2⟩:=h.MV h8;have M:∀d∈(X.je c).a,d∈X.a\/d=c:=λd j=>by
  obtain e|e:=aT.1 j
  .exact .inl e
  simp at e;exact .inr e
 refine⟨h.n1,h.m1,h.v1,h.v2,h.c1,h.id,h.lay,A.e,A.t,A.me,A.ba,A.mb,A.pJ,?_,λr V=>?_,?_,λd j=>?_,A.pr,A.sl,A.vt,A.bg,h.bl,h.mv,λd j e L T h2 h3=>?_,⟨?_,λd j=>?_,?_,λd j=>?_⟩,λk r V=>?_,λk r V hw=>?_,h.c⟩
 .have:=h.g;show((X.c++[Rz.zero]).length:Int)<=b.N+1;simp;omega
 .obtain e|e:=aT.1 V
  .exact h.rv r e
  simp at e;subst e;exact qL 0 gF
 .show(X.a++[c]).length<=8;simp;omega
 .obtain e|e:=M d j
  .exact A.d d e
  subst e;refine⟨hB,λg4 g5 g=>?_,λ_=>by rw[H];rfl,λe=>by rw[H]at e;exact absurd (show(0:Int)=2 from e) gF,by rw[H];exact QK.zero,λe=>by rw[H]at e;exact absurd rfl e,λe=>by rw[H]at e;exact absurd (show(0:Int)=4 from e) gF⟩;obtain g|g:=g
  .rw[H]at g;exact absurd rfl g
  obtain k|k|k|k:=Y
  .exact absurd k g
  .exact absurd k g5
  .exact k
  exact absurd k g4
 .obtain g|g:=M d j<;>obtain g'|g':=M e L
  .exact h.nk d g e g' T h2 h3
  .subst g';rw[H]at h2;exact absurd rfl h2
  .subst g;rw[H]at T;exact absurd rfl T
  rw[g,g']
 .show(X.a++[c]).Pairwise _;refine cu.2 ⟨h.a.gU,gG,λd j e L=>?_⟩;simp at L;subst L;have:=h.a.lt d j;omega
 .show d.gU<(X.c++[Rz.zero]).length;obtain e|e:=M d j
  .have:=h.a.lt d e;simp;omega
  subst e;simp;omega
 .show(X.a++[c]).Pairwise _;refine cu.2 ⟨h.a.a,gG,λd j e L=>?_⟩;simp at L;subst L;rw[hl];exact f2 d j
 .obtain e|e:=M d j
  .exact h.a.b d e
  subst e;omega
 .have y:(X.c++[Rz.zero])[k]?=some r:=V;by_cases Y:k<X.c.length
  .rw[aB Y]at y;rw[h.f k r y];refine⟨λ⟨d,j,e⟩=>⟨d,dG _ j,e⟩,λ⟨d,j,e⟩=>?_⟩;obtain g|g:=M d j
   .exact⟨d,g,e⟩
   subst g;omega
  have a0:=(aj.1 y).1;simp at a0;have a1:k=X.c.length:=C;subst a1;rw[aC jl]at y;simp at y;subst y;exact⟨λ_=>⟨c,cM _ (cw.2 rfl),hn⟩,λ_=>rfl⟩
 have T:=h.oL k r V hw;show(X.c++[Rz.zero])[k]?=some r;rw[aB (aj.1 T).1];exact T
def Bd.nc(b:Bd):Bd:=⟨b.E+1,b.B+200,b.K+20,b.N+1,b.g⟩
def qD(X:Cx)(c):c∈(X.je c).a:=cM _ (cw.2 rfl)
def Ai(h:Xk b X)(j:0<=k/\k<=9){val:List Int}(y:val.length<=8)(A:mR val):IK {b with N:=b.N+1} ⟨k,X.id,X.c.length,val⟩:=by have:=h.id;have:=h.g;exact⟨j,⟨by show 0<=X.id;omega,by show X.id<=1099;omega⟩,⟨eG _,by show(X.c.length:Int)<=b.N+1;omega⟩,y,A⟩
def zS(h:Xk b X):IK {b with N:=b.N+1} no:=(J0 h).L ⟨iK,iK,by show b.N<=b.N+1;omega,iK⟩
def F8(b:Bd)(h:k<=20):(Bd.up {b with N:=b.N+1} k).le b.nc:=⟨⟨by show b.E<=b.E+1;omega,by show b.K+k<=b.K+20;omega,iK,by show b.B<=b.B+200;omega⟩,Gh.le.refl _⟩
def Xk.append(h:Xk b X)(j:X.a.length<8){val:List Int}(y:b.g.J X.c.length 1 ⟨8,X.id,X.c.length,val⟩ 0 0)(A:1<=val.length)(H:val.length<=8)(L:mR val):Xk b.nc (X.append val):=by have:=h.begin j (c:={X.iP 1 with ie:={(X.iP 1).ie with kd:=8,val:=val}}) rfl rfl ⟨.inl rfl,⟨aA 0,by show(0:Int)<=X.n*X.ce;exact_mod_cast ju⟩,λe=>absurd (show(1:Int)=5 from e) gF,Ai h gF H L,λ_=>by show sy 8 val.length=true;simp[sy];omega,zS h,ju,qL 0 gF,(h.MV j).1,y⟩ (.inl rfl) rfl;exact this.L ⟨⟨by show b.E<=b.E+1;omega,by show b.K<=b.K+20;omega,iK,by show b.B<=b.B+200;omega⟩,Gh.le.refl _⟩
def Xk.D2(h:Xk b X)(y:X.a.length<8)(H:b.g.J X.c.length 2 ⟨0,X.id,X.c.length,[]⟩ 0 a)(M:X.D a):Xk b.nc (X.D2 a):=by let⟨T,j⟩:=M;have A:rQ {b with N:=b.N+1} X.n X.m X.ce {X.iP 2 with ij:=a}:=⟨.inr (.inl rfl),⟨T,fZ j⟩,λe=>absurd (show(2:Int)=5 from e) gF,Ai h gF ju (by simp[mR]),λe=>by obtain e|e:=e<;>exact absurd (show(2:Int)=_ from e) gF,zS h,ju,qL 0 gF,(h.MV y).1,H⟩;exact((h.begin y rfl rfl A (.inr (.inr (.inl j))) rfl).dO (qD X _) rfl rfl A λ_ _=>j).L (F8 b gF)
def Xk.fill(h:Xk b X)(y:X.a.length<8)(H:b.g.J X.c.length 3 ⟨9,X.id,X.c.length,[]⟩ 0 a)(M:X.D a):Xk b.nc (X.fill a):=by let⟨T,j⟩:=M;have A:rQ {b with N:=b.N+1} X.n X.m X.ce {X.iP 3 with ij:=a,ie:={(X.iP 3).ie with kd:=9}}:=⟨.inr (.inr (.inl rfl)),⟨T,fZ j⟩,λe=>absurd (show(3:Int)=5 from e) gF,Ai h gF ju λd V=>by simp[Cx.iP]at V,λ_=>rfl,zS h,ju,qL 0 gF,(h.MV y).1,H⟩;exact((h.begin y rfl rfl A (.inr (.inr (.inl j))) rfl).dO (qD X _) rfl rfl A λ_ _=>j).L (F8 b gF)
def Xk.uU(h:Xk b X)(j:X.a.length<8)(A:b.g.J X.c.length 4 ⟨0,X.id,X.c.length,[]⟩ 0 a)(H:0<=a/\a<=X.n*X.ce):Xk b.nc (X.uU a):=by have y:rQ {b with N:=b.N+1} X.n X.m X.ce {X.iP 4 with ij:=a}:=⟨.inr (.inr (.inr (.inl rfl))),H,λe=>absurd (show(4:Int)=5 from e) gF,Ai h gF ju (by simp[mR]),λe=>by obtain e|e:=e<;>exact absurd (show(4:Int)=_ from e) gF,zS h,ju,qL 0 gF,(h.MV j).1,A⟩;exact((h.begin j rfl rfl y (.inr (.inr (.inr rfl))) rfl).dO (qD X _) rfl rfl y λe _=>absurd rfl e).L (F8 b gF)
def Xk.change(h:Xk b X)(j:X.a.length<8)(A:b.g.J X.c.length 5 ⟨0,X.id,X.c.length,[]⟩ u 0)(H:nL X.n X.m u):Xk b.nc (X.change u):=by
 have M:rQ {b with N:=b.N+1} X.n X.m X.ce {X.iP 5 with unit:=u}:=⟨.inr (.inr (.inr (.inr rfl))),⟨aA 0,by show(0:Int)<=X.n*X.ce;exact_mod_cast ju⟩,λ_=>H,Ai h gF ju (by simp[mR]),λe=>by obtain e|e:=e<;>exact absurd (show(5:Int)=_ from e) gF,zS h,ju,qL 0 gF,(h.MV j).1,A⟩;have y:=(h.begin j rfl rfl M (.inr (.inl rfl)) rfl).kE (c:={X.iP 5 with unit:=u}) (qD X _) rfl;unfold Cx.change;dsimp only;split
 .exact y.jH.L (F8 b gF)
 exact(y.L (Bd.A _ (k:=1) gF)).L (F8 b gF)
def Xk.ld(h:Xk b X){k:Nat}{t:Int}(V:∀c∈X.a,c.gU=k->b.g.J c.gU c.kind c.ie c.unit t):Xk b.D (X.ld k t):=by
 unfold Cx.ld;split
 .exact h.L b.Af
 rename_i c T;have y:=bu T;have A:=h.d c y;have j:=A.torQ;split
 .rename_i H;unfold Cx.pD at H;simp at H;have M:rQ b X.n X.m X.ce {c with ij:=t}:=⟨j.kd,⟨H.1,fZ H.2⟩,j.un,j.ie,j.o1,j.jb,j.pl,j.e,j.ln,V c y (by have:=cR T;simpa using this)⟩;exact((h.put y (c':={c with ij:=t}) rfl rfl ⟨M,λ_ _ _=>H.2,A.u0,A.c2,A.q,A.nr,A.e1⟩ λe d Y Z h2 h3=>Z (by rw[h.nk d Y c y h2 e h3])).dO (DY y rfl) rfl rfl M λ_ _=>H.2).L (b.yk gF)
 exact(h.fin y rfl (qL 7 gF) gF).L b.Af
def Xk.new{h:Nat}{id:Int}(A:1<=n/\n<=3)(H:1<=m/\m<=3)(v1:1<=h/\h<=5)(T:h%2=1)(c1:1<=ce/\ce<=16)(gP:1000<=id/\id<=1099)(j:0<=b.E/\0<=b.B/\0<=b.K/\0<=b.N)(L:b.g.R=[]/\(n=b.g.n/\m=b.g.m)/\h=b.g.v/\ce=b.g.c/\id=b.g.id):Xk b (Cx.new n m h ce id):=by
 have y:∀{α:Type} {R:Rq->Prop} {V:α->Prop} {Y:Int->Prop},QK R V Y _:=QK.zero;let⟨_,_,_,_,Z⟩:=tN n (BC A) m (BC H);refine⟨A,H,v1,T,c1,gP,⟨rfl,λi r ch h1 M=>?_⟩,⟨aA 0,j.1⟩,⟨aA 0,by show(0:Int)<=b.E+1;omega⟩,⟨aA 0,by show(0:Int)<=b.E+1;omega⟩,⟨aA 0,j.2.1⟩,⟨aA 0,j.2.1⟩,⟨aA 0,j.2.2.1⟩,j.2.2.2,by simp[Cx.new],by simp[Cx.new],by simp[Cx.new],y,y,y,by simp[Cx.new,Mv.zero],by simp[Cx.new,Mv.zero],⟨ju,by simp[Cx.new,Mv.zero,mR]⟩,by simp[PY,Cx.new],⟨by simp[Cx.new],by simp[Cx.new],by simp[Cx.new],by simp[Cx.new]⟩,by simp[Cx.new],nG L.1,L.2⟩;have e:r=ch:=by have:=h1.symm.H M;simp_all
 subst e;refine⟨dy _,λe=>?_⟩;have:=Z r (aR M);rw[e]at this;simp at this;omega
def Xk.base(h:Xk b X):Xk {b with g:=⟨X.c,X.n,X.m,X.vo,X.ce,X.id,b.g.J⟩} X:=
 ⟨h.n1,h.m1,h.v1,h.v2,h.c1,h.id,h.lay,h.e,h.t,h.me,h.ba,h.mb,h.pJ,h.g,h.rv,h.pl,λc j=>(h.d c j).L ⟨iK,iK,iK,iK⟩ (λ_ _ _ _ _ e=>e) iK,h.pr.L (λ_ e=>e.L ⟨iK,iK,iK,iK⟩) λ_ e=>e.L ⟨iK,iK,iK,iK⟩,h.sl.L (λ_ e=>e.L ⟨iK,iK,iK,iK⟩) λ_ e=>e.L ⟨iK,iK,iK,iK⟩,h.vt.L (λ_ e=>e.L ⟨iK,iK,iK,iK⟩) λ_ e=>e.L ⟨iK,iK,iK,iK⟩,λz y=>(h.bg z y).L ⟨iK,iK,iK,iK⟩,h.bl,h.mv,h.nk,h.a,h.f,λ_ _ e _=>e,⟨⟨rfl,rfl⟩,rfl,rfl,rfl⟩⟩
structure T2(b:Bd)(s:St):Prop where
 ep:0<=s.ep/\s.ep<=b.E+1
 NC:0<=s.mark/\s.mark<=48
 ct:∀i,IK b (s.ct i)
 c1:∀i,(s.ct i).kd≠0->sy (s.ct i).kd (s.ct i).val.length=true
structure Re(b:Bd)(s:VS):Prop where
 pr:∀e,0<=(s.E e).pr/\(s.E e).pr<=b.B
 ba:∀e,0<=(s.E e).ba/\(s.E e).ba<=b.B
 vl:∀e,(s.E e).val.length<=255
 a:∀e,mR (s.E e).val
 lt:0<=s.lt/\s.lt<=b.E+1
def T2.L(h:T2 b s)(k:b.ln b'):T2 b' s:=⟨⟨h.ep.1,by have:=h.ep.2;have:=k.e;omega⟩,h.NC,λi=>(h.ct i).L k,h.c1⟩
def Re.L{s:VS}(h:Re b s)(k:b.ln b'):Re b' s:=⟨λe=>⟨(h.pr e).1,bt (h.pr e).2 k.ba⟩,λe=>⟨(h.ba e).1,bt (h.ba e).2 k.ba⟩,h.vl,h.a,⟨h.lt.1,by have:=h.lt.2;have:=k.e;omega⟩⟩
def Xf(h:0<=b.N):IK b ⟨0,0,0,[]⟩:=⟨gF,gF,⟨gF,h⟩,gF,by simp[mR]⟩
def GB(h:0<=b.N){j y mk:Int}(A:0<=j/\j<=10)(H:j≠2)(L:0<=y/\y<=b.E+1)(M:0<=mk/\mk<=48):DC b (an j y mk):=⟨A,L,M,Xf h,λe=>absurd e H⟩
def K7(L:0<=b.E)(A:0<=b.N){b1 c d:Int}(h:T2 b s)(x):DC b (vr a b1 c d ch s x):=by
 unfold vr kr;have j:(0:Int)<=0/\0<=b.E+1:=⟨gF,C⟩;split
 .exact⟨gF,j,gF,Xf A,λe=>absurd (show(6:Int)=2 from e) gF⟩
 split
 .have y:=h.ct (oT a b1 c d x).2.1.toNat;exact⟨⟨by show(0:Int)<=4;omega,by show(4:Int)<=10;omega⟩,j,h.NC,⟨y.kd,y.cl,y.ca,ju,by simp[mR]⟩,λe=>absurd (show(4:Int)=2 from e) gF⟩
 split
 .exact⟨gF,j,gF,Xf A,λe=>absurd (show(3:Int)=2 from e) gF⟩
 rename_i H;exact⟨⟨by show(0:Int)<=2;omega,by show(2:Int)<=10;omega⟩,j,⟨aA 0,by show(0:Int)<=48;omega⟩,h.ct _,λ_=>h.c1 _ H⟩
def Tt(M:0<=b.E)(j:0<=b.N)(h:T2 b s)(y:PX b r):DC b (lK n m v ce ch s r).1/\T2 b (lK n m v ce ch s r).2:=by
 have A:T2 b ⟨r.ep,s.mark,s.ct⟩:=⟨y.ep,h.NC,h.ct,h.c1⟩;have H:DC b (an 5 s.ep 0):=GB j gF gF h.ep gF;unfold lK uT;split
 .unfold th;split
  .exact⟨H,h⟩
  exact⟨GB j gF gF y.ep gF,A⟩
 split
 .rename_i L;unfold rP;split
  .exact⟨H,h⟩
  split
  .exact⟨GB j gF gF ⟨gF,C⟩ gF,A⟩
  split
  .refine⟨GB j gF gF ⟨gF,C⟩ gF,⟨y.ep,h.NC,λi=>?_,λi=>?_⟩⟩
   .show IK b (if i=_ then _ else _);split
    .exact y.ct
    exact h.ct i
   show(if i=_ then _ else _:Ct).kd≠0->sy (if i=_ then _ else _:Ct).kd (if i=_ then _ else _:Ct).val.length=true;split
   .exact λ_=>y.c2 L
   exact h.c1 i
  exact⟨K7 M j h _,A⟩
 split
 .unfold s9;split
  .exact⟨H,h⟩
  exact⟨K7 M j h _,A⟩
 have T:0<=(if s.mark<r.pl then r.pl else s.mark)/\(if s.mark<r.pl then r.pl else s.mark)<=48:=by have:=h.NC;have:=y.pl;split<;>omega
 unfold tj;split
 .exact⟨H,h⟩
 exact⟨GB j gF gF ⟨gF,C⟩ T,⟨y.ep,T,h.ct,h.c1⟩⟩
def Re.vj{s:VS}(h:Re b s){j y:Int}{val:List Int}{l:Int}(H:0<=j/\j<=b.B)(L:0<=y/\y<=b.B)(M:val.length<=255)(T:mR val)(A:0<=l/\l<=b.E+1):Re b ⟨mS s.E e ⟨j,y,val⟩,l⟩:=by
 refine⟨λk=>?_,λk=>?_,λk=>?_,λk=>?_,A⟩<;>(simp only[mS];split)
 .omega
 .exact h.pr k
 .omega
 .exact h.ba k
 .omega
 .exact h.vl k
 .omega
 exact h.a k
def Tr{s:VS}(M:0<=b.B)(h:Re b s)(j:PA b r):Bg b (rj s r).1/\Re b (rj s r).2:=by
 have A:∀p:Prop,[Decidable p]->0<=(if p then max s.lt r.ep else s.lt)/\(if p then max s.lt r.ep else s.lt)<=b.E+1:=λp _=>by have:=h.lt;have:=j.ep;split<;>omega
 have H:∀l,(0<=l/\l<=b.E+1)->Re b ⟨s.E,l⟩:=λl A=>⟨h.pr,h.ba,h.vl,h.a,A⟩;have T:Bg b ⟨6,(s.E r.ep).pr,0,[]⟩:=⟨⟨by show(0:Int)<=6;omega,by show(6:Int)<=10;omega⟩,h.pr _,⟨aA 0,M⟩,ju,by simp[mR]⟩;have L:(0:Int)<=1/\(1:Int)<=10:=gF;unfold rj;dsimp only;refine⟨?_,?_⟩
 .unfold oD;split
  .split
   .exact T
   exact⟨L,j.pl,h.ba _,h.vl _,h.a _⟩
  split
  .split
   .exact T
   exact⟨L,j.pl,⟨aA 0,M⟩,ju,by simp[mR]⟩
  exact⟨L,h.pr _,h.ba _,h.vl _,h.a _⟩
 generalize Y:(if(oD s.E r.kd r.ep r.pl r.ct.val).1.wh=1/\r.kd≠7 then max s.lt r.ep else s.lt)=V;have y:0<=V/\V<=b.E+1:=by rw[<-Y];exact A _
 unfold oD;split
 .split
  .exact H _ y
  exact h.vj j.pl (h.ba _) (h.vl _) (h.a _) y
 split
 .split
  .exact H _ y
  exact h.vj j.pl j.pl j.vl j.a y
 exact H _ y
def UK(b:Bd):Pk->Prop
 | .rep nr A=>(0<=nr/\nr<=b.K)/\DC b A
 | .vot nr lt v=>(0<=nr/\nr<=b.K)/\(0<=lt/\lt<=b.E+1)/\Bg b v
 |_=>False
theorem UK.L(h:UK b p)(k:b.ln b'):UK b' p:=by
 have j:=k.e;have y:=k.k
 cases p with
 |rep nr A=>exact⟨⟨h.1.1,gS h.1.2⟩,h.2.L k⟩
 |vot nr H v=>exact⟨⟨h.1.1,gS h.1.2⟩,⟨h.2.1.1,gS h.2.1.2⟩,h.2.2.L k⟩
 |req r=>exact h
 |noi ds=>exact h
def Vv(x:Int):Prop:=∃i,i<8/\x=kg i
def uH(b:Bd)(n m v:Nat)(l:Le):Prop:=match l.pk with
 | .req r=>Vv l.fr/\((nL n m l.tt/\PX b r)\/(oj v l.tt/\PA b r))
 | .noi ds=>ds.length<4/\mR ds
 |p=>1000<=l.tt/\UK b p
theorem uH.L(h:uH b n m v l)(k:b.ln b'):uH b' n m v l:=by
 let⟨fr,tt,p⟩:=l
 cases p with
 |req r=>
  refine⟨h.1,?_⟩;obtain⟨j,y⟩|⟨j,y⟩:=h.2
  .exact .inl ⟨j,y.L k⟩
  exact .inr ⟨j,y.L k⟩
 |rep nr A=>exact⟨h.1,UK.L h.2 k⟩
 |vot nr H v=>exact⟨h.1,UK.L h.2 k⟩
 |noi ds=>exact h
structure T0(b:Bd)(e:Qe):Prop where
 cl:Vv e.cl
 ln:0<=e.ln/\e.ln<10
 pk:UK b e.pk
def Qe.key(e:Qe):Int:=10*((e.cl-1000)/7)+e.ln
structure Io(b:Bd)(q:List Qe):Prop where
 e:∀x∈q,T0 b x
 nd:(q.map Qe.key).Nodup
def T0.L{e:Qe}(h:T0 b e)(k:b.ln b'):T0 b' e:=⟨h.cl,h.ln,h.pk.L k⟩
def Io.L(h:Io b q)(k:b.ln b'):Io b' q:=⟨λx j=>(h.e x j).L k,h.nd⟩
def Io.nil:Io b []:=⟨gG,gG⟩
def Ll{e:Qe}(h:T0 b e):0<=e.key/\e.key<80:=by obtain⟨i,y,j⟩:=h.cl;have:=h.ln;unfold Qe.key;rw[j];unfold kg;omega
def Io.len(h:Io b q):q.length<=80:=by
 have:=oq (m:=(List.range 80).map λi:Nat=>i) h.nd λx j=>by obtain⟨e,y,rfl⟩:=aD.1 j;have:=Ll (h.e e y);exact aD.2 ⟨e.key.toNat,di.2 C,C⟩
 simp_all
def PW{x a:Qe}(h:T0 b x)(y:T0 b a):x.is a.cl a.ln=true↔x.key=a.key:=by obtain⟨i,L,A⟩:=h.cl;obtain⟨j,M,H⟩:=y.cl;have T:=h.ln;have V:=y.ln;unfold Qe.is Qe.key;simp;rw[A,H];unfold kg;omega
def Io.add(h:Io b q){a:Qe}(j:T0 b a):Io b (xL q a):=by
 unfold xL;split
 .rename_i L;refine⟨λx hx=>?_,?_⟩
  .obtain hx|hx:=aT.1 hx
   .exact h.e x hx
   simp at hx;subst hx;exact j
  rw[aZ,cX];refine⟨h.nd,gG,λx hx y A=>?_⟩;simp at A;subst A;obtain⟨e,H,rfl⟩:=aD.1 hx;intro M;exact bU.1 L e H ((PW (h.e e H) j).2 M)
 split
 .exact h
 have T:∀x∈q,(if x.is a.cl a.ln then a else x).key=x.key:=λx hx=>by
  split
  .rename_i e;exact((PW (h.e x hx) j).1 e).symm
  rfl
 refine⟨λx hx=>?_,?_⟩
 .obtain⟨y,A,rfl⟩:=aD.1 hx;split
  .exact j
  exact h.e y A
 rw[br];have:q.map (Qe.key∘λb=>if b.is a.cl a.ln then a else b)=q.map Qe.key:=bf λx hx=>T x hx;rw[this];exact h.nd
def J9(b:Bd)(n m v i:Nat):vC->Prop
 | .unit ch s h=>i<n*m/\ch=(i/m:Nat)/\s∈h/\∀x∈h,T2 b x
 | .voter s h=>n*m<=i/\i<n*m+v/\s∈h/\∀x∈h,Re b x
theorem J9.L{p:vC}(h:J9 b n m v i p)(k:b.ln b'):J9 b' n m v i p:=by
 cases p with
 |unit ch s l=>exact⟨h.1,h.2.1,h.2.2.1,λx j=>(h.2.2.2 x j).L k⟩
 |voter s l=>exact⟨h.1,h.2.1,h.2.2.1,λx j=>(h.2.2.2 x j).L k⟩
structure GG(b:Bd)(n m v i:Nat)(P:Pl):Prop where
 part:J9 b n m v i P.part
 q:Io b P.q
def GG.L(h:GG b n m v i P)(k:b.ln b'):GG b' n m v i P:=⟨h.part.L k,h.q.L k⟩
theorem GG.recv(h:GG b n m v i P)(hE:0<=b.E)(hB:0<=b.B)(hN:0<=b.N)(hm:n*m<=9)(hl:uH b n m v l)(V:jZ n m i=l.tt):GG b n m v i (P.recv n m v ce l.fr l.pk):=by
 let⟨fr,tt,p⟩:=l
 cases p with
 |req r=>
  let⟨Y,Z⟩:=hl;simp only at V Y Z;let⟨y,q,up,oB⟩:=P
  cases y with
  |unit ch s hs=>
   obtain⟨M,g2,g3,H⟩:=h.part;have gP:jZ n m i=i:=by unfold jZ;rw[aE M]
   obtain⟨L,j⟩|⟨L,j⟩:=Z
   .let⟨a1,T⟩:=Tt (n:=n) (m:=m) (v:=v) (ce:=ce) (ch:=ch) hE hN (H s g3) j;refine⟨⟨M,g2,cM _ (cw.2 rfl),λx hx=>?_⟩,h.q.add ⟨Y,j.ln,⟨j.nr,a1⟩⟩⟩;obtain hx|hx:=aT.1 hx
    .exact H x hx
    simp at hx;subst hx;exact T
   unfold oj at L;omega
  |voter s hs=>
   obtain⟨M,g2,g3,H⟩:=h.part;have gP:jZ n m i=100+i-(n*m:Nat):=by unfold jZ;rw[az C]
   obtain⟨L,j⟩|⟨L,j⟩:=Z
   .unfold nL at L;have:(n:Int)*m<=9:=by exact_mod_cast hm
    omega
   let⟨a1,T⟩:=Tr hB (H s g3) j;refine⟨⟨M,g2,cM _ (cw.2 rfl),λx hx=>?_⟩,h.q.add ⟨Y,j.ln,⟨j.nr,T.lt,a1⟩⟩⟩;obtain hx|hx:=aT.1 hx
   .exact H x hx
   simp at hx;subst hx;exact T
 |rep nr A=>exact h
 |vot nr lt v=>exact h
 |noi ds=>exact h
theorem GG.mF(h:GG b n m v i P):GG b n m v i P.mF:=by
 let⟨j,q,V,Y⟩:=P;refine⟨?_,Io.nil⟩
 cases j with
 |unit ch s T=>obtain⟨A,H,L,M⟩:=h.part;exact⟨A,H,cw.2 rfl,λx y=>by simp at y;subst y;exact M _ L⟩
 |voter s T=>obtain⟨A,H,L,M⟩:=h.part;exact⟨A,H,cw.2 rfl,λx y=>by simp at y;subst y;exact M _ L⟩
theorem GG.px{j:Nat}(h:GG b n m v i P)(H:j<P.part.hl):GG b n m v i (P.px j):=by
 let⟨y,q,up,oB⟩:=P;refine⟨?_,Io.nil⟩;have A:∀{α:Type} (l:List α) d,j<l.length->l.getD j d∈l.take (j+1):=λl d H=>by rw[aS,ah H,fM];exact⟨j,C,rfl⟩
 cases y with
 |unit ch s L=>obtain⟨M,T,Z,V⟩:=h.part;exact⟨M,T,A L _ H,λx Y=>V x (ed _ _|>.subset Y)⟩
 |voter s L=>obtain⟨M,T,Z,V⟩:=h.part;exact⟨M,T,A L _ H,λx Y=>V x (ed _ _|>.subset Y)⟩
def Wd.J(W:Wd)(i:Nat)(gU:Nat)(kind:Int)(ie:Ct)(unit ij:Int):Prop:=
 ∃c∈W.gK,c.a=i/\c.b=gU/\c.kind=kind/\ie=⟨if kind=1 then 8 else if kind=3 then 9 else 0,kg i,gU,c.value⟩/\(kind=1->ij=0\/ij∈c.c)/\(kind=2\/kind=3\/kind=4->ij=c.pos)/\(kind=5->unit=c.pos)
def Wd.A(W:Wd)(i:Nat):Bd:=⟨W.iN,200*W.iN,20*W.iN,W.gK.length,⟨[],W.n,W.m,W.v,W.ce,kg i,W.J i⟩⟩
structure U8(W:Wd)(i:Nat)(A:Ac):Prop where
 x:Xk (W.A i) A.X
 nm:(W.gK.filter λc=>c.a==i).map (·.b)=List.range A.X.c.length
structure VM(W:Wd)(c:Kl):Prop where
 ac:∃A,W.ac[c.a]?=some A/\c.b<A.X.c.length/\(A.up=true->c.fin≠0->A.X.c[c.b]?=some c.r)
 kd:c.kind=1\/c.kind=2\/c.kind=3\/c.kind=4\/c.kind=5
 po:0<=c.pos/\c.pos<=48
 vl:c.value.length<=8/\mR c.value
 tk:c.c.length<=W.iN
 bg:0<=c.d/\c.d<=W.a
 fi:0<=c.fin/\c.fin<=W.a
 r:Tn c.r
 fw:c.fin≠0->c.r.wh≠0
structure Wk(W:Wd):Prop where
 n1:1<=W.n/\W.n<=3
 m1:1<=W.m/\W.m<=3
 v1:1<=W.v/\W.v<=5
 v2:W.v%2=1
 c1:1<=W.ce/\W.ce<=16
 pl:W.pl.length=W.n*W.m+W.v
 pk:∀i P,W.pl[i]?=some P->GG (W.A 0) W.n W.m W.v i P
 a:W.ac.length<=8
 ac:∀i A,W.ac[i]?=some A->U8 W i A
 po:∀l∈W.iA,uH (W.A 0) W.n W.m W.v l
 b:W.iA.length<=200*W.iN
 nw:0<=W.a/\W.a<=4*W.iN
 cl:W.gK.length<=W.iN
 ca:∀c∈W.gK,VM W c
 hd:W.mw.length<=W.iN
 ms:W.jT.length<=2/\∀x∈W.jT,0<=x/\x<=31
def sW(W W':Wd)(i j)(h:W.iN<=W'.iN)(y:W.gK.length<=W'.gK.length):(W.A i).ln (W'.A j):=by have:(W.iN:Int)<=W'.iN:=C;exact⟨this,by show 20*(W.iN:Int)<=20*W'.iN;omega,by show(W.gK.length:Int)<=W'.gK.length;omega,by show 200*(W.iN:Int)<=200*W'.iN;omega⟩
def FP(W W':Wd)(i)(h:W.iN<=W'.iN)(j:W.gK.length<=W'.gK.length)(y:W'.n=W.n)(A:W'.m=W.m)(H:W'.v=W.v)(L:W'.ce=W.ce)(M:∀a b c d e,W.J i a b c d e->W'.J i a b c d e):(W.A i).le (W'.A i):=
 ⟨sW W W' i i h j,rfl,⟨⟨y,A⟩,H,L,rfl⟩,M⟩
def WS(W W':Wd)(i)(h:W.iN+1<=W'.iN)(M:W.gK.length<=W'.gK.length)(j:W'.n=W.n)(y:W'.m=W.m)(A:W'.v=W.v)(H:W'.ce=W.ce)(L:∀a b c d e,W.J i a b c d e->W'.J i a b c d e):(W.A i).D.le (W'.A i):=by have:(W.iN:Int)+1<=W'.iN:=C;exact⟨⟨this,by show 20*(W.iN:Int)+20<=20*W'.iN;omega,by show(W.gK.length:Int)<=W'.gK.length;omega,by show 200*(W.iN:Int)+200<=200*W'.iN;omega⟩,rfl,⟨⟨j,y⟩,A,H,rfl⟩,L⟩
def Xe(W:Wd)(i):0<=(W.A i).E/\0<=(W.A i).B/\0<=(W.A i).K/\0<=(W.A i).N:=⟨by show(0:Int)<=W.iN;omega,by show(0:Int)<=200*W.iN;omega,by show(0:Int)<=20*W.iN;omega,by show(0:Int)<=W.gK.length;omega⟩
def Xk.SN(h:Xk b X)(k:∀g:Gh,g.J=b.g.J->Xk {b with g:=g} X->Xk (Bd.D {b with g:=g}) X'):Xk b.D X'/\∀(k:Nat) (r:Rz),X.c[k]?=some r->r.wh≠0->X'.c[k]?=some r:=⟨k b.g rfl h,λi r j y=>(k ⟨X.c,X.n,X.m,X.vo,X.ce,X.id,b.g.J⟩ rfl h.base).oL i r j y⟩
def qc(t)(c:Kl)(a):(c.B t a).a=c.a/\(c.B t a).b=c.b/\(c.B t a).kind=c.kind/\(c.B t a).pos=c.pos/\(c.B t a).value=c.value/\(c.B t a).c=c.c/\(c.B t a).d=c.d:=by
 unfold Kl.B;repeat' split
 all_goals exact⟨rfl,rfl,rfl,rfl,rfl,rfl,rfl⟩
def RB(W:Wd)(i):∀a b c d e,W.J i a b c d e->W.js.J i a b c d e:=by rintro a b c d e⟨k,j,y,A,H,L,M,T,V⟩;obtain⟨Y,Z,s3,h,s5,s6,s7⟩:=qc _ k W.ac[k.a]?;exact⟨_,aD.2 ⟨k,j,rfl⟩,Y.H y,Z.H A,s3.H H,jk s5 L,jk s6 M,jk h T,jk h V⟩
def Wk.js(h:Wk W)(hn:W.a+1<=4*W.iN):Wk W.js:=by
 have Y:W.gK.length<=W.js.gK.length:=by show _<=(W.gK.map _).length;rw[ay];exact jl
 have hl:=sW W W.js 0 0 jl Y;have a5:=h.nw;have Z:∀i,(W.js.gK.filter λc=>c.a==i).map (·.b)=(W.gK.filter λc=>c.a==i).map (·.b):=λi=>by
  show((W.gK.map λc=>c.B (W.a+1) W.ac[c.a]?).filter λc=>c.a==i).map (·.b)=_;rw[dZ,br];have e1:((λc:Kl=>c.a==i)∘λc:Kl=>c.B (W.a+1) W.ac[c.a]?)=λc:Kl=>c.a==i:=by funext c;simp[(qc (W.a+1) c W.ac[c.a]?).1]
  rw[e1];exact bf λc _=>(qc (W.a+1) c W.ac[c.a]?).2.1
 refine⟨h.n1,h.m1,h.v1,h.v2,h.c1,h.pl,λi P hP=>(h.pk i P hP).L hl,h.a,λi A V=>⟨(h.ac i A V).x.L (FP W W.js i jl Y rfl rfl rfl rfl (RB W i)),(Z i).H (h.ac i A V).nm⟩,λl a0=>(h.po l a0).L hl,h.b,⟨by show 0<=W.a+1;omega,hn⟩,?_,λc hc=>?_,h.hd,h.ms⟩
 .show(W.gK.map _).length<=W.iN;rw[ay];exact h.cl
 obtain⟨d,hd,rfl⟩:=aD.1 hc;have M:=h.ca d hd;let⟨s1,s2,s3,s4,s5,s6,s7⟩:=qc (W.a+1) d W.ac[d.a]?;obtain⟨A,V,a1,a2⟩:=M.ac;have hx:=(h.ac _ A V).x;have T:((d.B (W.a+1) W.ac[d.a]?).fin=d.fin/\(d.B (W.a+1) W.ac[d.a]?).r=d.r)\/((d.B (W.a+1) W.ac[d.a]?).fin=W.a+1/\A.X.c[d.b]?=some (d.B (W.a+1) W.ac[d.a]?).r/\(d.B (W.a+1) W.ac[d.a]?).r.wh≠0):=by
  rw[V];unfold Kl.B;dsimp only;split
  .split
   .exact .inl ⟨rfl,rfl⟩
   split
   .rename_i hr hq;exact .inr ⟨rfl,hr,hq.2⟩
   exact .inl ⟨rfl,rfl⟩
  exact .inl ⟨rfl,rfl⟩
 have a3:=M.bg;have a4:=M.fi;refine⟨⟨A,jk s1 V,jk s2 a1,λhu hf=>?_⟩,by rw[s3];exact M.kd,by rw[s4];exact M.po,by rw[s5];exact M.vl,by rw[s6];exact M.tk,by rw[s7];exact⟨a3.1,by show d.d<=W.a+1;omega⟩,?_,?_,λhf=>?_⟩
 .rw[s2];obtain⟨y,j⟩|⟨y,j,k3⟩:=T
  .rw[j];exact a2 hu (jJ y hf)
  exact j
 .obtain⟨y,j⟩|⟨y,j,k3⟩:=T
  .rw[y];exact⟨a4.1,by show d.fin<=W.a+1;omega⟩
  rw[y];exact⟨C,iK⟩
 .obtain⟨y,j⟩|⟨y,j,k3⟩:=T
  .rw[j];exact M.r
  exact hx.rv _ (aR j)
 obtain⟨y,j⟩|⟨y,j,k3⟩:=T
 .rw[j];exact M.fw (jJ y hf)
 exact k3
structure wm(A A':Ac):Prop where
 up:A'.up=true->A.up=true
 len:A'.X.c.length=A.X.c.length
 oL:∀(k:Nat) (r:Rz),A.X.c[k]?=some r->r.wh≠0->A'.X.c[k]?=some r
def wm.refl(A):wm A A:=⟨λe=>e,rfl,λ_ _ e _=>e⟩
def VM.go{c:Kl}(h:VM W c)(hW:W.iN<=W'.iN)(hn:W.a<=W'.a)(y:∀(i:Nat) A,W.ac[i]?=some A->∃j,W'.ac[i]?=some j/\wm A j):VM W' c:=by obtain⟨A,Z,H,L⟩:=h.ac;obtain⟨j,M,g⟩:=y _ A Z;have T:=h.bg;have V:=h.fi;exact⟨⟨j,M,by rw[g.len];exact H,λhu Y=>g.oL _ _ (L (g.up hu) Y) (h.fw Y)⟩,h.kd,h.po,h.vl,gS h.tk,⟨T.1,C⟩,⟨V.1,C⟩,h.r,h.fw⟩
def Xk.Od(h:Xk b X)(k:∀g:Gh,g.J=b.g.J->Xk {b with g:=g} X->Xk (Bd.D {b with g:=g}) X')(j:X'.c.length=X.c.length)(up up')(y:up'=true->up=true):Xk b.D X'/\wm ⟨X,up⟩ ⟨X',up'⟩:=by let⟨A,H⟩:=h.SN k;exact⟨A,y,j,H⟩
def wB(X:Cx)(c)(r):(X.fin c r).c.length=X.c.length:=bK ..
def Gr(X:Cx)(c):(X.kW c).c.length=X.c.length:=by
 unfold Cx.kW;repeat' split
 all_goals first|rfl|exact wB ..
def PF(A):(X.rT c A).c.length=X.c.length:=by
 unfold Cx.rT Cx.oe Cx.ou Cx.kY Cx.kV;repeat' split
 all_goals first|rfl|exact wB .. |exact Gr ..
def O0:(X.kP c).c.length=X.c.length:=by
 unfold Cx.kP Cx.kE Cx.dO;repeat' split
 all_goals first|rfl|exact wB ..
theorem xA:∀(l:List jz) (X:Cx),(l.foldl Cx.kP X).c.length=X.c.length
 |[],_=>rfl
 |c::l,X=>(xA l (X.kP c)).H O0
def rU(X:Cx):X.jH.c=X.c:=rfl
def Cz(v):(X.oK v).c.length=X.c.length:=by
 unfold Cx.oK;split
 .rfl
 dsimp only;split
 .rw[rU];exact xA _ _
 exact xA _ _
def zh(e):(X.iW e).c=X.c:=by
 unfold Cx.iW;repeat' split
 all_goals rfl
def yr:X.lL.c=X.c:=by unfold Cx.lL;split<;>rfl
def Bb:X.lj.c=X.c:=by
 unfold Cx.lj;split
 .rfl
 dsimp only;rw[yr];split<;>rfl
def C8:X.mM.c.length=X.c.length:=by
 unfold Cx.mM;dsimp only;repeat' split
 all_goals first|rfl|exact Cz _|rw[Bb]
def wV:X.kT.c=X.c:=by unfold Cx.kT;dsimp only;split<;>rfl
def Jj:X.mD.c=X.c:=by
 unfold Cx.mD;repeat' split
 all_goals first|rfl|exact yr|exact wV
def LD(fr nr lt)(v):(X.sg fr nr lt v).c.length=X.c.length:=by
 have h:=zh (X:=X) lt;unfold Cx.sg Cx.nC;dsimp only;repeat' split
 all_goals first|rfl|(rw[h];done)|(rw[C8];rw[h])|(rw[wV];show(X.iW lt).c.length=_;rw[h])|(rw[Cz];show(X.iW lt).c.length=_;rw[h])|(show(X.iW lt).c.length=_;rw[h])
def Fq(fr nr)(A):(X.kI fr nr A).c.length=X.c.length:=by
 unfold Cx.kI;repeat' split
 all_goals first|rfl|(rw[zh])|(rw[Jj];done)|(rw[PF];rfl)
def OT(fr)(p):(X.recv fr p).c.length=X.c.length:=by
 unfold Cx.recv;split
 .exact Fq ..
 .exact LD ..
 rfl
def PN:X.nM.c=X.c:=by
 unfold Cx.nM;dsimp only;repeat' split
 all_goals rfl
def QO(k)(t):(X.ld k t).c.length=X.c.length:=by
 unfold Cx.ld Cx.dO;dsimp only;repeat' split
 all_goals first|rfl|exact wB ..
def Xk.recv(h:Xk b X)(H:∀nr A,p=.rep nr A->DC b A)(y:∀nr j v,p=.vot nr j v->(0<=j/\j<=b.E+1)/\Bg b v):Xk b.D (X.recv fr p):=by
 unfold Cx.recv;split
 .exact h.kI (H _ _ rfl)
 .exact h.sg (y _ _ _ rfl).2 (y _ _ _ rfl).1
 exact h.L b.Af
def pf{k:Nat}:(W.qS l k)[i]?=(W.pl[i]?).map λP=>if i<k/\jZ W.n W.m i=l.tt/\P.up=true then P.recv W.n W.m W.v W.ce l.fr l.pk else P:=gz
def oJ{k:Nat}:(W.sr l k)[i]?=(W.ac[i]?).map λA=>if i<k/\kg i=l.tt/\A.up=true then{A with X:=A.X.recv l.fr l.pk}else A:=gz
def uH.B(h:uH b n m v l)(b')(k:b.ln b'):(∀nr A,l.pk=.rep nr A->DC b' A)/\∀nr j u,l.pk=.vot nr j u->(0<=j/\j<=b'.E+1)/\Bg b' u:=by
 let⟨fr,tt,p⟩:=l;have:=k.e;refine⟨λnr A e=>?_,λnr j u e=>?_⟩
 .simp only at e;subst e;exact h.2.2.L k
 simp only at e;subst e;exact⟨⟨h.2.2.1.1,gS h.2.2.1.2⟩,h.2.2.2.L k⟩
def U8.recv{A:Ac}(h:U8 W i A)(j:uH (W.A 0) W.n W.m W.v l):Xk (W.A i).D (A.X.recv l.fr l.pk)/\wm A {A with X:=A.X.recv l.fr l.pk}:=by refine h.x.Od (λg _ y=>?_) (OT ..) A.up A.up λe=>e;obtain⟨H,L⟩:=j.B {W.A i with g:=g} ⟨iK,iK,iK,iK⟩;exact y.recv H L
def Wk.B(h:Wk W)(T:W'.n=W.n)(V:W'.m=W.m)(y:W'.v=W.v)(hc:W'.ce=W.ce)(ha:W.iN+1<=W'.iN)(a2:W'.pl.length=W.pl.length)(a3:∀(i:Nat) P,W'.pl[i]?=some P->GG (W.A 0) W.n W.m W.v i P)(a4:W'.ac.length=W.ac.length)(Y:∀(i:Nat) A,W.ac[i]?=some A->∃A',W'.ac[i]?=some A'/\(A'=A\/Xk (W.A i).D A'.X)/\wm A A')(a5:∀l∈W'.iA,uH (W.A 0) W.n W.m W.v l)(a6:W'.iA.length<=200*W'.iN)(Z:W.a<=W'.a/\W'.a<=W.a+1)(j:W'.gK=W.gK)(a7:W'.mw=W.mw)(a8:W'.jT=W.jT):Wk W':=by
 have H:W.gK.length<=W'.gK.length:=by rw[j];exact jl
 have a0:=sW W W' 0 0 C H;have aa:=h.nw;refine⟨by rw[T];exact h.n1,by rw[V];exact h.m1,by rw[y];exact h.v1,by rw[y];exact h.v2,by rw[hc];exact h.c1,by rw[a2,h.pl,T,V,y],λi P hP=>?_,by rw[a4];exact h.a,λi A' M=>?_,λl hl=>?_,a6,C,by rw[j];have:=h.cl;omega,λc a1=>?_,by rw[a7];have:=h.hd;omega,by rw[a8];exact h.ms⟩
 .rw[T,V,y];exact(a3 i P hP).L a0
 .have hi:=(aj.1 M).1;obtain⟨A,hA⟩:∃A,W.ac[i]?=some A:=⟨_,ah C⟩;let⟨A2,a9,hx,hg⟩:=Y i A hA;have e:A2=A':=by rw[a9]at M;simpa using M
  subst e;have hk:=h.ac i A hA;have hJ:∀a b c d e,W.J i a b c d e->W'.J i a b c d e:=λa b c d e=>by unfold Wd.J;rw[j];exact λe=>e
  refine⟨?_,by rw[j,hg.len];exact hk.nm⟩;obtain rfl|hx:=hx
  .exact hk.x.L (FP W W' i C H T V y hc hJ)
  exact hx.L (WS W W' i ha H T V y hc hJ)
 .rw[T,V,y];exact(a5 l hl).L a0
 rw[j]at a1;exact(h.ca c a1).go C Z.1 λi A hA=>by let⟨A',h1,_,h2⟩:=Y i A hA;exact⟨A',h1,h2⟩
def Wk.ox(h:Wk W)(y:uH (W.A 0) W.n W.m W.v l):Wk (W.ox l):=by
 let⟨b1,M,b3,T⟩:=Xe W 0;refine h.B rfl rfl rfl rfl jl (dJ ..) (λi P j=>?_) (dJ ..) (λi A H=>?_) h.po (by have:=h.b;show W.iA.length<=200*(W.iN+1);omega) ⟨by show W.a<=W.a+1;omega,iK⟩ rfl rfl rfl
 .change (W.qS l W.pl.length)[i]?=some P at j;rw[pf]at j;obtain⟨P0,L,rfl⟩:=bN.1 j;split
  .rename_i V;exact(h.pk i P0 L).recv b1 M T (uP h.n1.2 h.m1.2) y V.2.1
  exact h.pk i P0 L
 refine⟨_,by show(W.sr l W.ac.length)[i]?=_;rw[oJ,H];rfl,?_⟩;dsimp only;split
 .obtain⟨Y,Z⟩:=(h.ac i A H).recv y;exact⟨.inr Y,Z⟩
 exact⟨.inl rfl,wm.refl A⟩
def Wk.lS(h:Wk W)(j:uH (W.A 0) W.n W.m W.v l):Wk (W.lS l):=by
 unfold Wd.lS;split
 .exact h.B rfl rfl rfl rfl jl rfl h.pk rfl (λi A y=>⟨A,y,.inl rfl,wm.refl A⟩) h.po (by have:=h.b;show W.iA.length<=200*(W.iN+1);omega) ⟨by show W.a<=W.a+1;omega,iK⟩ rfl rfl rfl
 have:=h.nw;exact(h.ox j).js (by show W.a+1+1<=4*((W.iN+1):Int);omega)
def Wk.qi(h:Wk W){A:Ac}(H:W.ac[i]?=some A)(L:Xk (W.A i).D X'/\wm A {A with X:=X'}):Wk (W.qi i X'):=by
 refine h.B rfl rfl rfl rfl jl rfl h.pk (cy ..) (λj B y=>?_) h.po (by have:=h.b;show W.iA.length<=200*(W.iN+1);omega) ⟨iK,by show W.a<=W.a+1;omega⟩ rfl rfl rfl;refine⟨_,by show(W.ac.modify i _)[j]?=_;rw[bS,y];rfl,?_⟩;by_cases e:i=j
 .simp_all
 dsimp only;rw[az e];exact⟨.inl rfl,wm.refl _⟩
def U8.nM{A:Ac}(h:U8 W i A):Xk (W.A i).D A.X.nM/\wm A {A with X:=A.X.nM}:=h.x.Od (λ_ _ j=>j.nM) (by show A.X.nM.c.length=_;rw[PN]) A.up A.up λe=>e
def U8.ld{A:Ac}(h:U8 W i A)(k)(t)(j:∀c∈A.X.a,c.gU=k->W.J i c.gU c.kind c.ie c.unit t):Xk (W.A i).D (A.X.ld k t)/\wm A {A with X:=A.X.ld k t}:=h.x.Od (λg y H=>H.ld (by show∀c∈A.X.a,c.gU=k->g.J c.gU c.kind c.ie c.unit t;rw[y];exact j)) (QO ..) A.up A.up λe=>e
def Fv{α:Type}{q:Qn α}{z:Int×Rq}(h:z∈q.jL):z.1∈q.nodes/\z.2=q.A:=by
 unfold Qn.jL at h;split at h
 .obtain⟨u,j,rfl⟩:=aD.1 h;simp_all
 simp_all
def wD{α:Type}(q:Qn α):q.jL.length<=q.nodes.length:=by
 unfold Qn.jL;split
 .rw[ay];exact bF _ _
 simp
theorem Xk.jL(h:Xk b X):(∀z∈X.jL,(nL X.n X.m z.1/\PX b z.2)\/(oj X.vo z.1/\PA b z.2))/\X.jL.length<=160:=by
 have j:∀{q:Qn An},QU b X.n X.m q->∀z∈q.jL,(nL X.n X.m z.1/\PX b z.2)\/(oj X.vo z.1/\PA b z.2):=fun{q} L z hz=>by let⟨y,A⟩:=Fv hz;exact .inl ⟨L.id _ y,by rw[A];exact L.A (bM y)⟩
 refine⟨λz hz=>?_,?_⟩
 .unfold Cx.jL at hz;simp only[aT,eB]at hz;obtain ((⟨c,H,hz⟩|hz)|hz)|hz:=hz
  .exact j (h.d c H).q z hz
  .exact j h.pr z hz
  .exact j h.sl z hz
  let⟨y,A⟩:=Fv hz;exact .inr ⟨h.vt.id _ y,by rw[A];exact h.vt.A (bM y)⟩
 have y:∀l:List jz,(∀c∈l,QU b X.n X.m c.q)->(l.flatMap λc=>c.q.jL).length<=14*l.length:=λl=>by
  induction l with
  |nil=>simp
  |cons c l T=>intro M;have A:=T λd V=>M d (aX _ V);have Y:=wD c.q;have Z:=(M c (aN ..)).nl;rw[dP,aO,df];omega
 have A:=y X.a λc H=>(h.d c H).q;have Y:=h.pl;have Z:=wD X.d;have h5:=wD X.mv.a;have h6:=wD X.mv.A;have h7:=h.pr.nl;have h8:=h.sl.nl;have h9:=h.vt.nl;unfold Cx.jL;simp only[aO];omega
def Kh(h:Wk W){A:Ac}(j:W.ac[i]?=some A):Vv (kg i):=⟨i,by have:=(aj.1 j).1;have:=h.a;omega,rfl⟩
theorem Wk.kU(h:Wk W)(k):Wk (W.kU k):=by
 have a3:=h.b;unfold Wd.kU;split
 .split
  .exact h
  rename_i P hP;split
  .have M:=h.pk k P hP;have hq:=M.q.len;refine h.B rfl rfl rfl rfl jl (bK ..) (λi P' H=>?_) rfl (λi A L=>⟨A,L,.inl rfl,wm.refl A⟩) (λl hl=>?_) (by show(W.iA++_).length<=200*(W.iN+1);rw[aO,ay];omega) ⟨iK,by show W.a<=W.a+1;omega⟩ rfl rfl rfl
   .change (W.pl.set k P.mF)[i]?=some P' at H;by_cases e:k=i
    .subst e;rw[aQ (aj.1 hP).1]at H;simp only[aJ]at H;subst H;exact M.mF
    rw[aH e]at H;exact h.pk i P' H
   obtain hl|hl:=aT.1 hl
   .exact h.po l hl
   obtain⟨e,he,rfl⟩:=aD.1 hl;have T:=M.q.e e he;obtain⟨j,_,hj⟩:=T.cl;have V:1000<=e.cl:=by rw[hj];unfold kg;omega
   have y:=T.pk;show uH _ _ _ _ ⟨_,e.cl,e.pk⟩
   cases Z:e.pk with
   |req r=>rw[Z]at y;exact y.elim
   |noi ds=>rw[Z]at y;exact y.elim
   |rep nr A=>rw[Z]at y;exact⟨V,y⟩
   |vot nr lt v=>rw[Z]at y;exact⟨V,y⟩
  exact h
 split
 .exact h
 rename_i A L;split
 .have M:=h.ac _ A L;have hx:=M.x;let⟨o1,o2⟩:=hx.jL;obtain⟨⟨c1,c2⟩,c3,c4,c5⟩:=hx.c;refine h.B rfl rfl rfl rfl jl rfl h.pk (bK ..) (λj B hB=>?_) (λl hl=>?_) (by show(W.iA++_).length<=200*(W.iN+1);rw[aO,ay];omega) ⟨iK,by show W.a<=W.a+1;omega⟩ rfl rfl rfl
  .by_cases e:k-W.pl.length=j
   .subst e;rw[L]at hB;simp only[aJ]at hB;subst hB;exact⟨_,aQ (aj.1 L).1,.inr (hx.mF.L (Bd.Af _)),λe=>e,rfl,λ_ _ e _=>e⟩
   exact⟨B,by show(W.ac.set _ _)[j]?=_;rw[aH e];exact hB,.inl rfl,wm.refl B⟩
  obtain hl|hl:=aT.1 hl
  .exact h.po l hl
  obtain⟨z,hz,rfl⟩:=aD.1 hl;refine⟨Kh h L,?_⟩;have a0:A.X.n=W.n:=c1;have a1:A.X.m=W.m:=c2;have a2:A.X.vo=W.v:=c3;obtain⟨Y,g2⟩|⟨Y,g2⟩:=o1 z hz
  .rw[a0,a1]at Y;exact .inl ⟨Y,g2.L (sW W W _ 0 jl jl)⟩
  rw[a2]at Y;exact .inr ⟨Y,g2.L (sW W W _ 0 jl jl)⟩
 exact h
structure ph(W W':Wd):Prop where
 n:W'.n=W.n
 m:W'.m=W.m
 v:W'.v=W.v
 ce:W'.ce=W.ce
 pl:W'.pl.length=W.pl.length
 ac:W'.ac.length=W.ac.length
 ca:W'.gK.length=W.gK.length
 hd:W'.mw=W.mw
 ms:W'.jT=W.jT
 iN:W.iN<=W'.iN
 a:W.a<=W'.a
section
variable{W2:Wd}
def ph.refl(W):ph W W:=⟨rfl,rfl,rfl,rfl,rfl,rfl,rfl,rfl,rfl,jl,iK⟩
def ph.H(h:ph W W')(k:ph W' W2):ph W W2:=⟨k.n.H h.n,k.m.H h.m,k.v.H h.v,k.ce.H h.ce,k.pl.H h.pl,k.ac.H h.ac,k.ca.H h.ca,k.hd.H h.hd,k.ms.H h.ms,aF h.iN k.iN,bt h.a k.a⟩
theorem zG(W)(k):ph W (W.kU k)/\(W.kU k).iN<=W.iN+1/\(W.kU k).a=W.a:=by
 unfold Wd.kU;repeat' split
 all_goals first
  |exact⟨ph.refl W,oC,rfl⟩
  |exact⟨⟨rfl,rfl,rfl,rfl,gG,gG,rfl,rfl,rfl,oC,iK⟩,jl,rfl⟩
def AG(W):ph W W.js:=⟨rfl,rfl,rfl,rfl,rfl,rfl,ay ..,rfl,rfl,jl,by show W.a<=W.a+1;omega⟩
def I9(W)(l):ph W (W.ox l):=⟨rfl,rfl,rfl,rfl,dJ ..,dJ ..,rfl,rfl,rfl,oC,by show W.a<=W.a+1;omega⟩
def uK(W)(l):ph W (W.lS l)/\(W.lS l).iN=W.iN+1/\(W.lS l).iA=W.iA:=by
 unfold Wd.lS;split
 .exact⟨⟨rfl,rfl,rfl,rfl,rfl,rfl,rfl,rfl,rfl,oC,by show W.a<=W.a+1;omega⟩,rfl,rfl⟩
 exact⟨(I9 W l).H (AG _),rfl,rfl⟩
def ph.le(h:ph W W')(j:uH (W.A 0) W.n W.m W.v l):uH (W'.A 0) W'.n W'.m W'.v l:=by rw[h.n,h.m,h.v];exact j.L (sW W W' 0 0 h.iN (by rw[h.ca];exact jl))
def Wk.Pf(h:Wk W)(H:∀l∈po,uH (W.A 0) W.n W.m W.v l)(L:po.length<=200*W.iN):Wk {W with iA:=po}:=
 ⟨h.n1,h.m1,h.v1,h.v2,h.c1,h.pl,h.pk,h.a,λi A y=>⟨(h.ac i A y).x,(h.ac i A y).nm⟩,H,L,h.nw,h.cl,λc j=>⟨(h.ca c j).ac,(h.ca c j).kd,(h.ca c j).po,(h.ca c j).vl,(h.ca c j).tk,(h.ca c j).bg,(h.ca c j).fi,(h.ca c j).r,(h.ca c j).fw⟩,h.hd,h.ms⟩
def Wd.D(W:Wd)(k:Nat):Wd:=(List.range k).foldl Wd.kU {W with iA:=[]}
def pZ(W:Wd)(k):W.D (k+1)=(W.D k).kU k:=by unfold Wd.D;rw[dp,dN];rfl
theorem uA(h:Wk W):∀k,Wk (W.D k)/\ph W (W.D k)/\(W.D k).iN<=W.iN+k/\(W.D k).iA.length<=80*k+80*(k-W.pl.length)
 |0=>⟨h.Pf (po:=[]) gG gG,⟨rfl,rfl,rfl,rfl,rfl,rfl,rfl,rfl,rfl,jl,iK⟩,jl,by simp[Wd.D]⟩
 |k+1=>by
  let⟨y,H,h3,h4⟩:=uA h k;let⟨M,s2,_⟩:=zG (W.D k) k;have T:=H.pl;rw[pZ];refine⟨y.kU k,H.H M,C,?_⟩;have j:∀(V:Wd),Wk V->(V.kU k).iA.length<=V.iA.length+80+(if k<V.pl.length then 0 else 80):=λV L=>by
   unfold Wd.kU;split
   .split
    .omega
    rename_i P Y;split
    .have:=(L.pk k P Y).q.len;show(V.iA++_).length<=_;rw[aO,ay];omega
    omega
   split
   .omega
   rename_i A Z;split
   .have:=(L.ac _ A Z).x.jL.2;show(V.iA++_).length<=_;rw[aO,ay];omega
   omega
  have:=j _ y;split at this<;>omega
def Ka(W:Wd):W.jL=W.D (W.pl.length+W.ac.length):=rfl
def CW(h:Wk W):Wk W.jL/\ph W W.jL/\W.jL.iN<=W.iN+22/\W.jL.iA.length<=2400:=by obtain⟨j,y,A,H⟩:=uA h _;have:=h.a;have:=h.pl;have:=uP h.n1.2 h.m1.2;have:=h.v1;rw[Ka];exact⟨j,y,C,C⟩
def xE(h:Wk W):Wk ({W.jL with iA:=W.iA}:Wd)/\ph W ({W.jL with iA:=W.iA}:Wd)/\∀l∈W.jL.iA,uH (({W.jL with iA:=W.iA}:Wd).A 0) W.n W.m W.v l:=by
 let⟨H,j,M,T⟩:=CW h;have L:ph W ({W.jL with iA:=W.iA}:Wd):=⟨j.n,j.m,j.v,j.ce,j.pl,j.ac,j.ca,j.hd,j.ms,j.iN,j.a⟩;refine⟨H.Pf (λl y=>?_) (by have:=h.b;have:=j.iN;omega),L,λl y=>?_⟩
 .have:=j.le (h.po l y);omega
 have:=H.po l y;rwa[j.n,j.m,j.v]at this
theorem vV:∀(j:List Le) {W:Wd},Wk W->(∀l∈j,uH (W.A 0) W.n W.m W.v l)->Wk (W.mJ j)/\ph W (W.mJ j)/\(W.mJ j).iN=W.iN+j.length/\(W.mJ j).iA=W.iA
 |[],W,h,_=>⟨h,ph.refl W,rfl,rfl⟩
 |l::j,W,h,y=>by let⟨A,Z,H⟩:=uK W l;obtain⟨L,M,T,V⟩:=vV j (h.lS (y l (aN ..))) λx Y=>A.le (y x (aX _ Y));exact⟨L,A.H M,by show((W.lS l).mJ j).iN=_;rw[T];simp;omega,by show((W.lS l).mJ j).iA=_;rw[V,H]⟩
def uC(h:Wk W):Wk W.step/\ph W W.step/\W.step.iN<=W.iN+2422/\W.step.iA=W.iA/\W.jL.iN<=W.step.iN:=by
 let⟨y,j,A⟩:=xE h;let⟨V,Y,Z,o4⟩:=CW h;let⟨H,L,M,T⟩:=vV W.jL.iA y (by rw[j.n,j.m,j.v];exact A);refine⟨H,j.H L,?_,T,?_⟩
 .show(Wd.mJ _ _).iN<=_;rw[M];show W.jL.iN+_<=_;omega
 show _<=(Wd.mJ _ _).iN;simp_all
end
def kB(x)(h:0<n):iL x n<n:=by have:=lZ x n C;unfold iL;omega
def sf(h:Wk W)(i):Wk (W.kO i)/\ph W (W.kO i)/\(W.kO i).iN<=W.iN+1/\(W.kO i).iA=W.iA/\(W.kO i).a=W.a/\(W.kO i).gK=W.gK:=by
 unfold Wd.kO;split
 .exact⟨h,ph.refl W,oC,rfl,rfl,rfl⟩
 rename_i A j;split
 .exact⟨h.qi j (h.ac i A j).nM,⟨rfl,rfl,rfl,rfl,rfl,cy ..,rfl,rfl,rfl,oC,iK⟩,jl,rfl,rfl,rfl⟩
 exact⟨h,ph.refl W,oC,rfl,rfl,rfl⟩
def Wd.M(W:Wd)(k:Nat):Wd:=(List.range k).foldl Wd.kO W
def CP(h:Wk W){A:Ac}(hA:W.ac[i]?=some A)(hw:n∈A.X.jA)(t):Wk (W.oy i A n t):=by
 have hk:=h.ac i A hA;have V:∀c:Kl,(if c.a=i/\c.b=n then{c with c:=c.c++[t]}else c:Kl).a=c.a/\(if c.a=i/\c.b=n then{c with c:=c.c++[t]}else c:Kl).b=c.b:=λc=>by split<;>exact⟨rfl,rfl⟩
 let⟨Wn,T⟩:=gJ ((({W with iN:=W.iN+1}:Wd).Cg i n t):Wd);have y:Wn.gK=W.gK.map λc=>if c.a=i/\c.b=n then{c with c:=c.c++[t]}else c:=by rw[<-T];rfl
 have aa:Wn.gK.length=W.gK.length:=by rw[y,ay]
 have ab:Wn.iN=W.iN+1:=by rw[<-T];rfl
 have hJ:∀j a b c d e,W.J j a b c d e->Wn.J j a b c d e:=by
  rintro j a b c d e⟨k,hk,h1,h2,h3,h4,h5,h6,h7⟩;refine⟨_,by rw[y];exact aD.2 ⟨k,hk,rfl⟩,(V k).1.H h1,(V k).2.H h2,?_⟩;split
  .exact⟨h3,h4,λe=>(h5 e).imp (λe=>e) λe=>dG _ e,h6,h7⟩
  exact⟨h3,h4,h5,h6,h7⟩
 have Z:Wk Wn:=by
  have hn:=h.nw;have a0:=sW W Wn 0 0 C C;have en:Wn.n=W.n/\Wn.m=W.m/\Wn.v=W.v/\Wn.ce=W.ce/\Wn.pl=W.pl/\Wn.ac=W.ac/\Wn.iA=W.iA/\Wn.a=W.a/\Wn.mw=W.mw++[t]/\Wn.jT=W.jT:=by rw[<-T];exact⟨rfl,rfl,rfl,rfl,rfl,rfl,rfl,rfl,rfl,rfl⟩
  let⟨e1,e2,Y,e4,e5,e6,e7,e8,e9,a6⟩:=en;refine⟨by rw[e1];exact h.n1,by rw[e2];exact h.m1,by rw[Y];exact h.v1,by rw[Y];exact h.v2,by rw[e4];exact h.c1,by rw[e5,e1,e2,Y];exact h.pl,λj P hP=>?_,by rw[e6];exact h.a,λj B hB=>?_,λl hl=>?_,by rw[e7];have:=h.b;omega,pI e8,gS h.cl,λc hc=>?_,by rw[e9];have:=h.hd;simp;omega,by rw[a6];exact h.ms⟩
  .rw[e5]at hP;rw[e1,e2,Y];exact(h.pk j P hP).L a0
  .rw[e6]at hB;refine⟨(h.ac j B hB).x.L (FP W Wn j C C e1 e2 Y e4 (hJ j)),?_⟩;rw[y,dZ,br];have ef:((λc:Kl=>c.a==j)∘λc:Kl=>if c.a=i/\c.b=n then{c with c:=c.c++[t]}else c)=λc:Kl=>c.a==j:=by funext c;simp only[Function.comp];rw[(V c).1]
   rw[ef,<-(h.ac j B hB).nm];exact bf λc _=>(V c).2
  .rw[e7]at hl;rw[e1,e2,Y];exact(h.po l hl).L a0
  rw[y]at hc;obtain⟨d,hd,rfl⟩:=aD.1 hc;have M:=h.ca d hd;have a4:∀c:Kl,c.a=d.a->c.b=d.b->c.fin=d.fin->c.r=d.r->c.kind=d.kind->c.pos=d.pos->c.value=d.value->c.d=d.d->c.c.length<=d.c.length+1->VM Wn c:=λc q1 q2 q3 q4 q5 q6 q7 q8 q9=>by obtain⟨A',a1,a2,a3⟩:=M.ac;have:=M.tk;exact⟨⟨A',by rw[e6,q1];exact a1,jk q2 a2,λu f=>by rw[q2,q4];exact a3 u (jJ q3 f)⟩,by rw[q5];exact M.kd,by rw[q6];exact M.po,by rw[q7];exact M.vl,C,by rw[q8,e8];exact M.bg,by rw[q3,e8];exact M.fi,by rw[q4];exact M.r,λf=>by rw[q4];exact M.fw (jJ q3 f)⟩
  split
  .exact a4 _ rfl rfl rfl rfl rfl rfl rfl rfl gG
  exact a4 _ rfl rfl rfl rfl rfl rfl rfl rfl C
 have a5:Wn.ac[i]?=some A:=jJ T hA;show Wk (Wd.qi _ i (A.X.ld n t));rw[T];refine Z.qi a5 ((Z.ac i A a5).ld n t λc hc hn=>?_);obtain⟨k,a7,h1,h2,h3,h4,h5,h6,h7⟩:=((hk.x.d c hc).st:W.J i c.gU c.kind c.ie c.unit c.ij);refine⟨_,by rw[y];exact aD.2 ⟨k,a7,rfl⟩,(V k).1.H h1,(V k).2.H h2,?_⟩;rw[aE ⟨h1,h2.H hn⟩];let⟨c1,a8,a9⟩:=aD.1 hw;let⟨m1,m2⟩:=aU.1 a8;have e:c1=c:=hk.x.a.eq m1 hc (a9.H hn.symm);subst e;have k1:c1.kind=1:=by unfold Cx.ml at m2;simp only[bL,ZT]at m2;exact m2.1
 exact⟨h3,h4,λ_=>.inr (cM _ (cw.2 rfl)),λe=>by rw[k1]at e;obtain e|e|e:=e<;>exact absurd e gF,λe=>absurd (k1.symm.H e) gF⟩
def Np(W:Wd)(i n)(A)(t):(W.oy i A n t).n=W.n/\(W.oy i A n t).m=W.m/\(W.oy i A n t).v=W.v/\(W.oy i A n t).ce=W.ce/\(W.oy i A n t).pl=W.pl/\(W.oy i A n t).ac.length=W.ac.length/\(W.oy i A n t).gK.length=W.gK.length/\(W.oy i A n t).jT=W.jT/\(W.oy i A n t).iN=W.iN+2/\(W.oy i A n t).a=W.a/\(W.oy i A n t).iA=W.iA:=by unfold Wd.oy Wd.qi Wd.Cg;simp_all
def sK(W:Wd)(a which t):W.ld a which t=W\/∃A n,W.ac[iL a W.ac.length]?=some A/\A.up=true/\n∈A.X.jA/\W.ld a which t=(W.oy (iL a W.ac.length) A n t).js:=by
 unfold Wd.ld;split
 .simp
 rename_i A j;split
 .rename_i h;refine .inr ⟨A,_,j,h.1,?_,rfl⟩;have y:0<A.X.jA.length:=cU.2 h.2;rw[aS,ah (kB which y)];simp_all
 simp
def JK(h:Wk W)(a which t):Wk (W.ld a which t)/\(W.ld a which t).iN<=W.iN+2/\(W.ld a which t).gK.length=W.gK.length/\(W.ld a which t).jT=W.jT/\(W.ld a which t).ac.length=W.ac.length/\(W.ld a which t).iA=W.iA/\(W.ld a which t).pl=W.pl:=by
 obtain e|⟨A,n,L,h2,M,e⟩:=sK W a which t
 .simp_all
 rw[e];obtain⟨g1,g2,g3,g4,T,V,Y,Z,H,a0,j⟩:=Np W _ n A t;have hn:=h.nw;have y:=AG (W.oy (iL a W.ac.length) A n t);refine⟨(CP h L M t).js (pI H),by rw[show((W.oy _ A n t).js).iN=(W.oy (iL a W.ac.length) A n t).iN from rfl,H];omega,by rw[y.ca,Y],by rw[y.ms,Z],by rw[y.ac,V],j,T⟩
def Jn(X:Cx)(kind pos)(value):(X.nT kind pos value).c.length=X.c.length+1:=by
 have j:∀(Y:Cx) (c:jz),(Y.dO c).c=Y.c:=λY c=>by
  unfold Cx.dO;repeat' split
  all_goals rfl
 have h:∀(Y:Cx) (c:jz),(Y.kE c).c.length=Y.c.length:=λY c=>by
  unfold Cx.kE;repeat' split
  all_goals first|rfl|exact wB ..
 have y:∀c:jz,(X.je c).c.length=X.c.length+1:=λc=>by simp[Cx.je]
 unfold Cx.nT;split
 .exact y _
 split
 .show(Cx.dO _ _).c.length=_;rw[j];exact y _
 split
 .show(Cx.dO _ _).c.length=_;rw[j];exact y _
 split
 .show(Cx.dO _ _).c.length=_;rw[j];exact y _
 unfold Cx.change;dsimp only;split
 .rw[rU,h];exact y _
 rw[h];exact y _
def Xk.nT(h:Xk b X)(j:X.a.length<8){kind pos:Int}{value:List Int}(H:kind=1\/kind=2\/kind=3\/kind=4\/kind=5)(L:kind=1->1<=value.length/\value.length<=8/\mR value)(A:kind=2\/kind=3->X.D pos)(M:kind=4->0<=pos/\pos<=X.n*X.ce)(T:kind=5->nL X.n X.m pos)(y:b.g.J X.c.length kind ⟨if kind=1 then 8 else if kind=3 then 9 else 0,X.id,X.c.length,if kind=1 then value else []⟩ (if kind=5 then pos else 0) (if kind=1\/kind=5 then 0 else pos)):Xk b.nc (X.nT kind pos value):=by
 obtain rfl|rfl|rfl|rfl|rfl:=H
 .let⟨v1,V,Y⟩:=L rfl;exact h.append j (iU y) v1 V Y
 .exact h.D2 j (iU y) (A (.inl rfl))
 .exact h.fill j (iU y) (A (.inr rfl))
 .exact h.uU j (iU y) (M rfl)
 exact h.change j (iU y) (T rfl)
def vO(n):(j4 n).length=5/\mR (j4 n):=by refine⟨rfl,λd h=>?_⟩;unfold j4 at h;simp at h;omega
def sF(h:Wk W){A:Ac}(j:W.ac[i]?=some A):W.nQ i=A.X.c.length:=by have:=Z5 List.length (h.ac i A j).nm;simpa [Wd.nQ]using this
def zF(h:Wk W)(kind b)(H:kind=1\/kind=2\/kind=3\/kind=4\/kind=5):0<=W.j6 kind b/\W.j6 kind b<=48/\(kind=2\/kind=3->W.j6 kind b<W.n*W.ce)/\(kind=4->W.j6 kind b<=W.n*W.ce)/\(kind=5->W.j6 kind b<W.n*W.m):=by
 have j:=h.n1;have y:=h.m1;have A:=h.c1;have T:=Fm j.2 A.2;have V:=uP j.2 y.2;have L:0<W.n*W.ce:=dQ j.1 A.1;have M:0<W.n*W.m:=dQ j.1 y.1;have Y:=kB b (n:=W.lM) L;have Z:=kB b (n:=W.lM+1) (Nat.succ_pos _);have q3:=kB b (n:=W.n*W.m) M;have ht:W.lM=W.n*W.ce:=rfl;have c1:((W.n*W.ce:Nat):Int)=(W.n:Int)*W.ce:=gG;have c2:((W.n*W.m:Nat):Int)=(W.n:Int)*W.m:=gG;rw[<-c1,<-c2];obtain rfl|rfl|rfl|rfl|rfl:=H
 .exact⟨by simp[Wd.j6],by simp[Wd.j6],λe=>C,λe=>C,λe=>C⟩
 .have e:W.j6 2 b=iL b W.lM:=by simp[Wd.j6]
  rw[e];exact⟨C,C,λ_=>C,λ_=>C,λe=>C⟩
 .have e:W.j6 3 b=iL b W.lM:=by simp[Wd.j6]
  rw[e];exact⟨C,C,λ_=>C,λ_=>C,λe=>C⟩
 .have e:W.j6 4 b=iL b (W.lM+1):=by simp[Wd.j6]
  rw[e];exact⟨C,C,λe=>C,λ_=>C,λe=>C⟩
 have e:W.j6 5 b=iL b (W.n*W.m):=by simp[Wd.j6]
 rw[e];exact⟨C,C,λe=>C,λe=>C,λ_=>C⟩
def xM(h:Wk W){A:Ac}(hA:W.ac[i]?=some A)(h8:A.X.a.length<8)(kind b)(hk:kind=1\/kind=2\/kind=3\/kind=4\/kind=5):Wk (W.nF kind b i A):=by
 have hx:=h.ac i A hA;let⟨p1,p2,p3,p4,p5⟩:=zF h kind b hk;obtain⟨⟨c1,c2⟩,c3,c4,c5⟩:=hx.x.c;have a5:A.X.n=W.n:=c1;have ai:A.X.m=W.m:=c2;have a9:A.X.ce=W.ce:=c4;have ak:A.X.id=kg i:=c5;have a4:=sF h hA;let⟨K,hK⟩:=gJ ((⟨i,W.nQ i,kind,W.j6 kind b,W.mx kind,[],W.a,0,Rz.zero⟩:Kl):Kl);let⟨X',a6⟩:=gJ (A.X.nT kind (W.j6 kind b) (W.mx kind));let⟨W',a0⟩:=gJ (W.nF kind b i A);have y:W'.gK=W.gK++[K]:=by rw[<-a0,<-hK];rfl
 have a7:W'.ac=W.ac.modify i λB=>{B with X:=X'}:=by rw[<-a0,<-a6];rfl
 have en:W'.n=W.n/\W'.m=W.m/\W'.v=W.v/\W'.ce=W.ce/\W'.pl=W.pl/\W'.iA=W.iA/\W'.a=W.a/\W'.mw=W.mw/\W'.jT=W.jT/\W'.iN=W.iN+1:=by rw[<-a0];exact⟨rfl,rfl,rfl,rfl,rfl,rfl,rfl,rfl,rfl,rfl⟩
 let⟨e1,e2,e3,e4,e5,e6,e7,e8,e9,an⟩:=en;have am:W'.gK.length=W.gK.length+1:=nG y;have aa:∀j a b c d e,W.J j a b c d e->W'.J j a b c d e:=by rintro j a b c d e⟨k,hk,hh⟩;exact⟨k,by rw[y];exact dG _ hk,hh⟩
 have ab:kind=1->1<=(W.mx kind).length/\(W.mx kind).length<=8/\mR (W.mx kind):=λe=>by unfold Wd.mx;rw[aE e];have:=vO W.gK.length;exact⟨C,C,this.2⟩
 have Z:∀R:List Rz,(∀(k:Nat) (r:Rz),R[k]?=some r->r.wh≠0->A.X.c[k]?=some r)->Xk ⟨W.iN+1,200*W.iN+200,20*W.iN+20,W.gK.length+1,⟨R,W.n,W.m,W.v,W.ce,kg i,W'.J i⟩⟩ X':=λR hR=>by
  have h0:=hx.x;have hb:Xk ⟨W.iN,200*W.iN,20*W.iN,W.gK.length,⟨R,W.n,W.m,W.v,W.ce,kg i,W'.J i⟩⟩ A.X:=by have H:=h0.L (b':=⟨W.iN,200*W.iN,20*W.iN,W.gK.length,⟨[],W.n,W.m,W.v,W.ce,kg i,W'.J i⟩⟩) ⟨⟨iK,iK,iK,iK⟩,rfl,⟨⟨rfl,rfl⟩,rfl,rfl,rfl⟩,aa i⟩;exact⟨H.n1,H.m1,H.v1,H.v2,H.c1,H.id,H.lay,H.e,H.t,H.me,H.ba,H.mb,H.pJ,H.g,H.rv,H.pl,λc hc=>(H.d c hc).L ⟨iK,iK,iK,iK⟩ (λ_ _ _ _ _ e=>e) iK,H.pr.L (λ_ e=>e.L ⟨iK,iK,iK,iK⟩) λ_ e=>e.L ⟨iK,iK,iK,iK⟩,H.sl.L (λ_ e=>e.L ⟨iK,iK,iK,iK⟩) λ_ e=>e.L ⟨iK,iK,iK,iK⟩,H.vt.L (λ_ e=>e.L ⟨iK,iK,iK,iK⟩) λ_ e=>e.L ⟨iK,iK,iK,iK⟩,λz hz=>(H.bg z hz).L ⟨iK,iK,iK,iK⟩,H.bl,H.mv,H.nk,H.a,H.f,hR,H.c⟩
  have:=hb.nT h8 (kind:=kind) (pos:=W.j6 kind b) (value:=W.mx kind) hk ab (λe=>⟨p1,by rw[a5,a9];exact p3 e⟩) (λe=>⟨p1,by rw[a5,a9];exact p4 e⟩) (λe=>⟨p1,by rw[a5,ai];exact p5 e⟩) (by
   refine⟨K,by rw[y];exact cM _ (cw.2 rfl),?_⟩
   rw[<-hK]
   refine⟨rfl,a4,rfl,?_,λe=>?_,λe=>?_,λe=>?_⟩
   .rw[ak]
    congr 1
    show(if kind=1 then W.mx kind else [])=W.mx kind
    unfold Wd.mx
    split<;>rfl
   .exact .inl (by rw[aE (.inl e)])
   .rw[az C]
   .rw[aE e])
  rwa[a6]at this
 have hX:=Z [] gG;have al:=Z A.X.c λ_ _ e _=>e;have ac:X'.c.length=A.X.c.length+1:=by rw[<-a6];exact Jn ..
 have hn:=h.nw;have ad:=sW W W' 0 0 C C;have T:∀(j:Nat) B,W.ac[j]?=some B->W'.ac[j]?=some (if i=j then{B with X:=X'}else B):=λj B hB=>by rw[a7,bS,hB];rfl
 have ag:∀(B:Ac),W.ac[i]?=some B->B=A:=λB hB=>by rw[hA]at hB;simpa using hB.symm
 rw[a0];refine⟨by rw[e1];exact h.n1,by rw[e2];exact h.m1,by rw[e3];exact h.v1,by rw[e3];exact h.v2,by rw[e4];exact h.c1,by rw[e5,e1,e2,e3];exact h.pl,λj P hP=>?_,by rw[a7,cy];exact h.a,λj B hB=>?_,λl hl=>?_,by rw[e6];have:=h.b;omega,pI e7,gS h.cl,λc hc=>?_,by rw[e8];have:=h.hd;omega,by rw[e9];exact h.ms⟩
 .rw[e5]at hP;rw[e1,e2,e3];exact(h.pk j P hP).L ad
 .have hj:=(aj.1 hB).1;rw[a7,cy]at hj;let⟨B0,a8⟩:=mm hj;have Y:=T j B0 a8;rw[hB]at Y;simp only[aJ]at Y;have V:(W'.gK.filter λc=>c.a==j).map (·.b)=(W.gK.filter λc=>c.a==j).map (·.b)++(if i=j then [A.X.c.length]else []):=by
   rw[y,cz,aZ,<-hK];congr 1;by_cases e:i=j
   .simp[e,<-a4]
   simp[e]
  by_cases e:i=j
  .subst e;rw[aE rfl]at Y V;rw[Y];refine⟨hX.L ⟨⟨by show(W.iN:Int)+1<=W'.iN;omega,by show 20*(W.iN:Int)+20<=20*W'.iN;omega,by show(W.gK.length:Int)+1<=W'.gK.length;omega,by show 200*(W.iN:Int)+200<=200*W'.iN;omega⟩,rfl,⟨⟨e1,e2⟩,e3,e4,rfl⟩,λ_ _ _ _ _ e=>e⟩,?_⟩;rw[V,hx.nm];show _=List.range X'.c.length;rw[ac,dp]
  rw[az e]at Y V;rw[Y];exact⟨(h.ac j B0 a8).x.L (FP W W' j C C e1 e2 e3 e4 (aa j)),by rw[V,cF];exact(h.ac j B0 a8).nm⟩
 .rw[e6]at hl;rw[e1,e2,e3];exact(h.po l hl).L ad
 rw[y]at hc;obtain hc|hc:=aT.1 hc
 .have M:=h.ca c hc;obtain⟨A',a1,a2,a3⟩:=M.ac;have ap:=M.tk;refine⟨⟨_,T c.a A' a1,?_,λu f=>?_⟩,M.kd,M.po,M.vl,C,by rw[e7];exact M.bg,by rw[e7];exact M.fi,M.r,M.fw⟩
  .by_cases e:i=c.a
   .rw[aE e];rw[<-e]at a1;have:=ag A' a1;subst this;show c.b<X'.c.length;omega
   rw[az e];exact a2
  by_cases e:i=c.a
  .rw[aE e]at u|-;rw[<-e]at a1;have:=ag A' a1;subst this;exact al.oL _ _ (a3 u f) (M.fw f)
  rw[az e]at u|-;exact a3 u f
 simp only[cw]at hc;subst hc;rw[<-hK];refine⟨⟨_,T i A hA,?_,λ_ f=>absurd rfl f⟩,hk,⟨p1,p2⟩,?_,ju,⟨hn.1,by rw[e7];exact iK⟩,⟨aA 0,jk e7 hn.1⟩,qL 0 gF,λf=>absurd rfl f⟩
 .rw[aE rfl];show W.nQ i<X'.c.length;omega
 show(W.mx kind).length<=8/\mR (W.mx kind);unfold Wd.mx;split
 .have:=vO W.gK.length;exact⟨C,this.2⟩
 exact⟨ju,by simp[mR]⟩
structure rb(n:Nat)(ch:Int)(s s':St):Prop where
 ep:s.ep<=s'.ep
 b:s.mark<=s'.mark
 ct:∀i,(s.ct i).kd≠0->s'.ct i=s.ct i
 dd:∀i:Nat,(s.ct i).kd=0->(i:Int)*n+ch<s.mark->(s'.ct i).kd=0
def rb.refl(n)(ch)(s):rb n ch s s:=⟨iK,iK,λ_ _=>rfl,λ_ h _=>h⟩
def rb.H{y s2:St}(h:rb n ch s y)(k:rb n ch y s2):rb n ch s s2:=
 ⟨bt h.ep k.ep,bt h.b k.b,λi j=>by rw[k.ct i (by rw[h.ct i j];exact j),h.ct i j],λi H A=>k.dd i (h.dd i H A) (eH A h.b)⟩
def cell(n:Nat)(a:Int):Nat:=(a/n).toNat
structure KN(n ce:Nat)(ch a:Int):Prop where
 n1:1<=n
 a0:0<=a
 a1:a<n*ce
 ch:a%n=ch
def KN.eq(h:KN n ce ch a):(cell n a:Int)*n+ch=a:=by have j:0<=a/n:=fC h.a0 C;have e:_=a/n:=gE j;unfold cell;rw[e,<-h.ch,Int.mul_comm];have:=Int.mul_ediv_add_emod a n;omega
def EZ{mk:Int}{ct:Nat->Ct}(j:nB n m v ce=true)(h:KN n ce ch a):kr n m v ce ch mk ct a=if a<mk then(4,mk,{ct (cell n a)with val:=[]})else if(ct (cell n a)).kd=0 then(3,0,⟨0,0,0,[]⟩)else(2,0,ct (cell n a)):=by
 have y:oT n m v ce a=(a%n,a/n,0):=by unfold oT;rw[aE j,az (by have:=h.a0;have:=h.a1;omega)]
 unfold kr;rw[y,az (by simp[h.ch])];rfl
def Rp(T:nB n m v ce=true):rb n ch s (lK n m v ce ch s r).2:=by
 have H:∀e,¬e<s.ep->rb n ch s ⟨e,s.mark,s.ct⟩:=λe L=>⟨by show s.ep<=e;omega,iK,λ_ _=>rfl,λ_ h _=>h⟩;unfold lK uT;split
 .unfold th;split
  .exact rb.refl ..
  exact H _ (by assumption)
 split
 .unfold rP;split
  .exact rb.refl ..
  rename_i L;split
  .exact H _ L
  split
  .rename_i j;have y:(oT n m v ce r.pl).2.2=0/\(oT n m v ce r.pl).1=ch/\¬r.pl<s.mark/\(s.ct (Us n m v ce r.pl)).kd=0:=by
    unfold kr at j;split at j
    .exact absurd j gF
    rename_i V;split at j
    .exact absurd (show(4:Int)=3 from j) gF
    split at j
    .rename_i Z h6;exact⟨bk λe=>V (.inl e),bk λe=>V (.inr e),Z,h6⟩
    exact absurd (show(2:Int)=3 from j) gF
   let⟨l1,l2,l3,l4⟩:=y;refine⟨by show s.ep<=r.ep;omega,iK,λi M=>?_,λi M hm=>?_⟩
   .show(if i=_ then _ else _)=_;rw[az (λe=>M (jk e l4))]
   show(if i=_ then _ else _:Ct).kd=0;split
   .rename_i e;exfalso;apply l3;have A:=T;simp[nB]at A;unfold oT at l1 l2;unfold Us oT at e;rw[aE T]at l1 l2 e;by_cases Y:r.pl<0\/(n:Int)*ce<=r.pl
    .rw[aE Y]at l1;exact absurd l1 gF
    rw[az Y]at l2 e;have ha:KN n ce ch r.pl:=⟨C,C,C,l2⟩;have:=ha.eq;have e2:i=cell n r.pl:=e;rw[e2]at hm;omega
   exact M
  exact H _ L
 split
 .unfold s9;split
  .exact rb.refl ..
  exact H _ (by assumption)
 unfold tj;split
 .exact rb.refl ..
 rename_i L;refine⟨by show s.ep<=r.ep;omega,?_,λ_ _=>rfl,λ_ h _=>h⟩;show s.mark<=if s.mark<r.pl then r.pl else s.mark
 split<;>omega
structure Ym(s:St)(r:Rq)(s1:St):Prop where
 le:s.ep<=r.ep
 ep:s1.ep=r.ep
def U1(h:(lK n m v ce ch s r).1.wh=5):(lK n m v ce ch s r).1.ep=s.ep/\(lK n m v ce ch s r).2=s:=by
 have y:∀x,(vr n m v ce ch s x).wh≠5:=λx=>by
  unfold vr kr;dsimp only;repeat' split
  all_goals(dsimp only;omega)
 unfold lK uT at h|-;split at h<;>rename_i A
 .rw[aE A];unfold th at h|-;split at h<;>rename_i j
  .rw[aE j];exact⟨rfl,rfl⟩
  exact absurd (show(1:Int)=5 from h) gF
 rw[az A];split at h<;>rename_i H
 .rw[aE H];unfold rP at h|-;split at h<;>rename_i j
  .rw[aE j];exact⟨rfl,rfl⟩
  split at h
  .exact absurd (show(6:Int)=5 from h) gF
  split at h
  .exact absurd (show(1:Int)=5 from h) gF
  exact absurd h (y _)
 rw[az H];split at h<;>rename_i L
 .rw[aE L];unfold s9 at h|-;split at h<;>rename_i j
  .rw[aE j];exact⟨rfl,rfl⟩
  exact absurd h (y _)
 rw[az L];unfold tj at h|-;split at h<;>rename_i j
 .rw[aE j];exact⟨rfl,rfl⟩
 exact absurd (show(1:Int)=5 from h) gF
inductive J6(n:Nat)(s:St)(a:Int)(A:An):Prop
 |kV (h:A.wh=4) (hm:a<s.mark) (hk:A.mark=s.mark) (hc:A.ct={s.ct (cell n a)with val:=[]})
 |none (h:A.wh=3) (hm:s.mark<=a) (hk:(s.ct (cell n a)).kd=0)
 |some (h:A.wh=2) (hm:s.mark<=a) (hk:(s.ct (cell n a)).kd≠0) (hc:A.ct=s.ct (cell n a))
def zq(A:nB n m v ce=true)(h:KN n ce ch a):J6 n s a (vr n m v ce ch s a):=by
 unfold vr;rw[EZ A h];by_cases y:a<s.mark
 .rw[aE y];exact .kV rfl y rfl rfl
 rw[az y];by_cases j:(s.ct (cell n a)).kd=0
 .rw[aE j];exact .none rfl C j
 rw[az j];exact .some rfl C j rfl
def Ou(y:nB n m v ce=true)(A:r.kd=3)(h:KN n ce ch r.pl)(j:(lK n m v ce ch s r).1.wh≠5):s.ep<=r.ep/\(lK n m v ce ch s r).2=⟨r.ep,s.mark,s.ct⟩/\J6 n s r.pl (lK n m v ce ch s r).1:=by
 have e:lK n m v ce ch s r=s9 n m v ce ch s r.ep r.pl:=by unfold lK uT;rw[A];rfl
 rw[e]at j|-;unfold s9 at j|-;split at j<;>rename_i k
 .contradiction
 rw[az k];exact⟨C,rfl,zq y h⟩
def BN(L:nB n m v ce=true)(M:r.kd=2)(h:KN n ce ch r.pl)(T:sy r.ct.kd r.ct.val.length=true)(H:(lK n m v ce ch s r).1.wh≠5):s.ep<=r.ep/\(((lK n m v ce ch s r).1.wh=1/\s.mark<=r.pl/\(s.ct (cell n r.pl)).kd=0/\(lK n m v ce ch s r).2=⟨r.ep,s.mark,λj=>if j=cell n r.pl then r.ct else s.ct j⟩)\/((lK n m v ce ch s r).2=⟨r.ep,s.mark,s.ct⟩/\J6 n s r.pl (lK n m v ce ch s r).1/\(lK n m v ce ch s r).1.wh≠3)):=by
 have e:lK n m v ce ch s r=rP n m v ce ch s r.ep r.pl r.ct.kd r.ct.cl r.ct.ca r.ct.val:=by unfold lK uT;rw[M];rfl
 have V:=EZ (mk:=s.mark) (ct:=s.ct) L h;have A:Us n m v ce r.pl=cell n r.pl:=by unfold Us oT cell;rw[aE L,az (by have:=h.a0;have:=h.a1;omega)]
 rw[e]at H|-;unfold rP at H|-;split at H<;>rename_i k
 .exact absurd rfl H
 rw[az k,az (mG T)];refine⟨C,?_⟩;by_cases y:(kr n m v ce ch s.mark s.ct r.pl).1=3
 .rw[aE y];rw[V]at y;have Y:¬r.pl<s.mark:=λq=>by rw[aE q]at y;exact absurd (show(4:Int)=3 from y) gF
  rw[az Y]at y;have Z:(s.ct (cell n r.pl)).kd=0:=bk λq=>by rw[az q]at y;exact absurd (show(2:Int)=3 from y) gF
  refine .inl ⟨rfl,C,Z,?_⟩;rw[A]
 rw[az y];refine .inr ⟨rfl,zq L h,y⟩
def EU(j:r.kd=4)(h:(lK n m v ce ch s r).1.wh≠5):s.ep<=r.ep/\(lK n m v ce ch s r).2=⟨r.ep,if s.mark<r.pl then r.pl else s.mark,s.ct⟩/\(lK n m v ce ch s r).1.wh=1:=by
 have e:lK n m v ce ch s r=tj s r.ep r.pl:=by unfold lK uT;rw[j];rfl
 rw[e]at h|-;unfold tj at h|-;split at h<;>rename_i k
 .contradiction
 rw[az k];exact⟨C,rfl,rfl⟩
structure Cf where
 n:Nat
 m:Nat
 v:Nat
 ce:Nat
 ok:nB n m v ce=true
def Cf.A(S:Cf):(1<=S.n/\S.n<=3)/\(1<=S.m/\S.m<=3)/\(1<=S.v/\S.v<=5)/\(1<=S.ce/\S.ce<=16):=by have:=S.ok;simp[nB]at this;omega
def Cf.nP(S:Cf):Nat:=S.v/2+1
structure Kn where
 a:List (List (List Int))
 D:Int->St
 c:Int->VS
 d:Int->Int->Int->Prop
 b:Int->Int->List Int->Prop
 cb:Nat->Int
 cq:Nat->List Int
 P0:Ct->Int->Int->Prop
 e:Int->Prop
 Fu:Ct->Prop
namespace Kn
variable(S:Cf)(K:Kn)
def lay(e:Int):List (List Int):=K.a.getD e.toNat []
def C(e a:Int):List Int:=(K.lay e).getD (a%S.n).toNat []
def In(e:Int):Prop:=0<=e/\e<K.a.length
def tA(u a:Int)(t:Ct):Prop:=(K.D u).ct (cell S.n a)=t
def I0(u a:Int):Prop:=((K.D u).ct (cell S.n a)).kd=0/\a<(K.D u).mark
def jU(F:Int->St):Kn:={K with D:=F}
end Kn
structure yj(s s':Ep):Prop where
 pr:s.pr<=s'.pr
 ba:(s'.ba=s.ba/\s'.val=s.val)\/s.pr<=s'.ba
def yj.refl(s):yj s s:=⟨iK,.inl ⟨rfl,rfl⟩⟩
def yj.H{s j s2:Ep}(h:yj s j)(k:yj j s2):yj s s2:=by
 refine⟨bt h.pr k.pr,?_⟩;obtain⟨k1,y⟩|k1:=k.ba
 .obtain⟨h1,A⟩|h1:=h.ba
  .simp_all
  omega
 exact .inr (bt h.pr k1)
structure kZ(S:Cf)(K K':Kn):Prop where
 ls:∃l,K'.a=K.a++l
 d:∀u,rb S.n (u/S.m) (K.D u) (K'.D u)
 dv:∀q e,yj ((K.c q).E e) ((K'.c q).E e)
 av:∀q e b,K.d q e b->K'.d q e b
 an:∀q e b,K'.d q e b->K.d q e b\/((K.c q).E e).pr<=b
 a:∀e b l,K.b e b l->K'.b e b l
 cb:∀e:Nat,e<K.a.length->K'.cb e=K.cb e/\K'.cq e=K.cq e
 p0:∀t a e,K.P0 t a e->K'.P0 t a e
 mk':∀m,K.e m->K'.e m
 fu:∀t,K.Fu t->K'.Fu t
section
variable{S:Cf}{K K' K2:Kn}
def kZ.refl(S)(K):kZ S K K:=⟨⟨[],gG⟩,λ_=>rb.refl ..,λ_ _=>yj.refl _,λ_ _ _ h=>h,λ_ _ _ h=>.inl h,λ_ _ _ h=>h,λ_ _=>⟨rfl,rfl⟩,λ_ _ _ h=>h,λ_ h=>h,λ_ h=>h⟩
def kZ.len(h:kZ S K K'):K.a.length<=K'.a.length:=by obtain⟨l,e⟩:=h.ls;simp_all
def kZ.H(h:kZ S K K')(k:kZ S K' K2):kZ S K K2:=by
 refine⟨?_,λu=>(h.d u).H (k.d u),λq e=>(h.dv q e).H (k.dv q e),λq e b x=>k.av q e b (h.av q e b x),λq e b x=>?_,λe b l x=>k.a _ _ _ (h.a _ _ _ x),λe j=>?_,λt a e x=>k.p0 _ _ _ (h.p0 _ _ _ x),λm x=>k.mk' m (h.mk' m x),λt x=>k.fu t (h.fu t x)⟩
 .obtain⟨l,e⟩:=h.ls;obtain⟨y,e'⟩:=k.ls;simp_all
 .obtain x|x:=k.an q e b x
  .exact h.an q e b x
  exact .inr (bt (h.dv q e).pr x)
 obtain⟨A,L⟩:=h.cb e j;obtain⟨M,T⟩:=k.cb e (gS h.len);simp_all
def Kn.In.L(h:K.In e)(k:kZ S K K'):K'.In e:=⟨h.1,by have:=h.2;have:=k.len;omega⟩
def kZ.lay(k:kZ S K K')(h:K.In e):K'.lay e=K.lay e:=by obtain⟨l,j⟩:=k.ls;have y:=h.1;have A:=h.2;unfold Kn.lay;rw[j,aS,aS,aB C]
def kZ.C(k:kZ S K K')(h:K.In e)(a):K'.C S e a=K.C S e a:=by unfold Kn.C;rw[k.lay h]
def Kn.tA.L(h:K.tA S u a t)(j:t.kd≠0)(k:kZ S K K'):K'.tA S u a t:=by unfold Kn.tA at h|-;rw[(k.d u).ct _ (jk h j),h]
def Kn.I0.L(h:K.I0 S u a)(j:KN S.n S.ce (u/S.m) a)(k:kZ S K K'):K'.I0 S u a:=
 ⟨(k.d u).dd _ h.1 (by rw[j.eq];exact h.2),eH h.2 (k.d u).b⟩
end
def xq(S:Cf)(K:Kn)(e b:Int)(val:List Int):Prop:=
 ∃Q:List Int,(Q.Nodup/\S.nP<=Q.length/\∀q∈Q,oj S.v q)/\∃bm,0<=bm/\bm<b/\(bm=0\/K.b e bm val)/\∀q∈Q,b<=((K.c q).E e).pr/\∀b2,K.d q e b2->b2<b->b2<=bm
structure Kv(S:Cf)(K:Kn):Prop where
 l0:K.a[0]?=some (jD S.n S.m)
 ls:∀(e:Nat) R L,K.a[e]?=some L->K.a[e+1]?=some R->nS R L
 lc:∀e:Nat,1<=e->e<K.a.length->K.b e (K.cb e) (jW (K.lay e))/\((K.cq e).Nodup/\S.nP<=(K.cq e).length/\∀q∈K.cq e,oj S.v q)/\∀q∈K.cq e,K.d q e (K.cb e)
 a:∀e b val,K.b e b val->(1<=e/\e<=K.a.length)/\1<=b/\(∃l,val=jW l/\nS l (K.lay (e-1)))/\xq S K e b val
 au:∀e b val val',K.b e b val->K.b e b val'->val=val'
 av:∀q e b,K.d q e b->0<b/\b<=((K.c q).E e).ba
 pu:∀t t' a a' e e',K.P0 t a e->K.P0 t' a' e'->t.cl=t'.cl->t.ca=t'.ca->t=t'
 T9:K.e 0
section
variable{S:Cf}{K K':Kn}
def xv(S:Cf):(jW (jD S.n S.m)).Nodup/\(jW (jD S.n S.m)).length=S.n*S.m/\(∀u∈jW (jD S.n S.m),0<=u/\u<S.n*S.m)/\(jD S.n S.m).length=S.n/\(∀ch∈jD S.n S.m,ch.length=S.m):=by let⟨h,j,_⟩:=S.A;exact_mod_cast tN S.n (BC h) S.m (BC j)
def nS.self{L:List (List Int)}(h:∀c∈L,c≠[]):nS L L:=⟨rfl,λi r ch y j=>by rw[y]at j;simp at j;subst j;exact⟨dy _,h _ (aR y)⟩⟩
def nS.ne{R L:List (List Int)}(h:nS R L):∀c∈R,c≠[]:=λc j=>by obtain⟨ch,_,_,y⟩:=h.mem j;omega
def Kv.pos(h:Kv S K):1<=K.a.length:=by have:=(aj.1 h.l0).1;omega
theorem Kv.UW(h:Kv S K):∀(e:Nat),e<K.a.length->nS (K.lay e) (jD S.n S.m)
 |0,_=>by
  have y:K.lay (0:Nat)=jD S.n S.m:=by unfold Kn.lay;rw[aS,show((0:Nat):Int).toNat=0 from rfl,h.l0];rfl
  rw[y];refine nS.self λc A=>?_;have j:=(xv S).2.2.2.2 c A;have:=S.A;intro e;rw[e]at j;simp at j;omega
 |e+1,H=>by
  refine nS.H (h.ls e _ (K.lay e) ?_ ?_) (h.UW e C)
  .unfold Kn.lay;rw[aS,et,ah C];rfl
  unfold Kn.lay;simp_all
theorem Kv.V6(h:Kv S K)(e):∀(d:Nat),e+d<K.a.length->nS (K.lay (e+d:Nat)) (K.lay e)
 |0,j=>nS.self (h.UW e C).ne
 |d+1,j=>by
  refine nS.H (h.ls (e+d) (K.lay (e+(d+1):Nat)) (K.lay (e+d:Nat)) ?_ ?_) (h.V6 e d C)
  .unfold Kn.lay;rw[aS,et,ah C];rfl
  unfold Kn.lay;rw[aS,et,show e+(d+1)=e+d+1 from rfl,ah (show e+d+1<_ by omega)];rfl
def Kv.sub(h:Kv S K)(j:K.In e)(y:0<=e')(A:e'<=e):nS (K.lay e) (K.lay e'):=by have H:=j.2;have:=h.V6 e'.toNat (e-e').toNat C;rwa[show((e'.toNat+(e-e').toNat:Nat):Int)=e by omega]at this
def Kv.Rw(h:Kv S K)(j:K.In e):nS (K.lay e) (jD S.n S.m):=by have y:=j.1;have A:=j.2;have:=h.UW e.toNat C;rwa[show(e.toNat:Int)=e by omega]at this
def Kv.len(h:Kv S K)(j:K.In e):(K.lay e).length=S.n:=(h.Rw j).1.H (xv S).2.2.2.1
def XY(S:Cf):(a%S.n).toNat<S.n:=by have:=S.A;have h:=de a (show(0:Int)<S.n by omega);omega
def Kv.get(h:Kv S K)(j:K.In e)(a:Int):(K.lay e)[(a%S.n).toNat]?=some (K.C S e a):=by have y:=h.len j;have:=XY S (a:=a);unfold Kn.C;simp_all
def Kv.mem(h:Kv S K)(j:K.In e)(a):K.C S e a∈K.lay e:=aR (h.get j a)
def Kv.Gq(h:Kv S K)(j:K.In e)(y:0<=e')(A:e'<=e)(a):(K.C S e a).Sublist (K.C S e' a):=
 ((h.sub j y A).2 _ _ _ (h.get j a) (h.get ⟨y,gS j.2⟩ a)).1
def Kv.ne(h:Kv S K)(j:K.In e)(a):K.C S e a≠[]:=(h.Rw j).ne _ (h.mem j a)
def Kv.all(h:Kv S K)(j:K.In e):(jW (K.lay e)).Nodup/\∀u∈jW (K.lay e),nL S.n S.m u:=by let⟨y,_,A,_⟩:=xv S;have:=(h.Rw j).all;exact⟨y.sublist this,λu H=>A u (this.subset H)⟩
def Kv.zw(h:Kv S K)(j:K.In e)(y:u∈K.C S e a):u∈jW (K.lay e):=fq.2 ⟨_,h.mem j a,y⟩
def Kv.nd(h:Kv S K)(j:K.In e)(a):(K.C S e a).Nodup:=(h.all j).1.sublist (fE (h.mem j a))
def Kv.un(h:Kv S K)(j:K.In e)(y:u∈K.C S e a):nL S.n S.m u:=(h.all j).2 u (h.zw j y)
def Kv.Yg(h:Kv S K)(y:K.In e)(A:u∈K.C S e a):u/S.m=a%S.n:=by
 have V:=XY S (a:=a);have H:(jD S.n S.m)[(a%S.n).toNat]?=some ((List.range S.m).map λi=>(((a%S.n).toNat*S.m+i:Nat):Int)):=by unfold jD;simp_all
 have L:=((h.Rw y).2 _ _ _ (h.get y a) H).1.subset A;let⟨i,M,T⟩:=aD.1 L;have j:=di.1 M;have Y:=dq a (show(S.n:Int)≠0 by have:=S.A;omega);rw[<-T];rw[show((_:Int))/S.m=_ by norm_cast];rw[cN,Nat.mul_add_div C,Nat.div_eq_of_lt j];omega
def Kv.D(h:Kv S K)(j:K.In e)(y:u∈K.C S e a)(A:0<=a)(H:a<S.n*S.ce):KN S.n S.ce (u/S.m) a:=
 ⟨S.A.1.1,A,H,(h.Yg j y).symm⟩
theorem SC{T:List Int}(A:T.Sublist (l1++u::l2))(H:(l1++u::l2).Nodup)(L:u∈T):∃g l,T=g::l/\(g=u\/g∈l1):=by
 obtain⟨M,s2,rfl,V,Y⟩:=List.sublist_append_iff.1 A
 cases M with
 |cons g s=>exact⟨g,s++s2,rfl,.inr (V.subset (aN ..))⟩
 |nil=>
  have h:u∈s2:=iU L
  cases s2 with
  |nil=>simp at h
  |cons g s=>
   refine⟨g,s,rfl,.inl ?_⟩;have j:(u::l2).Nodup:=(cX.1 H).2.1
   cases Y with
   |cons _ y=>exact absurd (y.subset h) (bY.1 j).1
   |cons_cons _ y=>rfl
structure Rt(S:Cf)(K:Kn)(u a:Int)(t:Ct)(e e0 e1:Int)(l1 l2:List Int):Prop where
 kd:t.kd≠0
 z0:0<=e0
 Ub:e0<=e1
 z1:e1<=e
 Xi:e1<K.a.length
 p:K.P0 t a e0
 c:K.C S e1 a=l1++u::l2
 has:∀x∈l1,K.tA S x a t
 hd:∀e',e0<=e'->e'<=e1->∃g l,K.C S e' a=g::l/\(g=u\/K.tA S g a t)
def DO(S:Cf)(K:Kn)(u a:Int)(t:Ct)(e:Int):Prop:=∃e0 e1 l1 l2,Rt S K u a t e e0 e1 l1 l2
def DO.L(h:DO S K u a t e)(k:kZ S K K'):DO S K' u a t e:=by
 let⟨H,j,l1,l2,h⟩:=h;have M:∀e',H<=e'->e'<=j->K.In e':=λe' y A=>⟨gS h.z0,gS h.Xi⟩;refine⟨H,j,l1,l2,h.kd,h.z0,h.Ub,h.z1,by have:=h.Xi;have:=k.len;omega,k.p0 _ _ _ h.p,?_,λx T=>(h.has x T).L h.kd k,λe' y A=>?_⟩
 .rw[k.C (M j h.Ub iK)];exact h.c
 rw[k.C (M e' y A)];obtain⟨g,l,V,Y⟩:=h.hd e' y A;exact⟨g,l,V,Y.imp (λe=>e) λe=>e.L h.kd k⟩
def DO.up(h:DO S K u a t e)(k:e<=e'):DO S K u a t e':=by let⟨j,y,l1,l2,h⟩:=h;exact⟨j,y,l1,l2,h.kd,h.z0,h.Ub,bt h.z1 k,h.Xi,h.p,h.c,h.has,h.hd⟩
def Rt.N5{A j:Int}(h:Rt S K u a t e A j l1 l2)(H:Kv S K)(M:A<=e')(T:e'<K.a.length)(V:u∈K.C S e' a):∃g l,K.C S e' a=g::l/\(g=u\/K.tA S g a t):=by
 by_cases Y:e'<=j
 .exact h.hd e' M Y
 have y:K.In e':=⟨gS h.z0,T⟩;have h1:=h.Ub;have h2:=h.z0;have L:=H.Gq y (e':=j) C C a;rw[h.c]at L;let⟨g,l,Z,g2⟩:=SC L (by rw[<-h.c];exact H.nd ⟨C,h.Xi⟩ a) V;exact⟨g,l,Z,g2.imp (λe=>e) λe=>h.has g e⟩
structure Iq(S:Cf)(K:Kn)(a:Int)(t:Ct)(E e0:Int):Prop where
 kd:t.kd≠0
 z0:0<=e0
 z1:e0<=E
 p:K.P0 t a e0
 hd:∀e',e0<=e'->e'<=E->∃g l,K.C S e' a=g::l/\K.tA S g a t
def Iq.L{e0:Int}(h:Iq S K a t E e0)(k:kZ S K K')(M:E<K.a.length):Iq S K' a t E e0:=
 ⟨h.kd,h.z0,h.z1,k.p0 _ _ _ h.p,λe' j y=>by
  have A:K.In e':=⟨gS h.z0,C⟩
  rw[k.C A]
  obtain⟨g,l,H,L⟩:=h.hd e' j y
  exact⟨g,l,H,L.L h.kd k⟩⟩
def DO.root(h:DO S K u a t E)(j:Kv S K)(y:K.In E)(A:u∈K.C S E a)(T:K.tA S u a t):∃e0,Iq S K a t E e0:=by
 let⟨e0,V,l1,l2,h⟩:=h;have Y:=h.Ub;have Z:=h.z1;refine⟨e0,h.kd,h.z0,C,h.p,λe' H L=>?_⟩;have hi:=y.2;have h0:=h.z0;let⟨g,l,M,h4⟩:=h.N5 j H C ((j.Gq y C L a).subset A);refine⟨g,l,M,?_⟩;obtain h4|h4:=h4
 .simp_all
 omega
end
def Mj(S:Cf)(Q:List Int):Prop:=Q.Nodup/\S.nP<=Q.length/\∀q∈Q,oj S.v q
section
variable{S:Cf}{K K':Kn}
def PB{h Q2:List Int}(j:Mj S h)(A:Mj S Q2):∃q,q∈h/\q∈Q2:=by
 refine bk λH=>?_;have L:(h++Q2).Nodup:=cX.2 ⟨j.1,A.1,λx hx y M e=>H ⟨x,hx,jk e M⟩⟩;have:=oq (m:=(List.range S.v).map λi:Nat=>100+i) L λx hx=>by
  have:oj S.v x:=by
   obtain hx|hx:=aT.1 hx
   .exact j.2.2 x hx
   exact A.2.2 x hx
  unfold oj at this;exact aD.2 ⟨(x-100).toNat,di.2 C,C⟩
 have T:=j.2.1;have V:=A.2.1;unfold Cf.nP at T V;simp at this;omega
theorem uM(j:Kv S K){b1:Int}(A:K.b e b1 v1)(T:Mj S Q)(V:∀q∈Q,K.d q e b1):∀(k:Nat) (h:Int) (y:List Int),h.toNat<=k->b1<=h->K.b e h y->y=v1
 |0,h,y,Y,Z,H=>by have:=(j.a _ _ _ A).2.1;omega
 |k+1,h,y,Y,Z,H=>by
  by_cases he:h=b1
  .subst he;exact j.au _ _ _ _ H A
  obtain⟨Q2,L,bm,m0,m1,m2,m3⟩:=(j.a _ _ _ H).2.2.2;let⟨q,q1,q2⟩:=PB T L;have M:=(m3 q q2).2 b1 (V q q1) C;have:=(j.a _ _ _ A).2.1;obtain m2|m2:=m2
  .omega
  exact uM j A T V k bm y C M m2
def Lu(j:Kv S K){b:Int}{val:List Int}(A:K.In e)(V:1<=e)(h:K.b e b val)(H:Mj S Q)(L:∀q∈Q,K.d q e b):val=jW (K.lay e):=by
 have M:=A.2;obtain⟨c1,c2,y⟩:=j.lc e.toNat C C;rw[show(e.toNat:Int)=e by omega]at c1 y;by_cases T:b<=K.cb e.toNat
 .exact(uM j h H L _ _ _ jl T c1).symm
 exact uM j c1 c2 y _ _ _ jl C h
def Mo(j:Kv S K){b:Int}{val:List Int}(A:K.In e)(M:1<=e)(h:K.b e b val)(H:K.cb e.toNat<=b):val=jW (K.lay e):=by have L:=A.2;obtain⟨c1,c2,y⟩:=j.lc e.toNat C C;rw[show(e.toNat:Int)=e by omega]at c1 y;exact uM j c1 c2 y _ _ _ jl H h
theorem rH:∀(ch r d:List Int),r.Sublist ch->ch.Nodup->(∀x∈d,x∉ch)->iZ ch (r++d)=(r,d)
 |[],r,d,h,_,_=>by have:r=[]:=List.sublist_nil.1 h;subst this;rfl
 |u::us,[],d,_,L,H=>by
  have T:=rH us [] d (fp _) (bY.1 L).2 λx M h=>H x M (aX _ h)
  cases d with
  |nil=>simpa [iZ]using T
  |cons x d=>have:x≠u:=λe=>H x (aN ..) (yG e);simp only[dz,iZ];simp_all
 |u::us,y::r,d,h,L,H=>by
  have j:=bY.1 L;have A:∀x∈d,x∉us:=λx M h=>H x M (aX _ h)
  cases h with
  |cons _ h=>have:y≠u:=λe=>j.1 (by rw[<-e];exact h.subset (aN ..));simp only[dV,iZ];rw[az this];exact rH us (y::r) d h j.2 A
  |cons_cons _ h=>simp only[dV,iZ];rw[rH us r d h j.2 A];simp
theorem zK:∀{L R:List (List Int)},nS R L->(jW L).Nodup->within L (jW R)=some R
 |[],R,h,_=>by have:R=[]:=aW.1 h.1;subst this;rfl
 |ch::L,[],h,_=>by have:=h.1;simp at this
 |ch::L,r::R,h,A=>by have j:(ch++jW L).Nodup:=A;obtain⟨H,M,T⟩:=cX.1 j;obtain⟨V,Y⟩:=h.2 0 r ch rfl rfl;have y:nS R L:=⟨by have:=h.1;simpa using this,λi a b Z hb=>h.2 (i+1) a b (iU Z) (iU hb)⟩;show within (ch::L) (r++jW R)=_;simp only[within];rw[(rH ch r (jW R) V H λx hx hc=>T x hc x (y.all.subset hx) rfl)];rw[az Y,zK y M];rfl
structure Ha(S:Cf)(K:Kn)(u:Int)(s:St):Prop where
 e0:0<=s.ep
 e1:s.ep<=K.a.length
 b:K.e s.mark
 c0:∀i,(s.ct i).kd=0->s.ct i=no
 rt:∀a,KN S.n S.ce (u/S.m) a->(s.ct (cell S.n a)).kd≠0->DO S K u a (s.ct (cell S.n a)) s.ep
structure Ra(K:Kn)(s:VS):Prop where
 b0:∀e,0<=(s.E e).ba
 bp:∀e,(s.E e).ba<=(s.E e).pr
 a:∀e,0<(s.E e).ba->K.b e (s.E e).ba (s.E e).val
 lt:s.lt<=K.a.length
def Ha.L(h:Ha S K u s)(k:kZ S K K'):Ha S K' u s:=⟨h.e0,by have:=h.e1;have:=k.len;omega,k.mk' _ h.b,h.c0,λa j y=>(h.rt a j y).L k⟩
def Ra.L{s:VS}(h:Ra K s)(k:kZ S K K'):Ra K' s:=⟨h.b0,h.bp,λe j=>k.a _ _ _ (h.a e j),by have:=h.lt;have:=k.len;omega⟩
structure Kw(S:Cf)(K:Kn):Prop extends Kv S K where
 sd:∀u,nL S.n S.m u->Ha S K u (K.D u)
 vd:∀q,oj S.v q->Ra K (K.c q)
 va:∀q e,oj S.v q->0<((K.c q).E e).ba->K.d q e ((K.c q).E e).ba
def Ok(S:Cf)(a:Int):Prop:=0<=a/\a<S.n*S.ce
def xk(S:Cf)(K:Kn)(a:Int)(t:Ct):Prop:=(t.kd≠0/\Ok S a)/\∃e,K.In e/\∀u∈K.C S e a,K.tA S u a t/\e<=(K.D u).ep
def BQ(S:Cf)(K:Kn)(a:Int)(t:Ct):Prop:=(t.kd≠0/\Ok S a)/\∃e,K.In e/\(∃g l,K.C S e a=g::l/\K.tA S g a t)/\∀u∈K.C S e a,e<=(K.D u).ep/\(K.tA S u a t\/K.I0 S u a)
def sb(K:Kn)(m:Int):Prop:=∃e,K.In e/\∀u∈jW (K.lay e),m<=(K.D u).mark/\e<=(K.D u).ep
def NB(S:Cf)(K:Kn)(F:Int->St)(a:Int):Prop:=∃e,K.In e/\(∃g l,K.C S e a=g::l/\(F g).mark<=a)/\∀u∈K.C S e a,(F u).ep<=e
def Uq(S:Cf)(K:Kn)(F:Int->St)(a:Int):Prop:=∃e,K.In e/\(∀u∈K.C S e a,(F u).ep<=e/\(F u).mark<=a)/\∃u∈K.C S e a,((F u).ct (cell S.n a)).kd=0
def Gu(S:Cf)(K:Kn)(ie:Ct)(a:Int):Prop:=(∀e0,¬K.P0 ie a e0)\/(Ok S a/\∃e',K.In e'/\(∀e0,K.P0 ie a e0->e0<=e')/\∃g l,K.C S e' a=g::l/\(K.D g).ct (cell S.n a)≠ie/\(((K.D g).ct (cell S.n a)).kd≠0\/a<(K.D g).mark))
def xk.L(h:xk S K a t)(k:kZ S K K'):xk S K' a t:=by let⟨y,e,A,H⟩:=h;refine⟨y,e,A.L k,λu j=>?_⟩;rw[k.C A]at j;exact⟨(H u j).1.L y.1 k,bt (H u j).2 (k.d u).ep⟩
def BQ.L(h:BQ S K a t)(L:Kv S K)(k:kZ S K K'):BQ S K' a t:=by obtain⟨j,e,y,⟨g,l,M,T⟩,H⟩:=h;refine⟨j,e,y.L k,⟨g,l,by rw[k.C y];exact M,T.L j.1 k⟩,λu A=>?_⟩;rw[k.C y]at A;exact⟨bt (H u A).1 (k.d u).ep,(H u A).2.imp (λe=>e.L j.1 k) λe=>e.L (L.D y A j.2.1 j.2.2) k⟩
def sb.L{m:Int}(h:sb K m)(k:kZ S K K'):sb K' m:=by let⟨e,y,A⟩:=h;refine⟨e,y.L k,λu j=>?_⟩;rw[k.lay y]at j;exact⟨bt (A u j).1 (k.d u).b,bt (A u j).2 (k.d u).ep⟩
def NB.L(h:NB S K F a)(k:kZ S K K'):NB S K' F a:=by let⟨e,j,y,A⟩:=h;exact⟨e,j.L k,by rw[k.C j];exact y,by rw[k.C j];exact A⟩
def Uq.L(h:Uq S K F a)(k:kZ S K K'):Uq S K' F a:=by let⟨e,j,y,A⟩:=h;exact⟨e,j.L k,by rw[k.C j];exact y,by rw[k.C j];exact A⟩
def Gu.L(h:Gu S K ie a)(Y:Kv S K)(k:kZ S K K')(M:∀e,K'.P0 ie a e->K.P0 ie a e)(Z:ie.kd≠0):Gu S K' ie a:=by
 obtain h|⟨y,e',A,h1,g,l,T,g2,g3⟩:=h
 .exact .inl λj x=>h j (M j x)
 refine .inr ⟨y,e',A.L k,λj x=>h1 j (M j x),g,l,by rw[k.C A];exact T,?_⟩;have H:=k.d g;by_cases L:((K.D g).ct (cell S.n a)).kd=0
 .have V:a<(K.D g).mark:=g3.resolve_left λe=>e L;exact⟨λe=>Z (by rw[<-e];exact (H.dd _ L (by rw[(Y.D A (show g∈K.C S e' a by rw[T];exact aN ..) y.1 y.2).eq];exact V))),.inr (eH V H.b)⟩
 rw[H.ct _ L];simp_all
def BQ.eq{t':Ct}(kv:Kv S K)(h:BQ S K a t)(j:BQ S K a t'):t=t':=by
 have y:∀{t t':Ct} (h:BQ S K a t) (j:BQ S K a t'),(∃e e',K.In e/\K.In e'/\e<=e'/\(∀u∈K.C S e a,K.tA S u a t\/K.I0 S u a)/\∃g l,K.C S e' a=g::l/\K.tA S g a t')->t=t':=fun{t t'} h j hh=>by
  let⟨e,e',i1,i2,L,M,g,l,g1,H⟩:=hh;have T:g∈K.C S e a:=(kv.Gq i2 i1.1 L a).subset (yG g1);obtain h3|h3:=M g T
  .unfold Kn.tA at h3 H;rw[<-h3,<-H]
  unfold Kn.tA at H;have:=h3.1;rw[H]at this;exact absurd this j.1.1
 obtain⟨_,e,hi,T,M⟩:=id h;obtain⟨_,e',A,V,Y⟩:=id j;by_cases L:e<=e'
 .exact y h j ⟨e,e',hi,A,L,λu Z=>(M u Z).2,V⟩
 exact(y j h ⟨e',e,A,hi,C,λu Z=>(Y u Z).2,T⟩).symm
def xk.fix(H:Kv S K)(h:xk S K a t):BQ S K a t:=by let⟨L,e,j,y⟩:=h;refine⟨L,e,j,?_,λu A=>⟨(y u A).2,.inl (y u A).1⟩⟩;let⟨g,l,M⟩:=bQ (H.ne j a);simp_all
def Gu.no(j:Kw S K)(h:Gu S K ie a)(hf:xk S K a ie):False:=by
 obtain⟨⟨hk,Z⟩,e2,H,h1⟩:=hf;let⟨T,l2,V⟩:=bQ (j.ne H a);have L:T∈K.C S e2 a:=yG V;have M:=(h1 T L).1;have A:=(j.sd T (j.un H L)).rt a (j.D H L Z.1 Z.2) (by unfold Kn.tA at M;rw[M];exact hk);unfold Kn.tA at M;rw[M]at A;let⟨e0,e1,l1,l3,A⟩:=A;obtain h|⟨_,e',y,h3,g,l,g1,g3,_⟩:=h
 .exact h e0 A.p
 have h4:=h3 e0 A.p;have mg:g∈K.C S e' a:=yG g1;by_cases hl:e2<=e'
 .exact g3 (h1 g ((j.Gq y H.1 hl a).subset mg)).1
 let⟨g',l',Y,q2⟩:=A.N5 j.toKv h4 y.2 ((j.Gq H y.1 C a).subset L);rw[g1]at Y;simp at Y;obtain q2|q2:=q2
 .simp_all
 exact g3 (jk Y.1 q2)
def NB.no{m:Int}(y:Kv S K)(h:NB S K F a)(Y:sb (K.jU F) m)(hm:a<m):False:=by
 obtain⟨e,M,⟨g,l,Z,g2⟩,h1⟩:=h;let⟨e0,A,V⟩:=Y;have j:K.In e0:=A;by_cases hl:e0<=e
 .have H:g∈K.C S e a:=by rw[Z];exact aN ..
  have:=(V g ((y.sub M A.1 hl).all.subset (y.zw M H))).1;have:m<=(F g).mark:=this;omega
 let⟨L,l',T⟩:=bQ (y.ne j a);have H:L∈K.C S e0 a:=yG T;have:=(V L (y.zw j H)).2;have:e0<=(F L).ep:=this;have:=h1 L ((y.Gq j M.1 C a).subset H);omega
def Uq.nb(H:Kv S K)(h:Uq S K F a):NB S K F a:=by let⟨e,j,y,_⟩:=h;let⟨g,l,A⟩:=bQ (H.ne j a);exact⟨e,j,⟨g,l,A,(y g (yG A)).2⟩,λu L=>(y u L).1⟩
def Uq.no(H:Kv S K)(h:Uq S K F a)(hf:BQ S (K.jU F) a t):False:=by
 let⟨e,T,V,u,Y,hk⟩:=h;let⟨h0,e0,y,_,Z⟩:=hf;have j:K.In e0:=y;by_cases hl:e0<=e
 .rcases(Z u ((H.Gq T y.1 hl a).subset Y)).2 with L|L
  .have:(F u).ct _=t:=L;simp_all
  have:a<(F u).mark:=L.2;have:=(V u Y).2;omega
 let⟨A,l',M⟩:=bQ (H.ne j a);have mg:A∈K.C S e0 a:=yG M;have:e0<=(F A).ep:=(Z A mg).1;have:=(V A ((H.Gq j T.1 C a).subset mg)).1;omega
end
end Go.Proofs.YtbghhbpacijmmaaGreat
