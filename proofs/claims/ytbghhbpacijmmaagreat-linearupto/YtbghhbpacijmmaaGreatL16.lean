import Derived.Deep.DeepCutAuto
import Derived.Deep.CutRange
import Derived.Deep.RegionHeld3
import Derived.Deep.RegionLaw
import Derived.Deep.CutBlock
import Derived.Maps.AppendAt
import Derived.Test.YtbghhbpacijmmaaGreatL15
open Go.Proofs.Tryz
namespace Go.Proofs.YtbghhbpacijmmaaGreat
set_option maxRecDepth 99999
set_option maxHeartbeats 0
set_option linter.defProp false
set_option linter.unusedVariables false
open Go.RowKit Go.Maps
attribute [local go_sem ↓] Go.wp_at_zero Go.wp_at_succ
variable {W W':Wd} {w:World} {gH:Nat->Nat} {g i a j n:Nat} {V:WV} {S:Cf} {A:Ac} {K K':Kn} {F F':Nat->Nat->Fl} {P:Pl} {c:Kl} {ls:List Value} {ds:List Int} {iA:List Le}
theorem Wk.lD(h:Wk W)(i)(up):Wk (W.lD i up):=by
 refine⟨h.n1,h.m1,h.v1,h.v2,h.c1,by show(W.pl.modify i _).length=_;rw[cy];exact h.pl,λj P Y=>?_,h.a,λj A M=>⟨(h.ac j A M).x,(h.ac j A M).nm⟩,h.po,h.b,h.nw,h.cl,λc H=>⟨(h.ca c H).ac,(h.ca c H).kd,(h.ca c H).po,(h.ca c H).vl,(h.ca c H).tk,(h.ca c H).bg,(h.ca c H).fi,(h.ca c H).r,(h.ca c H).fw⟩,h.hd,h.ms⟩;have y:(W.pl.modify i λP=>{P with up:=up})[j]?=some P:=Y;rw[bS]at y
 cases L:W.pl[j]? with
 |none=>rw[L]at y;simp at y
 |some Q=>rw[L]at y;have T:=h.pk j Q L;simp at y;subst y;split;all_goals exact⟨T.part,T.q⟩
theorem Wk.left(h:Wk W)(hu:∀A,W.ac[0]?=some A->A.up=true)(i):Wk (W.left i):=by
 have L:∀(j:Nat) A,(W.left i).ac[j]?=some A->∃B,W.ac[j]?=some B/\A.X=B.X/\(A.up=true->B.up=true):=λj A Y=>by
  have y:(W.ac.modify i λA=>{A with up:=i==0})[j]?=some A:=Y;rw[bS]at y
  cases Z:W.ac[j]? with
  |none=>rw[Z]at y;simp at y
  |some B=>
   rw[Z]at y;simp only[dL,bG,aJ]at y;refine⟨B,rfl,?_,?_⟩
   .rw[<-y];split<;>rfl
   rw[<-y];split
   .rename_i e;intro h0;have a0:i=0:=iU h0;exact hu B (by rw[<-a0,e];exact Z)
   exact λe=>e
 have M:∀(j:Nat) B,W.ac[j]?=some B->∃A,(W.left i).ac[j]?=some A/\A.X=B.X/\(A.up=true->B.up=true):=λj B hB=>by
  have hl:j<(W.left i).ac.length:=by show j<(W.ac.modify i _).length;rw[cy];exact(aj.1 hB).1
  obtain⟨B',Q,T,h3⟩:=L j _ (ah hl);rw[hB]at Q;obtain rfl:B=B':=iU Q;exact⟨_,ah hl,T,h3⟩
 refine⟨h.n1,h.m1,h.v1,h.v2,h.c1,h.pl,h.pk,by show(W.ac.modify i _).length<=8;rw[cy];exact h.a,λj A Y=>?_,h.po,h.b,h.nw,h.cl,λc hc=>?_,h.hd,h.ms⟩
 .let⟨B,Q,T,_⟩:=L j A Y;have:=h.ac j B Q;exact⟨by rw[T];exact this.x,by rw[T];exact this.nm⟩
 have H:=h.ca c hc;obtain⟨B,b1,b2,b3⟩:=H.ac;obtain⟨A,a1,a2,a3⟩:=M _ B b1;exact⟨⟨A,a1,jk a2 b2,λu f=>by rw[a2];exact b3 (a3 u) f⟩,H.kd,H.po,H.vl,H.tk,H.bg,H.fi,H.r,H.fw⟩
def rK{α:Type}{l:List α}{x:α}(h:l[i]?=some x)(f):l.modify i f=l.set i (f x):=by
 refine bJ λj=>?_;rw[bS];by_cases e:i=j
 .subst e;rw[h,aQ (aj.1 h).1];simp
 simp_all
def jG.Ui{pb N pc:Nat}(h:jG w gH g W V)(M:V.pv=gN (G pb) N pc)(Q:W.pl.length=N)(H:W.pl[i]?=some P)(up):jG (w.setCell (U pb (i*5+3)) (.bool up)) gH g (W.lD i up) {V with ps:=V.ps.set (i*5+3) (.bool up)}:=by
 obtain⟨gi,mk,y,L⟩:=h.a.pl i P H;have T:=h.a.row.ie.1;have Y:=(aj.1 H).1;have:=h.Uj M Q (o:=3) C H (p':={P with up:=up}) (.bool up) (gi:=gi) (mk:=mk) (by
  refine⟨?_,?_,?_,?_,?_⟩
  .rw[aH C];exact y.1
  .rw[aH C];exact y.2.1
  .rw[aH C];exact y.2.2.1
  .rw[aQ C]
  .rw[aH C];exact y.2.2.2.2) L
 unfold Wd.lD;rw[rK H];exact this
def jG.Tu{M N pc:Nat}(h:jG w gH g W V)(Y:V.av=gN (G M) N pc)(Z:W.ac.length=N)(Q:W.ac[i]?=some A):jG (w.setCell (U M (i*3+2)) (.bool (i==0))) gH g (W.left i) {V with aw:=V.aw.set (i*3+2) (.bool (i==0))}:=by
 subst Z;have hi:=(aj.1 Q).1;have y:=h.B.row;rw[Y]at y;have k:jB (λs=>s=3) w gH (w.setCell (U M (i*3+2)) (.bool (i==0))) gH:=kn (y.gH M rfl) _ _;have hl:=y.ie.1;have n1:=h.b;have n2:=h.an;have n3:=h.ht;unfold Wd.left;rw[rK Q];refine⟨(k.heap h.hg h.tg C).1,(k.heap h.hg h.tg C).2,h.a.A k C λt _ _=>C,⟨by show mC _ _ _ _ _ V.av _ _;rw[Y,bK];exact⟨sV y.ie _ _,y.gH⟩,λj B L=>?_⟩,h.ca.A k C C λi _=>C,h.po.A k C C,h.ha.A k C,h.ms.A k C,n1,by rw[bK];exact n2,n3⟩;by_cases e:i=j
 .subst e;rw[aQ hi]at L;simp only[aJ]at L;subst L;obtain⟨p,qb,H,T⟩:=h.B.ac i A Q;refine⟨p,qb,⟨?_,?_,?_⟩,T.A k λs _ _=>C⟩
  .rw[aH C];exact H.1
  .rw[aH C];exact H.2.1
  rw[aQ C]
 rw[aH e]at L;obtain⟨p,qb,H,T⟩:=h.B.ac j B L;refine⟨p,qb,⟨?_,?_,?_⟩,T.A k λs _ _=>C⟩
 .rw[aH C];exact H.1
 .rw[aH C];exact H.2.1
 rw[aH C];exact H.2.2
def ze(W:Wd)(kind a b):W.call kind a b=W\/(∃A,W.ac[iL a W.ac.length]?=some A/\A.up=true/\W.call kind a b=W.ni.js)\/∃A,W.ac[iL a W.ac.length]?=some A/\A.up=true/\A.X.a.length≠8/\W.call kind a b=(W.ni.js.nF kind b (iL a W.ac.length) A).js:=by
 unfold Wd.call;split
 .exact .inl rfl
 rename_i A h;split
 .rename_i y;split
  .exact .inr (.inl ⟨A,h,y,rfl⟩)
  rename_i H;exact .inr (.inr ⟨A,h,y,H,rfl⟩)
 exact .inl rfl
def JV(h:Wk W)(kind a b)(T:kind=1\/kind=2\/kind=3\/kind=4\/kind=5):Wk (W.call kind a b)/\(W.call kind a b).iN<=W.iN+2/\(W.call kind a b).gK.length<=W.gK.length+1/\(W.call kind a b).jT=W.jT/\(W.call kind a b).ac.length=W.ac.length/\(W.call kind a b).iA=W.iA/\(W.call kind a b).pl=W.pl:=by
 have hn:=h.nw;have y:Wk W.ni.js:=Wk.js (W:=W.ni) h.D (by show W.a+1<=4*((W.iN+1:Nat):Int);omega);have Y:W.ni.js.gK.length=W.gK.length:=by show(W.gK.map _).length=_;rw[ay]
 obtain e|⟨A,M,Z,e⟩|⟨A,M,Z,h8,e⟩:=ze W kind a b
 .rw[e];exact⟨h,C,C,rfl,rfl,rfl,rfl⟩
 .rw[e];exact⟨y,by show W.iN+1<=_;omega,C,rfl,rfl,rfl,rfl⟩
 have Q:W.ni.js.ac[iL a W.ac.length]?=some A:=M;have h9:=(y.ac _ A Q).x.pl;have hc:=xM y Q C kind b T;have H:(W.ni.js.nF kind b (iL a W.ac.length) A).gK.length=W.ni.js.gK.length+1:=by show(W.ni.js.gK++[_]).length=_;rw[aO];rfl
 have L:=hc.js (by show W.a+1+1<=4*((W.iN+1+1:Nat):Int);omega);rw[e];refine⟨L,by show W.iN+1+1<=_;omega,?_,rfl,cy ..,rfl,rfl⟩;show((W.ni.js.nF kind b (iL a W.ac.length) A).gK.map _).length<=_;rw[ay,H,Y];exact jl
def Wk.kY(h:Wk W)(a):Wk (W.kY a):=by have y:(W.iA.eraseIdx (iL a W.iA.length)).length<=W.iA.length:=List.length_eraseIdx_le ..;have:=h.b;exact h.Pf (λl y=>h.po l (eL y)) C
def Wk.oz(h:Wk W){Q:Pl}(Y:W.pl[i]?=some P)(Z:Q.part=P.part/\Q.q=P.q)(hj:j<P.part.hl):Wk (W.oz i Q j):=by
 have y:=h.D;have hk:GG (W.A 0) W.n W.m W.v i Q:=⟨by rw[Z.1];exact(h.pk i P Y).part,by rw[Z.2];exact(h.pk i P Y).q⟩;have T:=sW W {W with iN:=W.iN+1} 0 0 oC jl;refine⟨y.n1,y.m1,y.v1,y.v2,y.c1,by show(W.pl.set i _).length=_;rw[bK];exact h.pl,λk R hR=>?_,y.a,λk A hA=>⟨(y.ac k A hA).x,(y.ac k A hA).nm⟩,y.po,y.b,y.nw,y.cl,λc H=>⟨(y.ca c H).ac,(y.ca c H).kd,(y.ca c H).po,(y.ca c H).vl,(y.ca c H).tk,(y.ca c H).bg,(y.ca c H).fi,(y.ca c H).r,(y.ca c H).fw⟩,y.hd,y.ms⟩;have M:(W.pl.set i _)[k]?=some R:=hR;by_cases e:i=k
 .subst e;rw[aQ (aj.1 Y).1]at M;obtain rfl:Q.px j=R:=iU M;exact (hk.px (j:=j) (jk Z.1 hj)).L T
 rw[aH e]at M;exact(h.pk k R M).L T
def Wk.kS(h:Wk W):Wk W.kS:=by
 unfold Wd.kS;split
 .exact h
 rename_i h8;have y:=h.D;have h0:=Xe W W.ac.length;have T:∀c∈W.gK,c.a<W.ac.length:=λc M=>by obtain⟨B,b1,_⟩:=(h.ca c M).ac;exact(aj.1 b1).1
 refine⟨y.n1,y.m1,y.v1,y.v2,y.c1,y.pl,y.pk,by show(W.ac++[_]).length<=8;rw[aO];show W.ac.length+1<=8;omega,λk A Z=>?_,y.po,y.b,y.nw,y.cl,λc M=>?_,y.hd,y.ms⟩
 .have H:(W.ac++[⟨Cx.new W.n W.m W.v W.ce (kg W.ac.length),true⟩])[k]?=some A:=Z;by_cases L:k<W.ac.length
  .rw[aB L]at H;exact⟨(y.ac k A H).x,(y.ac k A H).nm⟩
  have Y:=(aj.1 H).1;rw[aO]at Y;have Q:k=W.ac.length:=by have:k<W.ac.length+1:=Y;omega
  subst Q;rw[aC jl,dR]at H;obtain rfl:(⟨Cx.new W.n W.m W.v W.ce (kg W.ac.length),true⟩:Ac)=A:=iU H;refine⟨Xk.new h.n1 h.m1 h.v1 h.v2 h.c1 ?_ ?_ ⟨rfl,⟨rfl,rfl⟩,rfl,rfl,rfl⟩,?_⟩
  .unfold kg;omega
  .exact⟨by show(0:Int)<=((W.iN+1:Nat):Int);omega,by show(0:Int)<=200*((W.iN+1:Nat):Int);omega,by show(0:Int)<=20*((W.iN+1:Nat):Int);omega,by show(0:Int)<=(W.gK.length:Int);omega⟩
  show(W.gK.filter λc=>c.a==W.ac.length).map (·.b)=List.range 0;rw[List.filter_eq_nil_iff.2 λc M=>by have:=T c M;simp;omega];rfl
 have L:=y.ca c M;obtain⟨B,b1,b2⟩:=L.ac;exact⟨⟨B,by show(W.ac++[_])[c.a]?=_;rw[aB (T c M)];exact b1,b2⟩,L.kd,L.po,L.vl,L.tk,L.bg,L.fi,L.r,L.fw⟩
def Wk.vm(h:Wk W)(a b)(S):Wk (W.vm a b S):=by refine h.lS ⟨?_,DN S⟩;rw[Aj];exact xC S
def Wd.B(W:Wd):List Bool:=W.ac.map (·.up)
def wX(W:Wd):Prop:=W.B[0]?=some true
def wX.pos(h:wX W):0<W.ac.length:=by have:=(aj.1 h).1;simpa [Wd.B]using this
def wX.up(h:wX W):∀A,W.ac[0]?=some A->A.up=true:=λA y=>by unfold wX Wd.B at h;simp_all
theorem vK(l:List Ac)(i)(X):(l.modify i λA=>{A with X:=X}).map (·.up)=l.map (·.up):=by
 refine bJ λj=>?_;rw[aK,aK,bS]
 cases l[j]? with
 |none=>rfl
 |some B=>simp;split<;>rfl
def R8{l:List Ac}(h:l[i]?=some A)(X):(l.set i {A with X:=X}).map (·.up)=l.map (·.up):=by
 rw[List.map_set];refine bJ λj=>?_;by_cases e:i=j
 .subst e;have y:=(aj.1 h).1;simp_all
 simp_all
def FA(W:Wd)(i)(X):(W.qi i X).B=W.B:=vK W.ac i X
theorem Ng(W:Wd)(l):(W.ox l).B=W.B:=by
 show(W.sr l W.ac.length).map _=W.ac.map (·.up);refine bJ λj=>?_;rw[aK,aK,oJ]
 cases W.ac[j]? with
 |none=>rfl
 |some B=>simp;split<;>rfl
def Ay(W:Wd)(l):(W.lS l).B=W.B:=by
 unfold Wd.lS;split
 .rfl
 exact Ng W l
def CH(W:Wd)(k):(W.kU k).B=W.B:=by
 unfold Wd.kU;split
 .split
  .rfl
  split<;>rfl
 split
 .rfl
 rename_i A h;split
 .exact R8 h _
 rfl
theorem AJ(W:Wd):∀k,(W.D k).B=W.B
 |0=>rfl
 |k+1=>by rw[pZ,CH,AJ W k]
theorem CJ:∀(ls:List Le) (W:Wd),(W.mJ ls).B=W.B
 |[],_=>rfl
 |l::ls,W=>(CJ ls (W.lS l)).H (Ay W l)
def zJ(W:Wd):W.step.B=W.B:=by unfold Wd.step;rw[CJ];exact AJ W _
def zl(W:Wd)(i):(W.kO i).B=W.B:=by
 unfold Wd.kO;split
 .rfl
 split
 .exact FA W i _
 rfl
def ES(W:Wd)(a which t):(W.ld a which t).B=W.B:=by
 obtain e|⟨A,n,_,_,_,e⟩:=sK W a which t
 .rw[e]
 rw[e];exact vK W.ac _ _
def Ga(W:Wd)(kind a b):(W.call kind a b).B=W.B:=by
 obtain e|⟨A,_,_,e⟩|⟨A,_,_,_,e⟩:=ze W kind a b
 .rw[e]
 .rw[e];rfl
 rw[e];exact vK W.ac _ _
theorem CF(W:Wd):∀k,(W.oZ k).B=W.B
 |0=>rfl
 |k+1=>by have e:W.oZ (k+1)=(W.oZ k).step:=rfl;rw[e,zJ,CF W k]
def wX.kS(h:wX W):wX W.kS:=by
 unfold Wd.kS;split
 .omega
 have y:=h.pos;unfold wX Wd.B at h|-;simp_all
theorem wX.left(h:wX W)(i):wX (W.left i):=by
 have H:=h;unfold wX Wd.B at h|-;show((W.ac.modify i λA=>{A with up:=i==0}).map _)[0]?=some true;rw[aK,bS];rw[aK]at h
 cases y:W.ac[0]? with
 |none=>rw[y]at h;simp at h
 |some A=>
  have:=H.up A y;simp;split
  .simp_all
  omega
theorem wA(h:Wk W):∀k,Wk (W.oZ k)/\ph W (W.oZ k)/\(W.oZ k).iN<=W.iN+2422*k
 |0=>⟨h,ph.refl W,by show W.iN<=_;omega⟩
 |k+1=>by let⟨y,H,Q⟩:=wA h k;let⟨L,M,T,_⟩:=uC y;have e:W.oZ (k+1)=(W.oZ k).step:=rfl;rw[e];exact⟨L,H.H M,C⟩
theorem Jw(h:jG w gH g W V)(hW:Wk W)(hS:W.iN+2422*6<=3000000000)(hC:W.gK.length<=9999999)(T:GA W.jT)(a b c)(S)(ha:nO a)(_hb:nO b)(_hc:nO c)(a0:0<W.ac.length):iB 34 #[O g,.agg #[I 18,I a,I b,I c,.string S]] w (Dz w gH g (W.oZ (1+iL a 6))):=by
 let⟨W0,q,H,a1,a8,hB⟩:=rJ h ⟨18,a,b,c,S⟩;simp only at a1;have L:=hB.c;simp only at L;let⟨q0,q1,q2,q3⟩:=lV L 0 1 2 3 rfl;have lq:=hB.l;have HB:=gP hB;let⟨m,hm⟩:=gJ (iL a 6);have a2:m<6:=by rw[<-hm];exact kB a C
 have M:=gP λWm=>j5 a 6 Wm ha.1 ha.2 C C;have Y:pk a 6=(m:Int):=by have:=kz a 6 C;rwa[hm]at this
 rw[Y]at M;rw[hm];have HO:Hid (∀k,k<=6->Wk (W.oZ k)/\ph W (W.oZ k)/\(W.oZ k).iN<=W.iN+2422*k):=λk _=>wA hW k;have a3:=gP T;have s1:IntKind.i64.wrap (1+(m:Int))=((1+m:Nat):Int):=vB;let⟨n,hn⟩:=gJ (1+m);rw[hn]at s1;rw[hn];have a9:n<=6:=C;clear h hW hB L Y hm T hn a2 q2 q3;go_enter func34,ntmps34;go_wp2_with fail;go_loopw[13,14](λb j wr=>∃(k:Nat) (gI:Nat->Nat) (V':WV),k<=n/\b=.bool true/\j=I k/\Hid (jB (λt=>t≠0) W0 H wr gI)/\Hid (jG wr gI g (W.oZ k) V')) λ_ j _=>n-(Go.RowKit.intOf j).toNat
 case atStart=>exact⟨0,H,V,ju,rfl,rfl,jB.refl,HB.hx⟩
 obtain⟨k,gI,V',hk,rfl,rfl,HK,HX⟩:=hrel;have Q:=HK.heap HB.c HB.t C;have aa:wr.cell? (U q 1)=some (I a):=ax wr q 1 _ 56 (0,0) Q.1;have ab:q<wr.heap.size:=(ae.1 Q.1).1;clear Q;by_cases ja:k<n
 .have a7:(k:Int)<(n:Int):=C;let⟨o1,o2,o3⟩:=HO k C;let⟨t1,t2,t3,t4,t5⟩:=uC o1;have HC:=gP (EG HX o1 ⟨C,by rw[t2.ca,o2.ca];exact hC⟩ (by rw[o2.ms];exact a3) (by rw[o2.ac];exact a0));clear o1 o2 o3 t1 t2 t3 t4 t5;go_wp2_with(first|(go_at_call 15;refine gT (M _) λw' y=>?_;have y:=y.symm;subst y)|(go_at_call 68;refine HC.L ?_;rintro en w5⟨rfl,Z,k5,V5,h5⟩;let⟨a4,a5⟩:=gO k5 h5;clear k5 h5));exact⟨⟨k+1,Z,V5,C,by trivial,iD,HK.H (a4.L λt e=>by unfold Pw at e;omega),a5⟩,iC⟩
 have ac:¬((k:Int)<(n:Int)):=C;have a6:k=n:=C;subst a6;go_wp2_with(first|(go_at_call 15;refine gT (M _) λw' y=>?_;have y:=y.symm;subst y));go_ret;exact⟨rfl,gI,HB.k.H HK,⟨_,HX⟩⟩
structure Dk(W W':Wd):Prop where
 k:Wk W'
 u:wX W'
 iN:W'.iN<=W.iN+14532
 cl:W'.gK.length<=W.gK.length+1
 ms:W'.jT=W.jT
def wX.of(h:wX W)(e:W'.B=W.B):wX W':=by unfold wX at h|-;rw[e];exact h
theorem U2(h:Wk W)(y:wX W)(d)(j)(hj:∀P,W.pl[iL d.a W.pl.length]?=some P->j<P.part.hl):Dk W (W.Gt d j):=by
 have hn:=h.nw;have Q:∀W':Wd,W'.a=W.a->W.iN+1<=W'.iN->W'.a+1<=4*(W'.iN:Int):=λW' T e2=>pI T;have Y:Dk W W:=⟨h,y,C,C,rfl⟩;have H:∀W':Wd,Wk W'->wX W'->W'.a=W.a->W.iN+1<=W'.iN->W'.iN<=W.iN+2->W'.gK=W.gK->W'.jT=W.jT->Dk W W'.js:=λW' k u T e2 e3 e4 e5=>⟨k.js (Q W' T e2),u,by show W'.iN<=_;omega,by show(W'.gK.map _).length<=_;rw[ay,e4];omega,e5⟩
 have Z:∀(W':Wd) (l:Le),Wk W'->wX W'->W'.iN=W.iN->W'.gK=W.gK->W'.jT=W.jT->uH (W'.A 0) W'.n W'.m W'.v l->Dk W (W'.lS l):=λW' l k u T e2 e3 hl=>by let⟨M,s2,_⟩:=uK W' l;exact⟨k.lS hl,u.of (Ay W' l),C,by rw[M.ca,e2];omega,M.ms.H e3⟩
 have a0:∀l,W.nh d.a=some l->uH (W.A 0) W.n W.m W.v l:=λl e=>h.po l (aR e);unfold Wd.Gt;by_cases c0:1<=d.kd/\d.kd<=5
 .rw[aE c0];let⟨x1,x2,x3,x4,_⟩:=JV h d.kd d.a d.b C;exact⟨x1,y.of (Ga W _ _ _),C,x3,x4⟩
 rw[az c0];by_cases c1:d.kd=6
 .rw[aE c1];let⟨x1,x2,x3,x4,_⟩:=JK h d.a d.b (W.tok d.c);exact⟨x1,y.of (ES W _ _ _),C,C,x4⟩
 rw[az c1];by_cases c2:d.kd=7
 .rw[aE c2];let⟨M,s2,_⟩:=zG W (iL d.a (W.pl.length+W.ac.length));exact⟨h.kU _,y.of (CH W _),C,by rw[M.ca];omega,M.ms⟩
 rw[az c2];by_cases c3:d.kd=8
 .rw[aE c3]
  cases hl:W.nh d.a with
  |none=>exact Y
  |some l=>exact Z (W.kY d.a) l (h.kY d.a) y rfl rfl rfl (a0 l hl)
 rw[az c3];by_cases c4:d.kd=9
 .rw[aE c4]
  cases hl:W.nh d.a with
  |none=>exact Y
  |some l=>exact Z W l h y rfl rfl rfl (a0 l hl)
 rw[az c4];by_cases c5:d.kd=10
 .rw[aE c5];exact⟨h.kY d.a,y,by show W.iN<=_;omega,by show W.gK.length<=_;omega,rfl⟩
 rw[az c5];by_cases c6:d.kd=11
 .rw[aE c6];let⟨t1,t2,t3,_,t5,t6⟩:=sf (W:=W.ni) h.D (iL d.a W.ac.length);have ta:=t2.iN;have T:W.ni.iN=W.iN+1:=rfl;exact H _ t1 (y.of (zl W.ni _)) t5 C C t6 t2.ms
 rw[az c6];by_cases c7:d.kd=12
 .rw[aE c7]
  cases hP:W.pl[iL d.a W.pl.length]? with
  |none=>exact Y
  |some P=>
   dsimp only;by_cases L:P.up=true
   .rw[aE L];exact⟨h.oz hP ⟨rfl,rfl⟩ (hj P hP),y,by show W.iN+1<=_;omega,by show W.gK.length<=_;omega,rfl⟩
   rw[az L];exact Y
 rw[az c7];by_cases c8:d.kd=13
 .rw[aE c8];exact H _ (Wk.lD (W:=W.ni) h.D _ _) y rfl jl (by show W.iN+1<=_;omega) rfl rfl
 rw[az c8];by_cases c9:d.kd=14
 .rw[aE c9]
  cases hP:W.pl[iL d.a W.pl.length]? with
  |none=>exact Y
  |some P=>
   dsimp only;by_cases L:P.up=true
   .rw[aE L];exact H W.ni h.D y rfl jl (by show W.iN+1<=_;omega) rfl rfl
   rw[az L];exact⟨h.oz hP ⟨rfl,rfl⟩ (hj P hP),y,by show W.iN+1<=_;omega,by show W.gK.length<=_;omega,rfl⟩
 rw[az c9];by_cases a1:d.kd=15
 .rw[aE a1];exact H _ (Wk.left (W:=W.ni) h.D y.up _) (wX.left (W:=W.ni) y _) rfl jl (by show W.iN+1<=_;omega) rfl rfl
 rw[az a1];by_cases BD:d.kd=16
 .rw[aE BD];refine⟨h.kS,y.kS,?_,?_,?_⟩
  .unfold Wd.kS;split
   .omega
   show W.iN+1<=_;omega
  .unfold Wd.kS;split
   .omega
   show W.gK.length<=_;omega
  unfold Wd.kS;split<;>rfl
 rw[az BD];by_cases a2:d.kd=17
 .rw[aE a2];let⟨M,s2,_⟩:=uK W ⟨d.b,W.E4 (iL d.a (W.pl.length+W.ac.length)),.noi (vL d.S)⟩;exact⟨h.vm d.a d.b d.S,y.of (Ay W _),by show(W.lS _).iN<=_;omega,by show(W.lS _).gK.length<=_;rw[M.ca];omega,M.ms⟩
 rw[az a2];by_cases a3:d.kd=18
 .rw[aE a3];have hm:=kB d.a (n:=6) C;let⟨M,s2,s3⟩:=wA h (1+iL d.a 6);have h6:2422*(1+iL d.a 6)<=2422*6:=gA _ C;exact⟨M,y.of (CF W _),C,by rw[s2.ca];omega,s2.ms⟩
 rw[az a3];exact H W.ni h.D y rfl jl (by show W.iN+1<=_;omega) rfl rfl
section
variable{o o' c':Kl}
def Kn.TJ(K:Kn)(t:Ct):Kn:={K with Fu:=λx=>K.Fu x\/x=t}
def Kn.Se(K:Kn)(m:Int):Kn:={K with e:=λx=>K.e x\/x=m}
def K4(t):kZ S K (K.TJ t):=⟨⟨[],by simp[Kn.TJ]⟩,λ_=>rb.refl ..,λ_ _=>yj.refl _,λ_ _ _ h=>h,λ_ _ _ h=>.inl h,λ_ _ _ h=>h,λ_ _=>⟨rfl,rfl⟩,λ_ _ _ h=>h,λ_ h=>h,λ_ h=>.inl h⟩
def KZ(m):kZ S K (K.Se m):=⟨⟨[],by simp[Kn.Se]⟩,λ_=>rb.refl ..,λ_ _=>yj.refl _,λ_ _ _ h=>h,λ_ _ _ h=>.inl h,λ_ _ _ h=>h,λ_ _=>⟨rfl,rfl⟩,λ_ _ _ h=>h,λ_ h=>.inl h,λ_ h=>h⟩
def Rs(t)(h:Kw S K):Kw S (K.TJ t):=by have y:kZ S K _:=K4 t;exact⟨⟨h.l0,h.ls,h.lc,h.a,h.au,h.av,h.pu,h.T9⟩,λu H=>(h.sd u H).L y,λq M=>(h.vd q M).L y,h.va⟩
def TK(m)(h:Kw S K):Kw S (K.Se m):=by have y:kZ S K _:=KZ m;exact⟨⟨h.l0,h.ls,h.lc,h.a,h.au,h.av,h.pu,.inl h.T9⟩,λu H=>(h.sd u H).L y,λq M=>(h.vd q M).L y,h.va⟩
def MP{X:Cx}(y:∀c∈X.a,∀r,X.c[c.gU]?=some r->r.wh=0)(n)(t):∀(k:Nat) (r:Rz),X.c[k]?=some r->r.wh≠0->(X.ld n t).c[k]?=some r:=λk r H M=>by
 unfold Cx.ld Cx.dO;split
 .omega
 rename_i c Q;have T:k≠c.gU:=λe=>M (y c (bu Q) r (jJ e H));have h:∀(L:Rz),(X.c.set c.gU L)[k]?=some r:=λL=>by rw[aH (λe=>T e.symm)];exact H
 dsimp only;repeat' split
 all_goals first|exact H|exact h _
def S0(X:Cx)(n)(t):(X.ld n t).id=X.id:=by
 unfold Cx.ld Cx.dO;dsimp only;repeat' split
 all_goals rfl
def zb(i n:Nat)(t:Int)(c:Kl):Kl:=if c.a=i/\c.b=n then{c with c:=c.c++[t]}else c
def wu(i n)(t)(c):Ic c (zb i n t c)/\(zb i n t c).fin=c.fin/\(zb i n t c).r=c.r:=by
 unfold zb;split
 .exact⟨⟨⟨rfl,rfl,rfl,rfl,rfl,rfl⟩,λa h=>dG _ h,λ_=>⟨rfl,rfl⟩⟩,rfl,rfl⟩
 exact⟨Ic.refl c,rfl,rfl⟩
def SI.oy(h:SI S K F W)(hw:Wk W)(hA:W.ac[i]?=some A)(aa:A.up=true)(hn:n∈A.X.jA)(t):∃K',SI S K' F (W.oy i A n t):=by
 obtain⟨⟨s1,s2⟩,s3,s4⟩:=h.s;obtain⟨y,ab,rfl⟩:=aD.1 hn;let⟨a4,T⟩:=aU.1 ab;have Z:y.kind=1:=by unfold Cx.ml at T;simp only[bL,ZT]at T;exact T.1
 obtain⟨q,hq,q1,q2,q3,q4,q5,q6,q7⟩:=((hw.ac i A hA).x.d y a4).st;let⟨W1,H⟩:=gJ ((({W with iN:=W.iN+1}:Wd).Cg i y.gU t):Wd);have ec:W1.gK=W.gK.map (zb i y.gU t):=by rw[<-H];rfl
 have ea:W1.ac=W.ac:=by rw[<-H];rfl
 have ep:W1.pl=W.pl/\W1.iA=W.iA/\(W1.n=W.n/\W1.m=W.m)/\W1.v=W.v/\W1.ce=W.ce:=by rw[<-H];exact⟨rfl,rfl,⟨rfl,rfl⟩,rfl,rfl⟩
 have hg:D7 W.gK W1.gK:=λo ho=>⟨_,by rw[ec];exact aD.2 ⟨o,ho,rfl⟩,(wu i y.gU t o).1⟩;have a0:zb i y.gU t q∈W1.gK:=by rw[ec];exact aD.2 ⟨q,hq,rfl⟩
 have M:zb i y.gU t q={q with c:=q.c++[t]}:=by unfold zb;rw[aE ⟨q1,q2⟩]
 have Y:y.ie=(zb i y.gU t q).ie:=by rw[M,q4];unfold Kl.ie;show _=(⟨if q.kind=1 then 8 else if q.kind=3 then 9 else 0,kg q.a,q.b,q.value⟩:Ct);rw[q1,q2,q3]
 have a5:(zb i y.gU t q).kind=1:=by rw[M];exact q3.H Z
 have a1:t∈(zb i y.gU t q).c:=by rw[M];exact cM _ (cw.2 rfl)
 have a2:=(h.cl i A hA).1;have a6:A.X.pD t=true↔Ok S t:=by unfold Cx.pD Ok;rw[a2.b.n,a2.b.c];simp
 obtain⟨Q,kl,kw,e1,e2,e3,e4,e5⟩:∃Q,kZ S K Q/\Kw S Q/\Q.P0=K.P0/\Q.b=K.b/\Q.D=K.D/\(Q.c=K.c/\Q.d=K.d/\Q.e=K.e)/\(∀x,Q.Fu x->K.Fu x\/(x=y.ie/\¬Ok S t))/\(A.X.pD t=false->Q.Fu y.ie):=by
  by_cases a7:Ok S t
  .exact⟨K,kZ.refl ..,h.k,rfl,rfl,rfl,⟨rfl,rfl,rfl⟩,λx e=>.inl e,λe=>by rw[a6.2 a7]at e;exact absurd e gF⟩
  exact⟨K.TJ y.ie,K4 _,Rs _ h.k,rfl,rfl,rfl,⟨rfl,rfl,rfl⟩,λx e=>e.imp (λe=>e) λe=>⟨e,a7⟩,λ_=>.inr rfl⟩
 have a8:∀(i:Nat) (A:Ac),W.ac[i]?=some A->∃A',W.ac[i]?=some A'/\Qg A.X A'.X/\∀c∈A.X.a,F i c.gU=F i c.gU:=λi A hA=>⟨A,hA,Qg.refl _,λ_ _=>rfl⟩;have h1:SI S Q F W1:=h.UA kl kw e1 e2 (λm x=>.inl (jJ e4.2.2 x)) (λx hx=>(e5.1 x hx).imp (λe=>e) λ⟨e,ac⟩=>⟨_,a0,e.H Y,a5,t,a1,ac⟩) ⟨ep.2.2.1,ep.2.2.2⟩ (by rw[ep.1];exact λj P hP=>(h.nd j P hP).go (W:=W) (W':=W) kl (mf e3) (mf e4.1) (λe b x=>jJ e4.2.1 x) h.k h.cl.mv a8) (by rw[ep.2.1];exact λl hl=>(h.po l hl).L kl h.cl.mv) ea hg (λc' a9=>by
  rw[ec]at a9
  obtain⟨d,hd,rfl⟩:=aD.1 a9
  let⟨g1,g2,g3⟩:=wu i y.gU t d
  exact .inr ⟨d,hd,g1,g2,g3,rfl⟩) λj B hB=>⟨λ_ _=>rfl,λc hc=>(hw.ac j B hB).x.a.lt c hc⟩
 have a3:W1.ac[i]?=some A:=jk ea hA;have ad:=NL (t:=t) (h1.cl i A a3).1 kw a4 T ⟨_,a0,jk M q1,jk M q2,jk M q3,jk M q4,λ_=>.inr a1,λe=>pS Z e,λe=>pS Z e⟩ e5.2;obtain⟨K2,_,k2,_⟩:=h1.act (W':=W.oy i A y.gU t) a3 ad (λt' a⟨g1,g2,g3⟩=>⟨_,a0,jk g1 Y,.inl ⟨a5,jk g2 a1⟩⟩) (S0 ..) (MP a2.f y.gU t) (λc hc e hf=>by
  rw[ec]at hc
  obtain⟨d,hd,rfl⟩:=aD.1 hc
  let⟨g1,g2,g3⟩:=wu i y.gU t d
  rw[g2]at hf
  rw[g1.s.1]at e
  rw[g1.s.2.1,g3]
  exact Ge hw hA aa d hd e hf) (by unfold Wd.oy;rw[H];exact⟨⟨rfl,rfl⟩,rfl,rfl⟩) (by unfold Wd.oy;rw[H];rfl) (by unfold Wd.oy;rw[H];rfl) (by unfold Wd.oy;rw[H];rfl) (λj=>by
   unfold Wd.oy
   rw[H]
   exact vJ a3 _ j)
 exact⟨K2,k2⟩
def Ff(X:Cx)(kind pos)(value)(k)(L:k<X.c.length):(X.nT kind pos value).c[k]?=X.c[k]?:=by
 have y:∀(Y:Cx) (c:jz),(Y.dO c).c=Y.c:=λY c=>by
  unfold Cx.dO;repeat' split
  all_goals rfl
 have H:∀c:jz,(X.je c).c[k]?=X.c[k]?:=λc=>aB L;have h:∀(c:jz),c.gU=X.c.length->((X.je c).kE c).c[k]?=X.c[k]?:=λc M=>by
  unfold Cx.kE;repeat' split
  all_goals first|exact H c|(show((X.je c).c.set c.gU _)[k]?=_;rw[aH C];exact H c)
 unfold Cx.nT;split
 .exact H _
 split
 .unfold Cx.D2;dsimp only;rw[y];exact H _
 split
 .unfold Cx.fill;dsimp only;rw[y];exact H _
 split
 .unfold Cx.uU;dsimp only;rw[y];exact H _
 unfold Cx.change;dsimp only;split
 .rw[rU];exact h _ rfl
 exact h _ rfl
def MH(X:Cx)(kind pos)(value):(X.nT kind pos value).id=X.id:=by
 unfold Cx.nT Cx.append Cx.D2 Cx.fill Cx.uU Cx.change Cx.dO Cx.kE;dsimp only;repeat' split
 all_goals rfl
def SI.nF(h:SI S K F W)(hw:Wk W)(hv:qv W)(hA:W.ac[i]?=some A)(a6:A.up=true)(kind b)(hk:kind=1\/kind=2\/kind=3\/kind=4\/kind=5):(∃K' F',SI S K' F' (W.nF kind b i A))/\qv (W.nF kind b i A):=by
 obtain⟨⟨s1,s2⟩,s3,s4⟩:=h.s;let⟨p1,p2,p3,p4,p5⟩:=zF hw kind b hk;have a2:=sF hw hA;have ja:∀d∈A.X.a,d.gU<A.X.c.length:=λd hd=>(hw.ac i A hA).x.a.lt d hd;let⟨N,hN⟩:=gJ ((⟨i,W.nQ i,kind,W.j6 kind b,W.mx kind,[],W.a,0,Rz.zero⟩:Kl):Kl);have n1:N.a=i/\N.b=A.X.c.length/\N.kind=kind/\N.pos=W.j6 kind b/\N.value=W.mx kind/\N.fin=0:=by rw[<-hN];exact⟨rfl,a2,rfl,rfl,rfl,rfl⟩
 let⟨n1,n2,n3,n4,n5,n6⟩:=n1;let⟨W1,Y⟩:=gJ (({W with gK:=W.gK++[N]}:Wd):Wd);have ec:W1.gK=W.gK++[N]:=by rw[<-Y]
 have ea:W1.ac=W.ac:=by rw[<-Y]
 have ep:W1.pl=W.pl/\W1.iA=W.iA/\(W1.n=W.n/\W1.m=W.m)/\W1.v=W.v/\W1.ce=W.ce:=by rw[<-Y];exact⟨rfl,rfl,⟨rfl,rfl⟩,rfl,rfl⟩
 have Q:kind≠1->W.mx kind=[]:=λe=>by unfold Wd.mx;rw[az e]
 have a7:qv W1:=λk c hc=>by
  rw[ec]at hc;by_cases hk:k<W.gK.length
  .rw[aB hk]at hc;exact hv k c hc
  rw[aC C]at hc;have a8:=(aj.1 hc).1;simp at a8;have a3:k=W.gK.length:=C;rw[a3]at hc;simp at hc;rw[<-hc,n5,n3,a3];rfl
 have y:W.nF kind b i A=W1.qi i (A.X.nT kind (W.j6 kind b) (W.mx kind)):=by rw[<-Y,<-hN];rfl
 refine⟨?_,jk y a7⟩;have hg:D7 W.gK W1.gK:=λo ho=>⟨o,by rw[ec];exact dG _ ho,Ic.refl o⟩;have a4:N∈W1.gK:=by rw[ec];exact cM _ (cw.2 rfl)
 obtain⟨T,kl,kw,e1,e2,e3,e4,e5⟩:∃T,kZ S K T/\Kw S T/\T.P0=K.P0/\T.b=K.b/\T.D=K.D/\(T.c=K.c/\T.d=K.d/\T.Fu=K.Fu)/\(∀x,T.e x->K.e x\/(kind=4/\x=W.j6 kind b))/\(kind=4->T.e (W.j6 kind b)):=by
  by_cases h4:kind=4
  .exact⟨K.Se (W.j6 kind b),KZ _,TK _ h.k,rfl,rfl,rfl,⟨rfl,rfl,rfl⟩,λx e=>e.imp (λe=>e) λe=>⟨h4,e⟩,λ_=>.inr rfl⟩
  exact⟨K,kZ.refl ..,h.k,rfl,rfl,rfl,⟨rfl,rfl,rfl⟩,λx e=>.inl e,λe=>absurd e h4⟩
 obtain⟨Z,a5⟩:∃Z:Nat->Nat->Fl,Z=λa k=>if a=i/\k=A.X.c.length then K.D else F a k:=⟨_,rfl⟩
 have f1:Z i A.X.c.length=K.D:=by rw[a5];exact aE ⟨rfl,rfl⟩
 have f2:∀(j:Nat) (B:Ac),W.ac[j]?=some B->∀k,k<B.X.c.length->Z j k=F j k:=λj B M k hk=>by rw[a5];refine az ?_;rintro⟨q1,q2⟩;rw[q1,hA]at M;simp at M;subst M;omega
 have a0:∀(j:Nat) (B:Ac),W.ac[j]?=some B->∃A',W.ac[j]?=some A'/\Qg B.X A'.X/\∀c∈B.X.a,Z j c.gU=F j c.gU:=λj B M=>⟨B,M,Qg.refl _,λc hc=>f2 j B M _ ((hw.ac j B M).x.a.lt c hc)⟩;have h1:SI S T Z W1:=h.UA kl kw e1 e2 (λm x=>(e5.1 m x).imp (λe=>e) λ⟨q1,q2⟩=>.inr ⟨N,a4,n3.H q1,by rw[n4,q2];exact iK⟩) (λt x=>.inl (jJ e4.2.2 x)) ⟨ep.2.2.1,ep.2.2.2⟩ (by rw[ep.1];exact λj P hP=>(h.nd j P hP).go (W:=W) (W':=W) kl (mf e3) (mf e4.1) (λe b x=>jJ e4.2.1 x) h.k h.cl.mv a0) (by rw[ep.2.1];exact λl hl=>(h.po l hl).go kl h.cl.mv a0) ea hg (λc' hc'=>by
  rw[ec]at hc'
  obtain hc'|hc':=aT.1 hc'
  .right
   obtain⟨B,M,b1,_⟩:=(hw.ca c' hc').ac
   exact⟨c',hc',Ic.refl _,rfl,rfl,f2 _ B M _ b1⟩
  .simp at hc'
   subst hc'
   left
   exact⟨n6,by rw[n1,n2,e3];exact f1⟩) λj B M=>⟨f2 j B M,λc hc=>(hw.ac j B M).x.a.lt c hc⟩
 have a1:W1.ac[i]?=some A:=jk ea hA;obtain⟨x1,x2⟩:=h1.cl i A a1;have L:Rg S T (Z i) A.X:=⟨jS f1 e3,λt a e x=>by
  rw[e1]at x
  rintro⟨q1,q2⟩
  obtain⟨o,ho,o1,_⟩:=h.p0 t a e x
  rw[o1]at q1 q2
  obtain⟨B,M,b1,_⟩:=(hw.ca o ho).ac
  have a9:o.a=i:=qK (by rw[<-x2,<-q1];rfl)
  rw[a9,hA]at M
  simp at M
  subst M
  have:(o.b:Int)=A.X.c.length:=q2
  omega⟩
 have hJ:∀un ad:Int,(kind=1->ad=0)->(kind=2\/kind=3\/kind=4->ad=W.j6 kind b)->(kind=5->un=W.j6 kind b)->W1.J i A.X.c.length kind ⟨if kind=1 then 8 else if kind=3 then 9 else 0,A.X.id,A.X.c.length,W.mx kind⟩ un ad:=λun ad q1 q2 q3=>⟨N,a4,n1,n2,n3,jS n5 x2,λe=>.inl (q1 e),λe=>by rw[n4];exact q2 e,λe=>by rw[n4];exact q3 e⟩;have aa:Dq S T (Z i) (W1.J i) G0 A.X (A.X.nT kind (W.j6 kind b) (W.mx kind)):=by
  unfold Cx.nT;obtain e|e|e|e|e:=hk
  .rw[aE e];have H:=hJ 0 0 (λ_=>rfl) (λq=>pS e q) λq=>pS e q;rw[aE e]at H;rw[e]at H|-;exact IV x1 kw L ja H
  .rw[az (mG e),aE e];have H:=hJ 0 (W.j6 kind b) (λq=>pS e q) (λ_=>rfl) λq=>pS e q;rw[az (mG e),az (mG e),Q (mG e)]at H;have hp:=p3 (.inl e);rw[e]at H hp|-;exact QY x1 kw L ja ⟨by rwa[e]at p1,by rw[<-s1,<-s4];exact hp⟩ H
  .rw[az (mG e),az (mG e),aE e];have H:=hJ 0 (W.j6 kind b) (λq=>pS e q) (λ_=>rfl) λq=>pS e q;rw[az (mG e),aE e,Q (mG e)]at H;have hp:=p3 (.inr e);rw[e]at H hp|-;exact Qc x1 kw L ja ⟨by rwa[e]at p1,by rw[<-s1,<-s4];exact hp⟩ H
  .rw[az (mG e),az (mG e),az (mG e),aE e];have H:=hJ 0 (W.j6 kind b) (λq=>pS e q) (λ_=>rfl) λq=>pS e q;rw[az (mG e),az (mG e),Q (mG e)]at H;have hm:=e5.2 e;rw[e]at H hm|-;exact Oz x1 kw L ja hm H
  rw[az (mG e),az (mG e),az (mG e),az (mG e)];have H:=hJ (W.j6 kind b) 0 (λ_=>rfl) (λq=>pS e q) λ_=>rfl;rw[az (mG e),az (mG e),Q (mG e)]at H;rw[e]at H|-;exact Ju x1 kw L ja H
 obtain⟨K2,_,k2,_⟩:=h1.act (W':=W.nF kind b i A) a1 aa (λ_ _ e=>e.elim) (MH ..) (λk r hr _=>by rw[Ff _ _ _ _ _ (aj.1 hr).1];exact hr) (λc hc e hf=>by
  rw[ec]at hc
  obtain hc|hc:=aT.1 hc
  .exact Ge hw hA a6 c hc e hf
  .simp at hc
   rw[hc]at hf
   exact absurd n6 hf) (by rw[y];exact⟨⟨rfl,rfl⟩,rfl,rfl⟩) (by rw[y]<;>rfl) (by rw[y]<;>rfl) (by rw[y]<;>rfl) (λj=>by
   rw[y]
   exact vJ a1 _ j)
 exact⟨K2,Z,k2⟩
end
def Sf.of(h:SI S K F W)(y:qv W):Sf S W:=⟨K,F,h,y⟩
def JZ(W:Wd)(k):(W.kU k).gK=W.gK:=by
 unfold Wd.kU;repeat' split
 all_goals rfl
theorem SI.D(h:SI S K F W)(y:Wk W):∀k,∃K',SI S K' F (W.D k)/\(∀l,wH S K F W.ac l->wH S K' F (W.D k).ac l)/\(W.D k).gK=W.gK
 |0=>⟨K,h.plain ⟨⟨rfl,rfl⟩,rfl,rfl⟩ h.nd (by simp[Wd.D]) rfl rfl,λ_ e=>e,rfl⟩
 |k+1=>by let⟨K',L,M,Q⟩:=SI.D h y k;let⟨T,_⟩:=uA y k;obtain⟨Y,Z,q2⟩:=L.kU T k;rw[pZ];exact⟨Y,Z,λl e=>q2 l (M l e),(JZ _ k).H Q⟩
theorem SI.mJ:∀(ls:List Le) {K:Kn} {W:Wd},SI S K F W->Wk W->qv W->(∀l∈ls,wH S K F W.ac l/\uH (W.A 0) W.n W.m W.v l)->∃K',SI S K' F (W.mJ ls)/\qv (W.mJ ls)
 |[],K,W,h,_,y,_=>⟨K,h,y⟩
 |l::ls,K,W,h,L,y,H=>by let⟨l1,l2⟩:=H l (aN ..);obtain⟨K',Q,T,Y⟩:=h.lS L y l1 l2;let⟨Z,_⟩:=uK W l;exact SI.mJ ls Q (L.lS l2) T λx M=>⟨Y x (H x (aX _ M)).1,Z.le (H x (aX _ M)).2⟩
def Sf.step(h:Sf S W)(M:Wk W):Sf S W.step:=by let⟨K,F,h,Q⟩:=h;obtain⟨T,H,Y,Z⟩:=h.D M _;let⟨w1,w2,w3⟩:=xE M;have h4:SI S T F ({W.jL with iA:=W.iA}:Wd):=H.plain ⟨⟨rfl,rfl⟩,rfl,rfl⟩ H.nd (λl y=>Y l (h.po l y)) rfl rfl;have L:qv _:=Q.B Z;let⟨K2,q1,q2⟩:=SI.mJ W.jL.iA h4 w1 L λl y=>⟨H.po l y,by rw[w2.n,w2.m,w2.v];exact w3 l y⟩;exact⟨K2,F,q1,q2⟩
theorem Sf.oZ(h:Sf S W)(y:Wk W):∀k,Sf S (W.oZ k)
 |0=>h
 |k+1=>(h.oZ y k).step (wA y k).1
theorem Sf.qz:∀(k:Nat) {W:Wd},Sf S W->Wk W->Sf S (W.qz k).1
 |0,W,h,_=>h
 |k+1,W,h,y=>by
  show Sf S (if W.jL.iA.length=0 then(W.step,true)else W.step.qz k).1;split
  .exact h.step y
  exact Sf.qz k (h.step y) (uC y).1
def Sf.js(h:Sf S W)(y:Wk W):Sf S W.js:=by let⟨K,F,h,H⟩:=h;obtain⟨L,w2⟩:=h.js y H;exact⟨K,F,L,w2⟩
def Sf.plain(h:Sf S W)(H:(W'.n=W.n/\W'.m=W.m)/\W'.v=W.v/\W'.ce=W.ce)(L:W'.pl=W.pl)(M:∀l∈W'.iA,l∈W.iA)(y:W'.gK=W.gK)(Q:W'.ac=W.ac):Sf S W':=by let⟨K,F,h,T⟩:=h;exact⟨K,F,h.plain H (by rw[L];exact h.nd) (λl Y=>h.po l (M l Y)) y Q,T.B y⟩
def Sf.lS(h:Sf S W)(y:Wk W){l:Le}(H:l∈W.iA):Sf S (W.lS l):=by let⟨K,F,h,L⟩:=h;obtain⟨K',M,Q,_⟩:=h.lS y L (h.po l H) (y.po l H);exact⟨K',F,M,Q⟩
def Sf.vm(h:Sf S W)(y:Wk W){fr tt:Int}(H:uH (W.A 0) W.n W.m W.v ⟨fr,tt,.noi ds⟩):Sf S (W.lS ⟨fr,tt,.noi ds⟩):=by let⟨K,F,h,L⟩:=h;obtain⟨K',M,Q,_⟩:=h.lS (l:=⟨fr,tt,.noi ds⟩) y L trivial H;exact⟨K',F,M,Q⟩
def Sf.kU(h:Sf S W)(y:Wk W)(k):Sf S (W.kU k):=by let⟨K,F,h,H⟩:=h;obtain⟨K',L,_⟩:=h.kU y k;exact⟨K',F,L,H.B (JZ W k)⟩
def Sf.kO(h:Sf S W)(y:Wk W)(i):Sf S (W.kO i):=by let⟨K,F,h,H⟩:=h;obtain⟨K',_,L⟩:=h.kO y i;exact⟨K',F,L,H.B (sf y i).2.2.2.2.2⟩
theorem Sf.M(h:Sf S W)(y:Wk W):∀k,Sf S (W.M k)
 |0=>h
 |k+1=>by rw[qw];exact(h.M y k).kO (qN y k).1 k
def Sf.sE(h:Sf S W)(y:Wk W):Sf S W.sE.1:=Sf.qz 300 (h.M y W.ac.length) (qN y W.ac.length).1
def Sf.oy(h:Sf S W)(H:Wk W)(L:W.ac[i]?=some A)(y:A.up=true)(M:n∈A.X.jA)(t):Sf S (W.oy i A n t):=by let⟨K,F,h,Q⟩:=h;obtain⟨K',T⟩:=h.oy H L y M t;refine⟨K',F,T,Q.map (λd=>?_) rfl⟩;let⟨g,_⟩:=wu i n t d;exact⟨g.s.2.2.1,g.s.2.2.2.2.1⟩
def Sf.ld(h:Sf S W)(y:Wk W)(a which t):Sf S (W.ld a which t):=by
 obtain e|⟨A,n,H,M,L,e⟩:=sK W a which t
 .simp_all
 rw[e];exact(h.oy y H M L t).js (CP y H L t)
def Sf.call(h:Sf S W)(H:Wk W)(kind a b)(M:kind=1\/kind=2\/kind=3\/kind=4\/kind=5):Sf S (W.call kind a b):=by
 have hn:=H.nw;have Q:Sf S W.ni.js:=(h.plain (W':=W.ni) ⟨⟨rfl,rfl⟩,rfl,rfl⟩ rfl (λ_ e=>e) rfl rfl).js H.D;have T:Wk W.ni.js:=H.D.js (by show W.a+1<=4*((W.iN+1):Int);omega);unfold Wd.call;split
 .omega
 rename_i A Y;split
 .rename_i L;split
  .exact Q
  rename_i h8;have y:W.ni.js.ac[iL a W.ac.length]?=some A:=Y;have Z:=(H.ac _ A Y).x.pl;obtain⟨K,F,s,hv⟩:=id Q;obtain⟨⟨K',F',k1⟩,k2⟩:=s.nF T hv y L kind b M;exact(Sf.of k1 k2).js (xM T y C kind b M)
 exact h
def Sf.kS(h:Sf S W):Sf S W.kS:=by let⟨K,F,h,y⟩:=h;refine⟨K,F,h.kS,y.B ?_⟩;unfold Wd.kS;split<;>rfl
def Sf.oz(h:Sf S W){Q:Pl}(H:W.pl[i]?=some P)(L:Q.part=P.part/\Q.q=P.q)(M:j<P.part.hl):Sf S (W.oz i Q j):=by
 let⟨K,F,h,T⟩:=h;refine⟨K,F,h.plain ⟨⟨rfl,rfl⟩,rfl,rfl⟩ (λk R Y=>?_) h.po rfl rfl,T⟩;have y:(W.pl.set i _)[k]?=some R:=Y;by_cases e:k=i
 .subst e;rw[aQ (aj.1 H).1]at y;simp at y;subst y;exact((h.nd k P H).flag L).px (jk L.1 M)
 rw[aH (λe'=>e e'.symm)]at y;exact h.nd k R y
theorem Sf.lD(h:Sf S W)(i)(up):Sf S (W.lD i up):=by
 let⟨K,F,h,H⟩:=h;refine⟨K,F,h.plain ⟨⟨rfl,rfl⟩,rfl,rfl⟩ (λk R L=>?_) h.po rfl rfl,H⟩;have y:(W.pl.modify i λP=>{P with up:=up})[k]?=some R:=L;rw[bS]at y
 cases e:W.pl[k]? with
 |none=>rw[e]at y;simp at y
 |some P=>rw[e]at y;simp at y;rw[<-y];refine(h.nd k P e).flag ?_;split<;>exact⟨rfl,rfl⟩
theorem Sf.left(h:Sf S W)(i):Sf S (W.left i):=by
 let⟨K,F,h,y⟩:=h;refine⟨K,F,h.flags ⟨⟨rfl,rfl⟩,rfl,rfl⟩ rfl rfl rfl ?_,y⟩;show(W.ac.modify i λA=>{A with up:=i==0}).map _=W.ac.map (·.X);apply bJ;intro k;rw[aK,aK,bS]
 cases W.ac[k]? with
 |none=>rfl
 |some A=>split<;>rfl
theorem Sf.Gt(h:Sf S W)(H:Wk W)(hu:wX W)(d)(j)(hj:∀P,W.pl[iL d.a W.pl.length]?=some P->j<P.part.hl):Sf S (W.Gt d j):=by
 have y:Sf S W.ni:=h.plain ⟨⟨rfl,rfl⟩,rfl,rfl⟩ rfl (λ_ e=>e) rfl rfl;have a0:Sf S (W.kY d.a):=h.plain ⟨⟨rfl,rfl⟩,rfl,rfl⟩ rfl (λl M=>eL M) rfl rfl;unfold Wd.Gt;by_cases c0:1<=d.kd/\d.kd<=5
 .rw[aE c0];exact h.call H d.kd d.a d.b C
 rw[az c0];by_cases c1:d.kd=6
 .rw[aE c1];exact h.ld H ..
 rw[az c1];by_cases c2:d.kd=7
 .rw[aE c2];exact h.kU H _
 rw[az c2];by_cases c3:d.kd=8
 .rw[aE c3]
  cases M:W.nh d.a with
  |none=>exact h
  |some l=>obtain⟨K,F,s,hv⟩:=id h;let⟨K',k1,k2,_⟩:=SI.lS (W:=W.kY d.a) (s.plain ⟨⟨rfl,rfl⟩,rfl,rfl⟩ s.nd (λl M=>s.po l (eL M)) rfl rfl) (H.kY d.a) hv (s.po l (aR M)) (H.po l (aR M));exact⟨K',F,k1,k2⟩
 rw[az c3];by_cases c4:d.kd=9
 .rw[aE c4]
  cases M:W.nh d.a with
  |none=>exact h
  |some l=>exact h.lS H (aR M)
 rw[az c4];by_cases c5:d.kd=10
 .rw[aE c5];exact a0
 rw[az c5];by_cases c6:d.kd=11
 .rw[aE c6];exact(y.kO H.D _).js (sf (W:=W.ni) H.D _).1
 rw[az c6];by_cases c7:d.kd=12
 .rw[aE c7]
  cases Q:W.pl[iL d.a W.pl.length]? with
  |none=>exact h
  |some P=>
   dsimp only;by_cases L:P.up=true
   .rw[aE L];exact h.oz Q ⟨rfl,rfl⟩ (hj P Q)
   rw[az L];exact h
 rw[az c7];by_cases c8:d.kd=13
 .rw[aE c8];exact(y.lD _ _).js (Wk.lD (W:=W.ni) H.D _ _)
 rw[az c8];by_cases c9:d.kd=14
 .rw[aE c9]
  cases Q:W.pl[iL d.a W.pl.length]? with
  |none=>exact h
  |some P=>
   dsimp only;by_cases L:P.up=true
   .rw[aE L];exact y.js H.D
   rw[az L];exact h.oz Q ⟨rfl,rfl⟩ (hj P Q)
 rw[az c9];by_cases T:d.kd=15
 .rw[aE T];exact(y.left _).js (Wk.left (W:=W.ni) H.D hu.up _)
 rw[az T];by_cases BD:d.kd=16
 .rw[aE BD];exact h.kS
 rw[az BD];by_cases Y:d.kd=17
 .rw[aE Y];exact h.vm H ⟨by show(vL d.S).length<4;rw[Aj];exact xC _,DN _⟩
 rw[az Y];by_cases Z:d.kd=18
 .rw[aE Z];exact h.oZ H _
 rw[az Z];exact y.js H.D
def tB(c:Kl):Int×List Int×Bool:=if c.fin=0 then(0,[],false)else if c.kind=1 then(if c.r.wh=1 then(c.r.ad,c.value,true)else(0,[],false))else if c.kind=2\/c.kind=3 then(if c.r.wh=8 then(c.pos,c.r.val,true)else if c.r.wh=9 then(c.pos,[],true)else(0,[],false))else(0,[],false)
def JY(c:Kl):Int:=if c.fin=0 then 0 else if c.kind=4 then c.pos else if c.kind≠1/\c.kind≠5/\c.r.wh=4 then c.pos+1 else 0
def Xy(o c:Kl):Prop:=¬((tB c).2.2=true/\(tB c).1<JY o/\c.kind=1)/\((c.kind=2\/c.kind=3)->c.fin≠0->(c.pos<JY o->c.r.wh=4)/\¬((tB o).2.2=true/\(tB o).1=c.pos/\c.r.wh=3))
structure KC(T:Int)(cs:List Kl):Prop where
 Xu:∀c∈cs,c.fin≠0->c.kind=1->c.r.val=[]/\((c.r.wh=1/\c.r.ad∈c.c/\0<=c.r.ad/\c.r.ad<T)\/(c.r.wh=7/\c.r.ad=0/\∃t∈c.c,t<0\/T<=t))
 Xq:∀c∈cs,c.fin≠0->c.kind≠1->c.r.ad=0/\(c.r.val=[]\/c.r.wh=8)/\((c.kind=2/\(c.r.wh=8\/c.r.wh=9\/c.r.wh=3\/c.r.wh=4))\/(c.kind=3/\(c.r.wh=8\/c.r.wh=9\/c.r.wh=4))\/(c.kind=4/\c.r.wh=1)\/(c.kind=5/\(c.r.wh=1\/c.r.wh=6)))
 uq:∀(i j:Nat) (c o:Kl),cs[i]?=some c->cs[j]?=some o->c.kind=1->o.kind=1->c.value=o.value->i=j
 XF:∀c∈cs,∀a,tB c=(a,[],true)->∃o∈cs,o.kind=3/\o.pos=a/\o.d<c.fin
 Yi:∀c∈cs,∀a v,v≠[]->tB c=(a,v,true)->∃o∈cs,o.kind=1/\o.value=v/\o.d<c.fin/\a∈o.c/\(o.fin=0\/(o.r.wh=1/\o.r.ad=a))
 Yo:∀c∈cs,c.kind≠4->JY c≠0->∃o∈cs,o.kind=4/\c.pos<o.pos/\o.d<c.fin
 two:∀(i j:Nat) (c o:Kl),cs[i]?=some c->cs[j]?=some o->i≠j->(tB c).2.2=true->(tB o).2.2=true->(((tB c).1=(tB o).1->(tB c).2.1=(tB o).2.1)/\((tB c).2.1≠[]->(tB c).2.1=(tB o).2.1->(tB c).1=(tB o).1))/\¬(c.kind=1/\o.kind=1/\(tB c).1=(tB o).1)
 Od:∀c∈cs,∀o∈cs,o.fin≠0->o.fin<c.d->Xy o c
def E8(y:i<4294967296)(H:j<4294967296)(h:j4 i=j4 j):i=j:=by simp[j4]at h;omega
def Jz(i):j4 i≠[]:=by simp[j4]
section
variable{o:Kl}
def JJ(h:(tB c).2.2=true):c.fin≠0/\UL c/\((c.kind=1/\tB c=(c.r.ad,c.value,true))\/(c.kind≠1/\((c.r.wh=8/\tB c=(c.pos,c.r.val,true))\/(c.r.wh=9/\tB c=(c.pos,[],true))))):=by
 unfold tB at h|-;by_cases Q:c.fin=0
 .simp_all
 rw[az Q]at h|-;refine⟨Q,?_⟩;by_cases H:c.kind=1
 .rw[aE H]at h|-;by_cases y:c.r.wh=1
  .rw[aE y];exact⟨.inl ⟨H,y⟩,.inl ⟨H,rfl⟩⟩
  simp_all
 rw[az H]at h|-;by_cases y:c.kind=2\/c.kind=3
 .rw[aE y]at h|-;by_cases L:c.r.wh=8
  .rw[aE L];exact⟨.inr ⟨y,.inl L⟩,.inr ⟨H,.inl ⟨L,rfl⟩⟩⟩
  rw[az L]at h|-;by_cases M:c.r.wh=9
  .rw[aE M];exact⟨.inr ⟨y,.inr M⟩,.inr ⟨H,.inr ⟨M,rfl⟩⟩⟩
  rw[az M]at h;exact absurd h gF
 rw[az y]at h;exact absurd h gF
def Uc(M:c.kind=1\/c.kind=2\/c.kind=3\/c.kind=4\/c.kind=5)(h:JY c≠0):c.fin≠0/\VJ c (JY c):=by
 unfold JY at h|-;by_cases H:c.fin=0
 .omega
 rw[az H]at h|-;refine⟨H,?_⟩;by_cases y:c.kind=4
 .rw[aE y];exact .inl ⟨y,rfl⟩
 rw[az y]at h|-;by_cases L:c.kind≠1/\c.kind≠5/\c.r.wh=4
 .rw[aE L];exact .inr ⟨C,L.2.2,rfl⟩
 omega
structure Wy(S:Cf)(K:Kn)(W:Wd)(c:Kl)(t:Ct)(a:Int):Prop where
 ad:(tB c).1=a
 v:(tB c).2.1=t.val
 f:BQ S K a t
 u:c.kind≠1->t.kd=8->xk S K a t
 o:∃o∈W.gK,o.d<c.fin/\A9 o t a
 w:c.kind=1->t=c.ie
def uz(H:qv W)(L:o∈W.gK){t:Ct}{a:Int}(h:A9 o t a):(t.kd=8/\o.kind=1/\t.val=o.value/\t.val≠[])\/(t.kd=9/\o.kind=3/\t.val=[]/\a=o.pos):=by
 let⟨M,y⟩:=h;rw[M];obtain⟨y,_⟩|⟨y,Q⟩:=y
 .left;refine⟨by unfold Kl.ie;rw[y];rfl,y,rfl,?_⟩;show o.value≠[];obtain⟨i,T,e⟩:=aV.1 L;have:=H i o (by rw[<-e];exact ah T);rw[aE y]at this;rw[this];exact Jz i
 right;exact⟨by unfold Kl.ie;rw[y];rfl,y,H.nil L (mG y),Q⟩
def SX(h:SI S K F W)(hv:qv W)(hc:c∈W.gK)(hb:(tB c).2.2=true):∃t a,Wy S K W c t a:=by
 let⟨h0,hB,y⟩:=JJ hb;obtain⟨t,a,o,⟨b1,Y,Z⟩,M,o2,Q⟩:=(h.ca c hc h0).m hB;have a1:=uz hv M Q;refine⟨t,a,?_⟩;obtain⟨k1,k2,H,k4⟩|⟨k1,k2,H,k4⟩:=b1
 .obtain⟨_,e⟩|⟨e,_⟩:=y
  .exact⟨jS e k4,by rw[e,H];rfl,Y,Z,⟨o,M,o2,Q⟩,λ_=>H⟩
  exact absurd k1 e
 have L:c.kind≠1:=by obtain e|e:=k1<;>rw[e]<;>decide
 obtain⟨e,_⟩|⟨_,e⟩:=y
 .omega
 have a0:c.r.wh=t.kd/\c.r.val=t.val:=by rw[k2];exact⟨rfl,rfl⟩
 obtain⟨e1,T⟩|⟨e1,T⟩:=e
 .exact⟨jS T H,jk T a0.2,Y,Z,⟨o,M,o2,Q⟩,λe=>absurd e L⟩
 refine⟨jS T H,?_,Y,Z,⟨o,M,o2,Q⟩,λe=>absurd e L⟩;simp_all
def xB(h:SI S K F W)(Z:Wk W)(T:c∈W.gK)(hf:c.fin≠0):∃y L,((c.kind=2\/c.kind=3\/c.kind=4)->L=c.pos)/\NS S K (F c.a c.b) c.kind c.ie y L c.r:=by
 obtain⟨kind,ie,y,L,⟨q,hq,q1,q2,M,q4,q5,q6,q7⟩,z2,Y⟩:=(h.ca c T hf).r;have Q:q=c:=tQ Z hq T q1 q2;subst Q;have H:ie=q.ie:=by unfold Kl.ie;rw[q4,M]
 rw[<-M,H]at Y;exact⟨y,L,λe=>q6 (jJ M e),Y⟩
def AA(y:Wk W)(H:c∈W.gK)(L:o∈W.gK)(h:c.ie=o.ie):c=o:=by have M:kg c.a=kg o.a:=Z5 Ct.cl h;have Q:(c.b:Int)=o.b:=Z5 Ct.ca h;exact tQ y H L (qK M) C
def Ki(h:SI S K F W)(Q:Wk W)(ho:o∈W.gK)(H:o.kind=1):∃x,(∀a,a≠x->Gu S K o.ie a)/\(o.fin≠0->o.r.wh=1->o.r.ad=x)/\(o.fin≠0->o.r.wh≠1->∀a,Gu S K o.ie a):=by
 by_cases L:o.fin≠0
 .let⟨T,ij,_,hr⟩:=xB h Q ho L;obtain⟨_,_,z|z⟩|⟨z,_⟩|⟨z,_⟩|⟨z,_⟩:=hr
  .exact⟨ij,z.2.2.2,λ_ _=>mf z.1,λ_ e=>absurd (mf z.1) e⟩
  .exact⟨0,λa _=>z.2.2 a,λ_ e=>pS z.1 e,λ_ _=>z.2.2⟩
  .rw[H]at z;exact absurd z gF
  .rw[H]at z;exact absurd z gF
  rw[H]at z;exact absurd z gF
 obtain⟨A,hA,ja,_⟩:=(Q.ca o ho).ac;obtain⟨x1,x2⟩:=h.cl _ A hA;have a1:=(Q.ac _ A hA).x;let⟨r,hr⟩:=mm ja;by_cases Y:r.wh=0
 .obtain⟨cl,a2,Z⟩:=(a1.f _ r hr).1 Y;have a0:=x1.d cl a2 trivial;obtain⟨q,hq,q1,q2,q3,q4,_⟩:=a0.st;have M:q=o:=tQ Q hq ho q1 (q2.H Z);subst M;have y:cl.ie=q.ie:=by unfold Kl.ie;rw[q4,q3,q2,q1]
  have a3:cl.kind=1:=q3.symm.H H;exact⟨cl.ij,λa ha=>by rw[<-y];exact a0.gu a3 a ha,λe=>absurd e L,λe=>absurd e L⟩
 obtain⟨kind,ie,T,ij,⟨q,hq,q1,q2,q3,q4,_⟩,z2,z3⟩:=x1.c _ r hr Y;have M:q=o:=tQ Q hq ho q1 q2;subst M;have y:ie=q.ie:=by unfold Kl.ie;rw[q4,q3]
 rw[<-q3,y]at z3;obtain⟨_,_,z|z⟩|⟨z,_⟩|⟨z,_⟩|⟨z,_⟩:=z3
 .exact⟨ij,z.2.2.2,λe=>absurd e L,λe=>absurd e L⟩
 .exact⟨0,λa _=>z.2.2 a,λe=>absurd e L,λe=>absurd e L⟩
 .rw[H]at z;exact absurd z gF
 .rw[H]at z;exact absurd z gF
 rw[H]at z;exact absurd z gF
def QN(h:Wk W)(y:o∈W.gK){a:Int}(H:0<=a)(L:a<JY o):o.fin≠0/\VJ o (JY o):=Uc (h.ca o y).kd C
def UN(h:SI S K F W)(hw:Wk W)(hv:qv W)(hn:W.gK.length<4294967296):KC (S.n*S.ce) W.gK:=by
 have kv:=h.k.toKv;have ac:∀(i j:Nat) (c o:Kl),W.gK[i]?=some c->W.gK[j]?=some o->c.kind=1->o.kind=1->c.value=o.value->i=j:=λi j c o hi hj k1 k2 e=>by have e1:=hv i c hi;have e2:=hv j o hj;rw[aE k1]at e1;rw[aE k2]at e2;have l1:=(aj.1 hi).1;have l2:=(aj.1 hj).1;exact E8 C C (by rw[<-e1,<-e2];exact e)
 have ai:∀c∈W.gK,∀o∈W.gK,c.kind=1->o.kind=1->c.value=o.value->c=o:=λc M o Q k1 k2 e=>by
  obtain⟨i,hi,ei⟩:=aV.1 M;obtain⟨j,hj,ej⟩:=aV.1 Q;have h1:W.gK[i]?=some c:=by rw[<-ei];exact ah hi
  have h2:W.gK[j]?=some o:=by rw[<-ej];exact ah hj
  have:=ac i j c o h1 h2 k1 k2 e;subst this;rw[h1]at h2;simpa using h2
 have a6:∀c∈W.gK,∀t a,Wy S K W c t a->t.kd=8->∀o∈W.gK,A9 o t a->∀x,(∀a,a≠x->Gu S K o.ie a)->(o.fin≠0->o.r.wh=1->o.r.ad=x)->(tB c).2.2=true->a=x:=λc M t a Z h8 o Q a2 x au av hb=>by
  refine bk λa7=>?_;have hg:=au a a7;rw[<-a2.1]at hg;by_cases y:c.kind=1
  .have a0:c=o:=AA hw M Q (by rw[<-Z.w y];exact a2.1);let⟨h0,_,T⟩:=JJ hb;obtain⟨_,e⟩|⟨e,_⟩:=T
   .have a1:c.r.wh=1:=by refine bk λq=>?_;unfold tB at hb;rw[az h0,aE y,az q]at hb;exact absurd hb gF
    have:=Z.ad;rw[e]at this;have ad:c.r.ad=a:=this;subst a0;exact a7 (ad.symm.H (av h0 a1))
   exact e y
  exact hg.no h.k (Z.u y h8)
 refine⟨λc M hf y=>?_,λc M hf y=>?_,ac,λc M a hb=>?_,λc M a v aw hb=>?_,λc M h4 ht=>?_,λi j c o hi hj aY ak al=>?_,λc M o Q hf ja=>⟨?_,λy am=>⟨λY=>?_,?_⟩⟩⟩
 .let⟨a4,ij,_,hr⟩:=xB h hw M hf;obtain⟨_,_,z|z⟩|⟨z,_⟩|⟨z,_⟩|⟨z,_⟩:=hr
  .have an:=z.2.1.1.2;obtain⟨o,Q,a2⟩:=h.Ny z.2.1;have a0:c=o:=AA hw M Q a2.1;subst a0;rw[z.1];refine⟨rfl,.inl ⟨rfl,?_,an.1,an.2⟩⟩;obtain q|q:=a2.2
   .exact q.2
   rw[y]at q;exact absurd q.1 gF
  .obtain⟨o,Q,o1,o2,a,o3,o4⟩:=h.fu _ z.2.1;have a0:c=o:=AA hw M Q o1;subst a0;rw[z.1];refine⟨rfl,.inr ⟨rfl,rfl,a,o3,?_⟩⟩;unfold Ok at o4;omega
  .rw[y]at z;exact absurd z gF
  .rw[y]at z;exact absurd z gF
  rw[y]at z;exact absurd z gF
 .let⟨a4,ij,_,hr⟩:=xB h hw M hf;obtain⟨z,_⟩|⟨z,_,L|L|L|L⟩|⟨z,L,_⟩|⟨z,L|L⟩:=hr
  .exact absurd z y
  .let⟨t,t1,t2,_⟩:=L;obtain⟨o,Q,a2⟩:=h.Ny (t2.fix kv);rw[t1];refine⟨rfl,?_,?_⟩
   .show t.val=[]\/t.kd=8;obtain q|q:=uz hv Q a2
    .exact .inr q.1
    exact .inl q.2.2.1
   have:t.kd=8\/t.kd=9:=IB a2;show(c.kind=2/\(t.kd=8\/t.kd=9\/t.kd=3\/t.kd=4))\/(c.kind=3/\(t.kd=8\/t.kd=9\/t.kd=4))\/_;omega
  .rw[L.2.1];exact⟨rfl,.inl rfl,.inl ⟨L.1,.inr (.inr (.inl rfl))⟩⟩
  .rw[L.1];refine⟨rfl,.inl rfl,?_⟩;obtain z|z:=z
   .exact .inl ⟨z,.inr (.inr (.inr rfl))⟩
   exact .inr (.inl ⟨z,.inr (.inr rfl)⟩)
  .rw[L.2.1];exact⟨rfl,.inl rfl,.inr (.inl ⟨L.1,.inr (.inl rfl)⟩)⟩
  .rw[L];exact⟨rfl,.inl rfl,.inr (.inr (.inl ⟨z,rfl⟩))⟩
  .rw[L.1];exact⟨rfl,.inl rfl,.inr (.inr (.inr ⟨z,.inl rfl⟩))⟩
  rw[L.1];exact⟨rfl,.inl rfl,.inr (.inr (.inr ⟨z,.inr rfl⟩))⟩
 .let⟨t,a',Z⟩:=SX h hv M (mf hb);have e1:=Z.ad;have e2:=Z.v;rw[hb]at e1 e2;have ag:a=a':=e1;have a9:[]=t.val:=e2;obtain⟨o,Q,o1,o2⟩:=Z.o;obtain q|q:=uz hv Q o2
  .exact absurd a9.symm q.2.2.2
  exact⟨o,Q,q.2.1,jS ag q.2.2.2,o1⟩
 .let⟨t,a',Z⟩:=SX h hv M (mf hb);have e1:=Z.ad;have e2:=Z.v;rw[hb]at e1 e2;have ag:a=a':=e1;have a9:v=t.val:=e2;subst ag;obtain⟨o,Q,o1,o2⟩:=Z.o;obtain q|q:=uz hv Q o2
  .refine⟨o,Q,q.2.1,jS a9 q.2.2.1,o1,?_,?_⟩
   .obtain z|z:=o2.2
    .exact z.2
    rw[q.2.1]at z;exact absurd z.1 gF
   by_cases hf:o.fin=0
   .exact .inl hf
   right;let⟨x,x1,x2,x3⟩:=Ki h hw Q q.2.1;have b0:=a6 c M t a Z q.1 o Q o2 x x1 x2 (mf hb);by_cases a1:o.r.wh=1
   .exact⟨a1,(x2 hf a1).H b0.symm⟩
   exfalso;have hg:=x3 hf a1 a;rw[<-o2.1]at hg;by_cases y:c.kind=1
   .have a0:c=o:=AA hw M Q (by rw[<-Z.w y];exact o2.1);subst a0;unfold tB at hb;rw[az hf,aE y,az a1]at hb;simp at hb
   exact hg.no h.k (Z.u y q.1)
  exact absurd (a9.H q.2.2.1) aw
 .let⟨t1,t2⟩:=Uc (hw.ca c M).kd ht;obtain⟨t2,_⟩|⟨t2,t3,_⟩:=t2
  .exact absurd t2 h4
  exact(h.ca c M t1).t t2 t3
 .have M:=aR hi;have Q:=aR hj;let⟨t,a,Z⟩:=SX h hv M ak;let⟨t',a',a5⟩:=SX h hv Q al;have ap:a=a'->t=t':=λe=>by have h2:=a5.f;rw[<-e]at h2;exact Z.f.eq kv h2
  rw[Z.ad,a5.ad,Z.v,a5.v];refine⟨⟨λe=>by rw[ap e],λa7 e=>?_⟩,?_⟩
  .obtain⟨q,hq,_,q2⟩:=Z.o;obtain⟨q',aq,_,ar⟩:=a5.o;obtain z|z:=uz hv hq q2
   .obtain z'|z':=uz hv aq ar
    .have b3:q=q':=ai q hq q' aq z.2.1 z'.2.1 (by rw[<-z.2.2.1,<-z'.2.2.1];exact e);subst b3;let⟨x,x1,x2,_⟩:=Ki h hw hq z.2.1;rw[a6 c M t a Z z.1 q hq q2 x x1 x2 ak,a6 o Q t' a' a5 z'.1 q hq ar x x1 x2 al]
    rw[z'.2.2.1]at e;exact absurd e a7
   exact absurd z.2.2.1 a7
  rintro⟨k1,k2,e⟩;have h1:=Z.w k1;have h2:=a5.w k2;have h3:=ap e;rw[h1,h2]at h3;have a0:c=o:=AA hw M Q h3;subst a0;exact aY (ac i j c c hi hj k1 k1 rfl)
 .rintro⟨hb,Y,y⟩;have hA:=h.fl o Q c M hf ja;let⟨h0,hB,T⟩:=JJ hb;let⟨a4,ij,_,hr⟩:=xB h hw M h0;have a1:c.r.wh=1:=by
   obtain q|q:=hB
   .exact q.2
   rw[y]at q;exact absurd q.1 gF
  obtain⟨_,_,z|z⟩|⟨z,_⟩|⟨z,_⟩|⟨z,_⟩:=hr
  .obtain⟨_,e⟩|⟨e,_⟩:=T
   .rw[e]at Y;have aa:c.r.ad<JY o:=Y;rw[z.1]at aa;have ab:ij<JY o:=aa;exact z.2.2.1.no kv (hA.t _ (QN hw Q z.2.1.1.2.1 ab).2) ab
   exact e y
  .rw[z.1]at a1;exact absurd a1 gF
  .rw[y]at z;exact absurd z gF
  .rw[y]at z;exact absurd z gF
  rw[y]at z;exact absurd z gF
 .have hA:=h.fl o Q c M hf ja;have b4:=(hw.ca c M).po.1;have hT:=hA.t _ (QN hw Q b4 Y).2;let⟨a4,ij,a8,hr⟩:=xB h hw M am;have a3:ij=c.pos:=a8 (by obtain e|e:=y<;>simp[e]);rw[a3]at hr;obtain⟨z,_⟩|⟨_,_,L|L|L|L⟩|⟨z,_⟩|⟨z,_⟩:=hr
  .rw[z]at y;exact absurd y gF
  .let⟨t,t1,t2,t3⟩:=L;exact(t3.no kv hT Y).elim
  .exact((L.2.2.nb kv).no kv hT Y).elim
  .rw[L.1]
  .exact(L.2.2.2.no kv hT Y).elim
  .rw[z]at y;exact absurd y gF
  rw[z]at y;exact absurd y gF
 rintro⟨hb,ha,h3⟩;have hA:=h.fl o Q c M hf ja;let⟨h0,hB,T⟩:=JJ hb;obtain⟨t,a,b1,b2⟩:=hA.b hB;have b5:a=c.pos:=by
  rw[<-ha];obtain⟨k1,k2,k3,k4⟩|⟨k1,k2,k3,k4⟩:=b1
  .obtain⟨_,e⟩|⟨e,_⟩:=T
   .rw[e];exact k4
   exact absurd k1 e
  obtain⟨e,_⟩|⟨_,e|e⟩:=T
  .rw[e]at k1;exact absurd k1 gF
  .rw[e.2];exact k3
  rw[e.2];exact k3
 rw[b5]at b2;let⟨a4,ij,a8,hr⟩:=xB h hw M am;have a3:ij=c.pos:=a8 (by obtain e|e:=y<;>simp[e]);rw[a3]at hr;obtain⟨z,_⟩|⟨_,_,L|L|L|L⟩|⟨z,_⟩|⟨z,_⟩:=hr
 .rw[z]at y;exact absurd y gF
 .let⟨t',t1,t2,t3⟩:=L;obtain⟨q,hq,q2⟩:=h.Ny (t2.fix kv);have:=IB q2;rw[t1]at h3;have b6:t'.kd=3:=h3;omega
 .exact L.2.2.no kv b2
 .rw[L.1]at h3;exact absurd h3 gF
 .rw[L.2.1]at h3;exact absurd h3 gF
 .rw[z]at y;exact absurd y gF
 rw[z]at y;exact absurd y gF
end
def CG(n m:Nat)(i:Nat):Pl:=if i<n*m then⟨.unit ((i/m:Nat):Int) St.first [St.first],[],true,false⟩else⟨.voter VS.first [VS.first],[],true,false⟩
def Wd.zero(n m v ce:Nat):Wd:=⟨n,m,v,ce,(List.range (n*m+v)).map (CG n m),[],[],[],0,[],[],0⟩
def Wd.start(n m v ce:Nat):Wd:=(Wd.zero n m v ce).kS
def Eg{m v ce:Nat}(h:(Wd.zero n m v ce).pl[i]?=some P):i<n*m+v/\P=CG n m i:=by have y:((List.range (n*m+v)).map (CG n m))[i]?=some P:=h;have H:=(aj.1 y).1;simp at H;rw[aK,cD H]at y;simp at y;exact⟨H,y.symm⟩
def KG(S:Cf):Wk (Wd.zero S.n S.m S.v S.ce):=by
 let⟨H,L,M,Q⟩:=S.A;have T:S.v%2=1:=by have:=S.ok;simp[nB]at this;omega
 refine⟨H,L,M,T,Q,by simp[Wd.zero],λi P Y=>?_,by simp[Wd.zero],by simp[Wd.zero],by simp[Wd.zero],by simp[Wd.zero],by simp[Wd.zero],by simp[Wd.zero],by simp[Wd.zero],by simp[Wd.zero],by simp[Wd.zero]⟩;obtain⟨Z,rfl⟩:=Eg Y;unfold CG;split
 .rename_i y;refine⟨⟨y,rfl,gG,λx h=>?_⟩,Io.nil⟩;simp at h;subst h;exact⟨⟨gF,by show(0:Int)<=0+1;decide⟩,gF,λi=>Xf (b:=(Wd.zero S.n S.m S.v S.ce).A 0) (by show(0:Int)<=0;decide),λi e=>absurd rfl e⟩
 rename_i y;refine⟨⟨by show S.n*S.m<=i;omega,Z,gG,λx h=>?_⟩,Io.nil⟩;simp at h;subst h;exact⟨λe=>⟨by show(0:Int)<=0;decide,by show(0:Int)<=200*0;decide⟩,λe=>⟨by show(0:Int)<=0;decide,by show(0:Int)<=200*0;decide⟩,λe=>by simp[VS.first,UE],λe=>by simp[VS.first,UE,mR],⟨gF,by show(0:Int)<=0+1;decide⟩⟩
def OL(S:Cf):Wk (Wd.start S.n S.m S.v S.ce):=(KG S).kS
def K0(S:Cf):Kn:=⟨[jD S.n S.m],λ_=>St.first,λ_=>VS.first,λ_ _ _=>False,λ_ _ _=>False,λ_=>0,λ_=>[],λ_ _ _=>False,λm=>m=0,λ_=>False⟩
def Oc(S):Kw S (K0 S):=by
 refine⟨⟨rfl,λe R L M y=>?_,λe M y=>?_,λ_ _ _ h=>h.elim,λ_ _ _ _ h=>h.elim,λ_ _ _ h=>h.elim,λ_ _ _ _ _ _ h=>h.elim,rfl⟩,λu T=>⟨by show(0:Int)<=0;decide,by show(0:Int)<=1;decide,rfl,λ_ _=>rfl,λa Y h=>absurd rfl h⟩,λq Q=>⟨λe=>by show(0:Int)<=0;decide,λe=>by show(0:Int)<=0;decide,λe h=>absurd (show(0:Int)<0 from h) gF,by show(0:Int)<=1;decide⟩,λq e Q h=>absurd (show(0:Int)<0 from h) gF⟩
 .have:e+1<[jD S.n S.m].length:=(aj.1 y).1;simp at this
 have H:e<[jD S.n S.m].length:=y;simp at H;omega
def Qb(S):Sf S (Wd.start S.n S.m S.v S.ce):=by
 have Y:Sf S (Wd.zero S.n S.m S.v S.ce):=by
  refine⟨K0 S,λ_ _ _=>St.first,⟨⟨⟨rfl,rfl⟩,rfl,rfl⟩,Oc S,λi P Z=>?_,λi A M=>by simp[Wd.zero]at M,λi A M=>by simp[Wd.zero]at M,λl hl=>by simp[Wd.zero]at hl,λ_ _ _ h=>h.elim,λm h=>.inl (by have:m=0:=h;omega),λ_ h=>h.elim,λ_ _ _ h=>h.elim,λc Q=>by simp[Wd.zero]at Q,λo ho=>by simp[Wd.zero]at ho⟩,λi c Q=>by simp[Wd.zero]at Q⟩;obtain⟨hi,rfl⟩:=Eg Z;unfold CG;split
  .rename_i T;have y:nL S.n S.m (i:Int):=⟨C,by exact_mod_cast T⟩;exact⟨⟨by norm_cast,y⟩,⟨[],rfl⟩,rfl,gG,λx H=>by simp at H;subst H;exact(Oc S).sd i y,gG⟩
  rename_i T;have gP:jZ S.n S.m i=100+i-(S.n*S.m:Nat):=by unfold jZ;rw[az T]
  have L:oj S.v (jZ S.n S.m i):=by rw[gP];unfold oj;omega
  exact⟨L,⟨[],rfl⟩,rfl,gG,λx H=>by simp at H;subst H;exact(Oc S).vd _ L,gG⟩
 exact Y.kS
def Qp(n m v ce):wX (Wd.start n m v ce):=rfl
theorem CZ:∀(k:Nat) {W:Wd},Wk W->Kp (2422*k) W (W.qz k).1
 |0,W,h=>(Kp.refl h).L C
 |k+1,W,h=>by
  let⟨H,y,Q,_⟩:=uC h;have M:Kp 2422 W W.step:=⟨H,Q,y.ca,y.ms,y.ac,y.n,y.m,y.v,y.ce⟩;show Kp _ W (if W.jL.iA.length=0 then(W.step,true)else W.step.qz k).1;split
  .exact M.L C
  exact(M.H (CZ k H)).L C
theorem zx:∀(k:Nat) (W:Wd),(W.qz k).1.B=W.B
 |0,W=>rfl
 |k+1,W=>by
  show(if W.jL.iA.length=0 then(W.step,true)else W.step.qz k).1.B=_;split
  .exact zJ W
  exact(zx k W.step).H (zJ W)
def Eb(h:Wk W):Kp 8 W W.Ur:=by let⟨H,y,M,Q,L⟩:=qN h W.ac.length;have:=h.a;exact⟨H,by show(W.M W.ac.length).iN<=_;omega,by show(W.M W.ac.length).gK.length=_;rw[L],y.ms,y.ac,y.n,y.m,y.v,y.ce⟩
def Rl(h:Wk W):Kp 726608 W W.sE.1:=((Eb h).H (CZ 300 (Eb h).k)).L C
theorem xS(W:Wd):∀k,(W.M k).B=W.B
 |0=>rfl
 |k+1=>by rw[qw];exact(zl _ k).H (xS W k)
def N8(W:Wd):W.sE.1.B=W.B:=(zx 300 _).H (xS W W.ac.length)
theorem Sf.oP(h:Sf S W)(y:Wk W)(i):∀k,Sf S (W.oP i k)
 |0=>h
 |k+1=>(h.oP y i k).ld (Kp.oP y i k).k _ _ _
theorem BI(W:Wd)(i):∀k,(W.oP i k).B=W.B
 |0=>rfl
 |k+1=>(ES _ _ _ _).H (BI W i k)
def Sf.nH(h:Sf S W)(L:Wk W)(i):Sf S (W.nH i):=by
 unfold Wd.nH;split
 .exact h
 rename_i A M;split
 .rename_i H;have y:=h.kO L i;unfold Wd.kO at y;rw[M]at y;dsimp only at y;rw[aE H]at y;exact y.oP (Kp.nM L M).k i _
 exact h
def Gm(W:Wd)(i):(W.nH i).B=W.B:=by
 unfold Wd.nH;split
 .rfl
 split
 .exact(BI _ i _).H (FA W i _)
 rfl
theorem Sf.j0(h:Sf S W)(y:Wk W):∀k,Sf S (W.j0 k)
 |0=>h
 |k+1=>by rw[qy];exact(h.j0 y k).nH (Kp.j0 y k).k k
theorem ya(W:Wd):∀k,(W.j0 k).B=W.B
 |0=>rfl
 |k+1=>by rw[qy];exact(Gm _ k).H (ya W k)
def Sf.round(h:Sf S W)(y:Wk W):Sf S W.round.1:=Sf.qz 300 (h.j0 y _) (Kp.j0 y _).k
def PJ(h:Wk W):Kp 726736 W W.round.1:=by have:=h.a;exact((Kp.j0 h W.ac.length).H (CZ 300 (Kp.j0 h W.ac.length).k)).L C
def Ms(W:Wd):W.round.1.B=W.B:=(zx 300 _).H (ya W _)
def Wd.VL(W:Wd):Wd:=(W.call 1 0 0).round.1
def Wd.Um(W:Wd):Wd:=W.VL.sE.1
def Wd.VH(W:Wd):Wd:=(W.Um.call 2 0 0).sE.1
def Wd.UF(W:Wd):Bool:=(W.call 1 0 0).round.2&&W.VL.sE.2&&(W.Um.call 2 0 0).sE.2&&(match W.VH.gK with
 |[a,b]=>a.r.wh==1&&b.r.wh==8&&b.r.val==j4 0
 |_=>false)
structure yH(S:Cf)(W W':Wd)(a c:Nat):Prop where
 f:Sf S W'
 k:Wk W'
 u:wX W'
 iN:W'.iN<=W.iN+a
 cl:W'.gK.length<=W.gK.length+c
 ms:W'.jT=W.jT
def yH.refl(h:Sf S W)(y:Wk W)(H:wX W):yH S W W 0 0:=⟨h,y,H,jl,jl,rfl⟩
def yH.call{c:Nat}(h:yH S W W' a c)(kd x y)(H:kd=1\/kd=2\/kd=3\/kd=4\/kd=5):yH S W (W'.call kd x y) (a+2) (c+1):=by let⟨L,Q,T,M,_⟩:=JV h.k kd x y H;have:=h.iN;have:=h.cl;exact⟨h.f.call h.k kd x y H,L,h.u.of (Ga _ _ _ _),C,C,M.H h.ms⟩
def yH.kp{c d:Nat}{y:Wd}(h:yH S W W' a c)(k:Kp d W' y)(H:Sf S y)(L:y.B=W'.B):yH S W y (a+d) c:=by have:=h.iN;have:=h.cl;have:=k.iN;have:=k.cl;exact⟨H,k.k,h.u.of L,C,C,k.ms.H h.ms⟩
def yH.round{c:Nat}(h:yH S W W' a c):yH S W W'.round.1 (a+726736) c:=h.kp (PJ h.k) (h.f.round h.k) (Ms _)
def yH.sE{c:Nat}(h:yH S W W' a c):yH S W W'.sE.1 (a+726608) c:=h.kp (Rl h.k) (h.f.sE h.k) (N8 _)
def Cq(S):yH S (Wd.start S.n S.m S.v S.ce) (Wd.start S.n S.m S.v S.ce) 0 0:=yH.refl (Qb S) (OL S) (Qp ..)
def JR(h:yH S W W 0 0):yH S W W.VL 726738 1:=(h.call 1 0 0 (.inl rfl)).round
def JQ(h:yH S W W 0 0):yH S W W.Um 1453346 1:=(JR h).sE
def Tg(h:yH S W W 0 0):yH S W W.VH 2179956 2:=((JQ h).call 2 0 0 (.inr (.inl rfl))).sE
def Vg:∀m∈[1,2,3],∀v∈[1,3,5],∀ce∈[1,2,3,4,5],(Wd.start 1 m v ce).UF=true:=by decide+kernel
def Vh:∀m∈[1,2,3],∀v∈[1,3,5],∀ce∈[1,2,3,4,5],(Wd.start 2 m v ce).UF=true:=by decide+kernel
def Vi:∀m∈[1,2,3],∀v∈[1,3,5],∀ce∈[1,2,3,4,5],(Wd.start 3 m v ce).UF=true:=by decide+kernel
theorem GJ(kd)(Y:kd=1\/kd=2\/kd=3\/kd=4\/kd=5)(h:jG w gH g W V)(Z:Wk W)(hS:W.iN+3<=3000000000)(hC:W.gK.length+1<=9999999)(a b c)(S)(ha:nO a)(hb:nO b)(_hc:nO c)(L:0<W.ac.length):iB 34 #[O g,.agg #[I kd,I a,I b,I c,.string S]] w (Dz w gH g (W.call kd a b)):=by
 let⟨W0,q,a0,M,a2,H⟩:=rJ h ⟨kd,a,b,c,S⟩;simp only at M;have y:=H.c;simp only at y;let⟨q0,q1,q2,q3⟩:=lV y 0 1 2 3 rfl;have lq:=H.l;let⟨HB,HC⟩:=gO H (zy H.hx Z hS hC kd a b Y ha hb L);clear h Z H y;obtain rfl|rfl|rfl|rfl|rfl:=Y;all_goals
  go_enter func34,ntmps34;go_wp2_with(go_at_call 28;refine HC.L ?_;rintro en w9⟨rfl,a1,k9,h9⟩;let⟨Q,T⟩:=gO k9 h9;clear k9 h9);go_ret;exact Dz.of HB.k Q (by unfold Pc Pg;omega) T
theorem MT(h:jG w gH g W V)(hW:Wk W)(hS:W.iN+2<=3000000000)(hC:W.gK.length<=9999999)(a b c)(S)(ha:nO a)(hb:nO b)(hc:nO c)(a5:0<W.ac.length):iB 34 #[O g,.agg #[I 6,I a,I b,I c,.string S]] w (Dz w gH g (W.ld a b (W.tok c))):=by
 let⟨W0,q,y,a6,a7,M⟩:=rJ h ⟨6,a,b,c,S⟩;simp only at a6;have H:=M.c;simp only at H;let⟨q0,q1,q2,q3⟩:=lV H 0 1 2 3 rfl;have lq:=M.l;let⟨HB,HG⟩:=gO M λt=>λWm (a0:Nat->Nat) (hm:jG Wm a0 g W V)=>EX hm hW hS hC a b t ha hb a5;by_cases h8:c.tmod 8=0
 .have ht:W.tok c=c:=by unfold Wd.tok;rw[aE h8]
  rw[ht];have HC:=gP (HG c W0 y M.hx);clear h hW M H HG ht;go_enter func34,ntmps34;go_wp2_with(go_at_call 29;refine HC.L ?_;rintro en w9⟨rfl,a1,k9,h9⟩;let⟨Q,T⟩:=gO k9 h9;clear k9 h9);go_ret;exact Dz.of HB.k Q (by unfold Pg;omega) T
 have ht:W.tok c=iL c (W.lM+1):=by unfold Wd.tok;rw[az h8]
 rw[ht];have ec:((W.lM:Nat):Int)=(W.n:Int)*W.ce:=by show((W.n*W.ce:Nat):Int)=_;simp
 have a2:W.lM<=48:=Fm hW.n1.2 hW.c1.2;have Y:=gP (uG M.hx hW);rw[<-ec]at Y;have HP:=gP λWm=>j5 c ((W.lM+1:Nat):Int) Wm hc.1 hc.2 C C;rw[kz c (W.lM+1) C]at HP;have s1:IntKind.i64.wrap (((W.lM:Nat):Int)+1)=((W.lM+1:Nat):Int):=vB;let⟨TT,a3⟩:=gJ W.lM;rw[a3]at Y HP s1|-;clear h hW M H ht a2 a3 ec;go_enter func34,ntmps34;go_upto_region 12 with(first|(go_at_call 27;refine gT Y λw3 L=>?_;have a4:=gP L;let⟨a8,a9⟩:=L.B lq q1 q2;have aa:=af lq L.lt;clear L)|(go_at_call 15;refine gT (HP _) λw' Z=>?_;have Z:=Z.symm;subst Z));have HC:=gP (HG (iL c (TT+1)) w3 y (HB.hx.bl (gI:=y) a4 λ_ _=>rfl));go_wp2_with(go_at_call 29;refine HC.L ?_;rintro en w9⟨rfl,a1,k9,h9⟩;let⟨Q,T⟩:=gO k9 h9;clear k9 h9);go_ret;exact Dz.of (HB.k.H (jB.A (gI:=y) a4 λ_ _=>rfl)) Q (by unfold Pg;omega) T
theorem Qx(h:jG w gH g W V)(Z:Wk W)(hS:Sw W)(a b c)(S)(ha:nO a)(_hb:nO b)(_hc:nO c)(M:0<W.ac.length):iB 34 #[O g,.agg #[I 7,I a,I b,I c,.string S]] w (Dz w gH g (W.kU (iL a (W.pl.length+W.ac.length)))):=by
 let⟨W0,q,a0,Q,a2,H⟩:=rJ h ⟨7,a,b,c,S⟩;simp only at Q;have y:=H.c;simp only at y;let⟨q0,q1,q2,q3⟩:=lV y 0 1 2 3 rfl;have lq:=H.l;have HB:=gP H;have L:pk a ((W.pl.length:Int)+(W.ac.length:Int))=(iL a (W.pl.length+W.ac.length):Int):=by have:=kz a (W.pl.length+W.ac.length) C;rw[<-this];simp
 have HC:=gP (Kg H.hx Z hS a ha.1 ha.2 _ L M);have a3:=h.ht;clear h Z H y L;go_enter func34,ntmps34;go_wp2_with(go_at_call 65;refine HC.L ?_;rintro en w9⟨rfl,a1,k9,V9,_,h9⟩;let⟨T,Y⟩:=gO k9 h9;clear k9 h9);go_ret;exact Dz.of HB.k T (by unfold Po;omega) ⟨_,Y⟩
theorem MQ(h:jG w gH g W V)(T:Wk W)(a b c)(S)(_ha:nO a)(_hb:nO b)(_hc:nO c)(_hka:0<W.ac.length):iB 34 #[O g,.agg #[I 16,I a,I b,I c,.string S]] w (Dz w gH g (W.kS)):=by
 let⟨W0,q,Y,L,a0,H⟩:=rJ h ⟨16,a,b,c,S⟩;simp only at L;have y:=H.c;simp only at y;let⟨q0,q1,q2,q3⟩:=lV y 0 1 2 3 rfl;have lq:=H.l;let⟨HB,HC⟩:=gO H (zi H.hx T);clear h T H y;go_enter func34,ntmps34;go_wp2_with(go_at_call 38;refine HC.L ?_;rintro en w9⟨rfl,Z,k9,h9⟩;let⟨M,Q⟩:=gO k9 h9;clear k9 h9);go_ret;exact Dz.of HB.k M C Q
theorem GQ(h:jG w gH g W V)(Z:Wk W)(hS:Sw W)(L:GA W.jT)(a b c)(S)(ha:nO a)(_hb:nO b)(_hc:nO c)(M:0<W.ac.length):iB 34 #[O g,.agg #[I 17,I a,I b,I c,.string S]] w (Dz w gH g (W.vm a b S)):=by
 let⟨W0,q,a0,Q,a2,H⟩:=rJ h ⟨17,a,b,c,S⟩;simp only at Q;have y:=H.c;simp only at y;let⟨q0,q1,q2,q3⟩:=lV y 0 1 2 3 rfl;have lq:=H.l;let⟨HB,HC⟩:=gO H (MJ H.hx Z hS L M 17 a b c ha S);have q4:W0.cell? (U q 4)=some (.string S):=ax W0 q 4 _ 56 (0,0) y;clear h Z H y;go_enter func34,ntmps34;go_wp2_with(go_at_call 67;refine HC.L ?_;rintro en w9⟨rfl,a1,k9,h9⟩;let⟨T,Y⟩:=gO k9 h9;clear k9 h9);go_ret;exact Dz.of HB.k T (by unfold Ph;omega) Y
theorem Nw(h:jG w gH g W V)(T:Wk W)(hS:W.iN+1<=3000000000)(hC:W.gK.length<=9999999)(kd)(hk:kd<1\/18<kd)(a b c)(S)(_ha:nO a)(_hb:nO b)(_hc:nO c)(_hka:0<W.ac.length):iB 34 #[O g,.agg #[I kd,I a,I b,I c,.string S]] w (Dz w gH g (W.ni.js)):=by
 let⟨W0,q,Y,L,a0,H⟩:=rJ h ⟨kd,a,b,c,S⟩;simp only at L;have y:=H.c;simp only at y;let⟨q0,q1,q2,q3⟩:=lV y 0 1 2 3 rfl;have lq:=H.l;have HB:=gP H;have HC:=gP (ot (W:=W.ni) (H.hx.D (a:=W.iN+1) oC) T.D (by show W.iN+1<=_;omega) (by show W.gK.length<=_;omega));have n1:¬kd=1:=C;have n2:¬kd=2:=C;have n3:¬kd=3:=C;have n4:¬kd=4:=C;have n5:¬kd=5:=C;have n6:¬kd=6:=C;have n7:¬kd=7:=C;have n8:¬kd=8:=C;have n9:¬kd=9:=C;have a1:¬kd=10:=C;have a2:¬kd=11:=C;have a3:¬kd=12:=C;have a4:¬kd=13:=C;have a5:¬kd=14:=C;have a6:¬kd=15:=C;have a7:¬kd=16:=C;have a8:¬kd=17:=C;have a9:¬kd=18:=C;clear hk;clear h T H y;go_enter func34,ntmps34;go_wp2_with(go_at_call 53;refine HC.L ?_;rintro en w9⟨rfl,Z,k9,h9⟩;let⟨M,Q⟩:=gO k9 h9;clear k9 h9);go_ret;exact Dz.of HB.k M (by unfold Ia;omega) Q
theorem GK(h:jG w gH g W V)(hW:Wk W)(hS:Sw W)(a b c:Int)(S:ByteArray)(ha:nO a)(hb:nO b)(_hc:nO c)(_hka:0<W.ac.length):iB 34 #[O g,.agg #[I 12,I a,I b,I c,.string S]] w λen w'=>∃j,(∀P,W.pl[iL a W.pl.length]?=some P->j<P.part.hl)/\Dz w gH g (match W.pl[iL a W.pl.length]? with|none=>W|some P=>if P.up then W.oz (iL a W.pl.length) P j else W) en w':=by
 let⟨W0,q,M,ad,ap,Q⟩:=rJ h ⟨12,a,b,c,S⟩;simp only at ad;have T:=Q.c;simp only at T;let⟨q0,q1,q2,q3⟩:=lV T 0 1 2 3 rfl;have lq:=Q.l;have HB:=gP Q;let⟨i,hi⟩:=gJ (iL a W.pl.length);have a2:0<W.pl.length:=by have:=hW.pl;have:0<W.n*W.m:=dQ hW.n1.1 hW.m1.1;omega
 have ag:i<W.pl.length:=by rw[<-hi];exact kB a a2
 have aq:=h.b;have a3:=gP λWm=>j5 a W.pl.length Wm ha.1 ha.2 C C;rw[kz a _ a2,hi]at a3;let⟨P,hP⟩:=mm ag;rw[hi];have ar:(i:Int)<(W.pl.length:Int):=C;obtain⟨pa,pc,a4⟩:=Q.hx.a.row.B;obtain⟨pv,av,lv,cv,hv,mv,ps,aw,ls,cs,tp⟩:=V;simp only at a4;subst a4;obtain⟨pb,rfl,au,a5,a6,a7⟩:=Q.hx.a.row.cells (by show 0<W.pl.length;omega);obtain⟨gi,mk,a8,_⟩:=Q.hx.a.pl i P hP;have d3:=(a6 (i*5+3) (by show i*5+3<W.pl.length*5;omega)).H a8.2.2.2.1;have f3:=a7 (i*5+3);have c4:=Q.hx.cellAt 4 rfl;have a9:=Q.hx.lt;rw[hP];dsimp only;let⟨up,Z⟩:=gJ P.up;rw[Z]at d3;rw[Z];obtain⟨R,hR⟩:∃R:World->Prop,R=λw'=>∃j,(∀P',some P=some P'->j<P'.part.hl)/\∃gI,jB (λt=>t≠0) w gH w' gI/\Wx w' gI g (if up then W.oz i P j else W):=⟨_,rfl⟩;refine Calls.L (R:=λen w'=>en=gX (.bool true)/\R w') ?_ (λen w' e=>by
  let⟨e1,e2⟩:=e
  rw[hR]at e2
  let⟨j,hj,t,k,x⟩:=e2
  exact⟨j,hj,e1,t,k,x⟩)
 have HQ:=gP hR;clear hR;have HA:=gP λWm (aa:Nat->Nat) (Vm:WV) (hm:jG Wm aa g W Vm)=>zL hm hW hS hP b hb;have ai:Hid (0<P.part.hl):=by
  have:=(hW.pk i P hP).part;unfold Hid
  cases hq:P.part with
  |unit ch s l=>rw[hq]at this;exact cJ this.2.2.1
  |voter s l=>rw[hq]at this;exact cJ this.2.2.1
 clear h hW Q T a6 a7 a8 hi hP Z;go_enter func34,ntmps34;go_upto_region 32 with fail;go_cut[10]from 10 to 254 λy wx=>y=I i/\Hid (Bl W0 wx)
 case first=>
  go_region_held3(λY=>Y.cell? (U q 1)=some (I a)/\Y.cell? (U g 4)=some (gN (G pb) W.pl.length pc)) (go_keep) (first|(go_at_call 15;refine gT (a3 _) λw' a0=>?_;have a0:=a0.symm;subst a0;have z0:W0.cell? (U q 1)=some (I a):=q1;have z1:W0.cell? (U g 4)=some (gN (G pb) W.pl.length pc):=c4));all_goals(go_wp2_with fail;go_meet)
  all_goals exact⟨rfl,jg⟩
 obtain⟨rfl,L⟩:=hcut;have aY:=(L.cell a5).H d3;have b0:=(L.cell a9).H c4;have b1:=(L.cell lq).H q2;have am:=af a5 L.lt;have b2:=af a9 L.lt;have b3:=af lq L.lt;have a1:=HB.hx.bl (gI:=M) L λ_ _=>rfl;obtain⟨HC,ak⟩:=gO (HA wc M _ a1) a1;have ab:Hid (jB (λt=>t≠0) w gH wc M):=HB.k.H (jB.A L λ_ _=>rfl);clear a1 HA
 cases up with
 |true=>go_wp2_with(go_at_call 39;refine HC.L ?_;rintro en w9⟨rfl,an,j,hj,k9,h9⟩;let⟨al,ac⟩:=gO k9 (And.intro h9 hj);clear k9 h9 hj);go_ret;refine⟨rfl,?_⟩;rw[HQ.o];refine⟨j,λP' e=>by simp at e;rw[<-e];exact ac.2,?_⟩;exact(Dz.of ab al C ac.1).2
 |false=>go_wp2;go_ret;refine⟨rfl,?_⟩;rw[HQ.o];exact⟨0,λP' e=>by simp at e;rw[<-e];exact ai,M,ab,⟨_,ak⟩⟩
theorem Nl(h:jG w gH g W V)(Y:Wk W)(hS:W.iN+1<=3000000000)(hC:W.gK.length<=9999999)(a b c)(S)(ha:nO a)(_hb:nO b)(_hc:nO c)(_hka:0<W.ac.length):iB 34 #[O g,.agg #[I 13,I a,I b,I c,.string S]] w (Dz w gH g ((W.ni.lD (iL a W.pl.length) false).js)):=by
 let⟨W0,q,y,a9,al,L⟩:=rJ h ⟨13,a,b,c,S⟩;simp only at a9;have Q:=L.c;simp only at Q;let⟨q0,q1,q2,q3⟩:=lV Q 0 1 2 3 rfl;have lq:=L.l;have HB:=gP L;let⟨i,hi⟩:=gJ (iL a W.pl.length);have Z:0<W.pl.length:=by have:=Y.pl;have:0<W.n*W.m:=dQ Y.n1.1 Y.m1.1;omega
 have aa:i<W.pl.length:=by rw[<-hi];exact kB a Z
 have am:=h.b;have a0:=gP λWm=>j5 a W.pl.length Wm ha.1 ha.2 C C;rw[kz a _ Z,hi]at a0;let⟨P,hP⟩:=mm aa;rw[hi];have an:(i:Int)<(W.pl.length:Int):=C;obtain⟨pa,pc,a1⟩:=L.hx.a.row.B;obtain⟨pv,av,lv,cv,hv,mv,ps,aw,ls,cs,tp⟩:=V;simp only at a1;subst a1;obtain⟨pb,rfl,a2,ap,a3,a4⟩:=L.hx.a.row.cells (by show 0<W.pl.length;omega);obtain⟨gi,mk,a5,_⟩:=L.hx.a.pl i P hP;have d3:=(a3 (i*5+3) (by show i*5+3<W.pl.length*5;omega)).H a5.2.2.2.1;have f3:=a4 (i*5+3);have c4:=L.hx.cellAt 4 rfl;have aq:=L.hx.lt;have a6:=L.hx.D (a:=W.iN+1) oC;have HS:=gP (jG.Ui (W:=W.ni) a6 rfl rfl hP false);have a7:=(Wk.lD (W:=W.ni) Y.D i false);have ab:=gP λWm (a8:Nat->Nat) (Vm:WV) (hm:jG Wm a8 g (W.ni.lD i false) Vm)=>ot hm a7 (by show W.iN+1<=_;omega) (by show W.gK.length<=_;omega);have M:=gP a2;clear h Y L Q a3 a4 a5 hi hP a6 a7 a2;go_enter func34,ntmps34;go_upto_block 0 with fail;go_cut[]from 17 to 254 λwx=>∃Vx,Hid (jB (λt=>t=2) W0 y wx y)/\Hid (jG wx y g (W.ni.lD i false) Vx)
 case first=>
  go_upto_region 35 with fail;go_region_with(go_at_call 15;refine gT (a0 _) λw' T=>?_;have T:=T.symm;subst T);all_goals(go_wp2_with fail;go_meet)
  all_goals(first|exact⟨_,kn M _ _,HS⟩|exact⟨_,(kn M _ _).H (jB.A (jC.drew) λ_ _=>rfl),HS.bl (jC.drew) λ_ _=>rfl⟩)
 let⟨Vx,ac,ad⟩:=hcut;have HC:=gP (ab wc y Vx ad);go_wp2_with(go_at_call 53;refine HC.L ?_;rintro en w9⟨rfl,ak,k9,h9⟩;let⟨ag,ai⟩:=gO k9 h9;clear k9 h9);go_ret;exact Dz.of (HB.k.H (ac.L λt e=>C)) ag (by unfold Ia;omega) ai
theorem GM(h:jG w gH g W V)(Z:Wk W)(hS:W.iN+1<=3000000000)(hC:W.gK.length<=9999999)(a b c:Int)(S:ByteArray)(ha:nO a)(hb:nO b)(_hc:nO c)(_hka:0<W.ac.length):iB 34 #[O g,.agg #[I 14,I a,I b,I c,.string S]] w λen w'=>∃j,(∀P,W.pl[iL a W.pl.length]?=some P->j<P.part.hl)/\Dz w gH g (match W.pl[iL a W.pl.length]? with|none=>W|some P=>if P.up then W.ni.js else W.oz (iL a W.pl.length) {P with up:=true} j) en w':=by
 let⟨W0,q,tag0,b0,b8,Q⟩:=rJ h ⟨14,a,b,c,S⟩;simp only at b0;have a0:=Q.c;simp only at a0;let⟨q0,q1,q2,q3⟩:=lV a0 0 1 2 3 rfl;have lq:=Q.l;have HB:=gP Q;let⟨i,hi⟩:=gJ (iL a W.pl.length);have a6:0<W.pl.length:=by have:=Z.pl;have:0<W.n*W.m:=dQ Z.n1.1 Z.m1.1;omega
 have a7:i<W.pl.length:=by rw[<-hi];exact kB a a6
 have b9:=h.b;have a8:=gP λWm=>j5 a W.pl.length Wm ha.1 ha.2 C C;rw[kz a _ a6,hi]at a8;let⟨P,hP⟩:=mm a7;rw[hi];have ba:(i:Int)<(W.pl.length:Int):=C;obtain⟨pa,pc,a9⟩:=Q.hx.a.row.B;obtain⟨pv,av,lv,cv,hv,mv,ps,aw,ls,cs,tp⟩:=V;simp only at a9;subst a9;obtain⟨pb,rfl,aa,a1,ab,ac⟩:=Q.hx.a.row.cells (by show 0<W.pl.length;omega);obtain⟨gi,mk,ad,_⟩:=Q.hx.a.pl i P hP;have d3:=(ab (i*5+3) (by show i*5+3<W.pl.length*5;omega)).H ad.2.2.2.1;have f3:=ac (i*5+3);have c4:=Q.hx.cellAt 4 rfl;have ag:=Q.hx.lt;rw[hP];dsimp only;let⟨up,a2⟩:=gJ P.up;rw[a2]at d3;rw[a2];obtain⟨R,hR⟩:∃R:World->Prop,R=λw'=>∃j,(∀P',some P=some P'->j<P'.part.hl)/\∃gI,jB (λt=>t≠0) w gH w' gI/\Wx w' gI g (if up then W.ni.js else W.oz i {P with up:=true} j):=⟨_,rfl⟩;refine Calls.L (R:=λen w'=>en=gX (.bool true)/\R w') ?_ (λen w' e=>by
  let⟨e1,e2⟩:=e
  rw[hR]at e2
  let⟨j,hj,t,k,x⟩:=e2
  exact⟨j,hj,e1,t,k,x⟩)
 have HQ:=gP hR;clear hR;have b1:=gP λWm (M:Nat->Nat) (Vm:WV) (hm:jG Wm M g W.ni Vm)=>ot hm Z.D (by show W.iN+1<=_;omega) (by show W.gK.length<=_;omega);have ai:=Z.lD i true;have ak:(W.lD i true).pl[i]?=some {P with up:=true}:=by show(W.pl.modify i _)[i]?=_;rw[rK hP,aQ a7]
 have al:∀j,({W.lD i true with iN:=(W.lD i true).iN+1,pl:=(W.lD i true).pl.set i (({P with up:=true}:Pl).px j)}:Wd)=W.oz i {P with up:=true} j:=λj=>by unfold Wd.oz Wd.lD;dsimp only;rw[rK hP,fk]
 have HA:=gP λWm (M:Nat->Nat) (Vm:WV) (hm:jG Wm M g (W.lD i true) Vm)=>zL hm ai ⟨by show W.iN<=_;omega,hC⟩ ak b hb;let⟨b2,HS⟩:=gO al λWm (hm:jG Wm tag0 g W ⟨gN (G pb) W.pl.length pc,av,lv,cv,hv,mv,ps,aw,ls,cs,tp⟩)=>jG.Ui hm rfl rfl hP true;have b3:Hid (0<P.part.hl):=by
  have:=(Z.pk i P hP).part;unfold Hid
  cases hq:P.part with
  |unit ch s l=>rw[hq]at this;exact cJ this.2.2.1
  |voter s l=>rw[hq]at this;exact cJ this.2.2.1
 have am:=gP aa;clear h Z Q a0 ab ac ad hi hP a2 ai ak al aa;go_enter func34,ntmps34;go_upto_region 37 with fail;go_cut[11]from 11 to 254 λy wx=>y=I i/\Hid (Bl W0 wx)
 case first=>
  go_region_held3(λY=>Y.cell? (U q 1)=some (I a)/\Y.cell? (U g 4)=some (gN (G pb) W.pl.length pc)) (go_keep) (first|(go_at_call 15;refine gT (a8 _) λw' a3=>?_;have a3:=a3.symm;subst a3;have z0:W0.cell? (U q 1)=some (I a):=q1;have z1:W0.cell? (U g 4)=some (gN (G pb) W.pl.length pc):=c4));all_goals(go_wp2_with fail;go_meet)
  all_goals exact⟨rfl,jg⟩
 obtain⟨rfl,L⟩:=hcut;have bb:=(L.cell a1).H d3;have bc:=(L.frozen a1).H f3;have bd:=(L.cell ag).H c4;have be:=(L.cell lq).H q2;have b6:=af a1 L.lt;have bg:=af ag L.lt;have b4:=af lq L.lt;have an:=HB.hx.bl (gI:=tag0) L λ_ _=>rfl;have ap:Hid (jB (λt=>t≠0) w gH wc tag0):=HB.k.H (jB.A L λ_ _=>rfl);have aq:=gP an;clear an
 cases up with
 |true=>have HC:=gP (b1 wc tag0 _ (aq.D (a:=W.iN+1) oC));go_wp2_with(go_at_call 53;refine HC.L ?_;rintro en w9⟨rfl,ar,k9,h9⟩;let⟨a4,T⟩:=gO k9 h9;clear k9 h9);go_ret;refine⟨rfl,?_⟩;rw[HQ.o];refine⟨0,λP' e=>by simp at e;rw[<-e];exact b3,?_⟩;exact(Dz.of ap a4 (by unfold Ia;omega) T).2
 |false=>
  have a5:=HS wc aq;let⟨W5,au⟩:=gJ (wc.setCell (U pb (i*5+3)) (.bool true));have k5:jB (λt=>t=2) wc tag0 W5 tag0:=by rw[<-au];exact kn am _ _
  have b7:W5.cell? (U q 2)=some (I b):=by have hh:=(L.heap lq).H HB.c;exact ax W5 q 2 _ 56 (0,0) (k5.heap hh HB.t C).1
  have bi:=af b4 k5.size;rw[au]at a5;obtain⟨HC,b5⟩:=gO (HA W5 tag0 _ a5) k5;clear a5 k5;go_wp2_with(go_at_call 39;refine HC.L ?_;rintro en w9⟨rfl,ar,j,hj,k9,h9⟩;let⟨a4,T⟩:=gO k9 (And.intro h9 hj);clear k9 h9 hj);go_ret;have aY:=T.1;rw[b2.o]at aY;refine⟨rfl,?_⟩;rw[HQ.o];refine⟨j,λP' e=>by simp at e;rw[<-e];exact T.2,?_⟩;exact(Dz.of (ap.H (b5.L λt e=>C)) a4 C aY).2
theorem IX(h:jG w gH g W V)(hW:Wk W)(hS:W.iN+1<=3000000000)(hC:W.gK.length<=9999999)(hu:∀A,W.ac[0]?=some A->A.up=true)(a b c)(S)(ha:nO a)(_hb:nO b)(_hc:nO c)(a3:0<W.ac.length):iB 34 #[O g,.agg #[I 15,I a,I b,I c,.string S]] w (Dz w gH g ((W.ni.left (iL a W.ac.length)).js)):=by
 let⟨W0,q,L,ag,b0,Q⟩:=rJ h ⟨15,a,b,c,S⟩;simp only at ag;have Z:=Q.c;simp only at Z;let⟨q0,q1,q2,q3⟩:=lV Z 0 1 2 3 rfl;have lq:=Q.l;have HB:=gP Q;let⟨i,hi⟩:=gJ (iL a W.ac.length);have ai:i<W.ac.length:=by rw[<-hi];exact kB a a3
 have b1:=h.an;have a4:=gP λWm=>j5 a W.ac.length Wm ha.1 ha.2 C C;rw[kz a _ a3,hi]at a4;let⟨A,hA⟩:=mm ai;rw[hi];have b2:(i:Int)<(W.ac.length:Int):=C;obtain⟨pa,pc,a5⟩:=Q.hx.B.row.B;obtain⟨pv,av,lv,cv,hv,mv,ps,aw,ls,cs,tp⟩:=V;simp only at a5;subst a5;obtain⟨ab,rfl,KA,a0,a6,a7⟩:=Q.hx.B.row.cells (by show 0<W.ac.length;omega);obtain⟨p,qb,a8,ak⟩:=Q.hx.B.ac i A hA;have d2:=(a6 (i*3+2) (by show i*3+2<W.ac.length*3;omega)).H a8.2.2;have f2:=a7 (i*3+2);have c5:=Q.hx.cellAt 5 rfl;have a9:=Q.hx.lt;have HS:Hid (∀(bz:Bool),(i==0)=bz->∀Wm,jG Wm L g W.ni ⟨pv,gN (G ab) W.ac.length pc,lv,cv,hv,mv,ps,aw,ls,cs,tp⟩->∃V',jG (Wm.setCell (U ab (i*3+2)) (.bool bz)) L g (W.ni.left i) V'):=λbz T Wm hm=>by have:=jG.Tu (W:=W.ni) hm rfl rfl hA;rw[T]at this;exact⟨_,this⟩
 have aa:=Wk.left (W:=W.ni) hW.D hu i;have al:=gP λWm (ac:Nat->Nat) (Vm:WV) (hm:jG Wm ac g (W.ni.left i) Vm)=>ot hm aa (by show W.iN+1<=_;omega) (by show W.gK.length<=_;omega);have ad:=gP KA;clear h hW Q Z a6 a7 a8 hi hA ak aa KA hu;go_enter func34,ntmps34;go_upto_region 42 with fail;go_cut[12]from 12 to 254 λy wx=>y=I i/\Hid (Bl W0 wx)
 case first=>
  go_region_held3(λY=>Y.cell? (U q 1)=some (I a)/\Y.cell? (U g 5)=some (gN (G ab) W.ac.length pc)) (go_keep) (first|(go_at_call 15;refine gT (a4 _) λw' a1=>?_;have a1:=a1.symm;subst a1;have z0:W0.cell? (U q 1)=some (I a):=q1;have z1:W0.cell? (U g 5)=some (gN (G ab) W.ac.length pc):=c5));all_goals(go_wp2_with fail;go_meet)
  all_goals exact⟨rfl,jg⟩
 obtain⟨rfl,M⟩:=hcut;have b3:=(M.cell a0).H d2;have b4:=(M.frozen a0).H f2;have b5:=(M.cell a9).H c5;have au:=af a0 M.lt;have b6:=af a9 M.lt;have am:=gP ((HB.hx.bl (gI:=L) M λ_ _=>rfl).D (a:=W.iN+1) oC);have an:Hid (jB (λt=>t≠0) w gH wc L):=HB.k.H (jB.A M λ_ _=>rfl);have T:(i==0)=((i:Int)==0):=by
  by_cases e:i=0
  .subst e;rfl
  have e':¬((i:Int)=0):=C;rw[beq_false_of_ne e,beq_false_of_ne e']
 obtain⟨V5,h5⟩:=HS _ T wc am;clear T;go_upto_region 55 with fail;let⟨W5,a2⟩:=gJ (wc.setCell (U ab (i*3+2)) (.bool ((i:Int)==0)));have ap:Hid (jB (λt=>t=3) wc L W5 L):=by rw[<-a2];exact kn ad _ _
 rw[a2]at h5;have HC:=gP (al W5 L V5 h5);rw[a2];clear h5;go_wp2_with(go_at_call 53;refine HC.L ?_;rintro en w9⟨rfl,aY,k9,h9⟩;let⟨aq,ar⟩:=gO k9 h9;clear k9 h9);go_ret;exact Dz.of (an.H (ap.L λt e=>C)) aq (by unfold Ia;omega) ar
theorem Lh(h:jG w gH g W V)(hW:Wk W)(hS:W.iN+1<=3000000000)(hC:W.gK.length<=9999999)(a b c)(S)(ha:nO a)(_hb:nO b)(_hc:nO c)(ag:0<W.ac.length):iB 34 #[O g,.agg #[I 11,I a,I b,I c,.string S]] w (Dz w gH g ((W.ni.kO (iL a W.ac.length)).js)):=by
 let⟨W0,q,L,b2,b9,Z⟩:=rJ h ⟨11,a,b,c,S⟩;simp only at b2;have a4:=Z.c;simp only at a4;let⟨q0,q1,q2,q3⟩:=lV a4 0 1 2 3 rfl;have lq:=Z.l;have HB:=gP Z;let⟨i,hi⟩:=gJ (iL a W.ac.length);have b3:i<W.ac.length:=by rw[<-hi];exact kB a ag
 have ba:=h.an;have ai:=gP λWm=>j5 a W.ac.length Wm ha.1 ha.2 C C;rw[kz a _ ag,hi]at ai;let⟨A,hA⟩:=mm b3;rw[hi];have bb:(i:Int)<(W.ac.length:Int):=C;obtain⟨pa,pc,ak⟩:=Z.hx.B.row.B;obtain⟨pv,av,lv,cv,hv,mv,ps,aw,ls,cs,tp⟩:=V;simp only at ak;subst ak;obtain⟨Q,rfl,KA,bc,a0,al⟩:=Z.hx.B.row.cells (by show 0<W.ac.length;omega);obtain⟨p,qb,T,b4⟩:=Z.hx.B.ac i A hA;have d2:=(a0 (i*3+2) (by show i*3+2<W.ac.length*3;omega)).H T.2.2;have f2:=al (i*3+2);have c5:=Z.hx.cellAt 5 rfl;have bd:=Z.hx.lt;have d0:=(a0 (i*3) (by show i*3<W.ac.length*3;omega)).H T.1;have d1:=(a0 (i*3+1) (by show i*3+1<W.ac.length*3;omega)).H T.2.1;have am:Sw W.ni:=⟨hS,hC⟩;have b5:Hid (∀Wm (M:Nat->Nat),jG Wm M g W ⟨pv,gN (G Q) W.ac.length pc,lv,cv,hv,mv,ps,aw,ls,cs,tp⟩->iB 57 #[O p] Wm λen w'=>en=iw/\∃gI,jB (Mc (100+32*i)) Wm M w' gI/\jG w' gI g (W.ni.qi i A.X.nM) ⟨pv,gN (G Q) W.ac.length pc,lv,cv,hv,mv,ps,aw,ls,cs,tp⟩):=λWm M hm=>by
  obtain⟨p',be,a1,an⟩:=hm.B.ac i A hA;have b6:p'=p:=by have e1:=a1.2.1.symm.H T.2.1;simpa using e1
  subst b6;exact Ag (W:=W.ni) (hm.D (a:=W.iN+1) oC) hW.D am hA a1 an
 let⟨t1,t2,t3,_,_,t6⟩:=sf (W:=W.ni) hW.D i;have a5:W.ni.kO i=if A.up then W.ni.qi i A.X.nM else W.ni:=by unfold Wd.kO;rw[show W.ni.ac[i]?=some A from hA]
 have a6:=gP λWm (M:Nat->Nat) (Vm:WV) (hm:jG Wm M g (W.ni.kO i) Vm)=>ot hm t1 (by have:W.ni.iN=W.iN+1:=rfl;omega) (by rw[t6];show W.gK.length<=_;omega);let⟨a7,a2⟩:=gJ (kg i);rw[a2]at d0;let⟨up,ap⟩:=gJ A.up;rw[ap]at d2 a5;have a8:=gP a5;let⟨WT,aq⟩:=gJ (W.ni.kO i);rw[aq]at a6 a8|-;clear h hW Z a4 a0 al T hi hA b4 KA am t1 t2 t3 t6 a5 ap a2 aq;go_enter func34,ntmps34;go_upto_region 28 with fail;go_cut[9]from 9 to 254 λy wx=>∃gb,y= O gb/\Hid (Bl W0 wx/\W0.heap.size<=gb/\wx.heap[gb]?=some (im #[I a7,O p,.bool up] 129 (0,0)))
 case first=>
  go_region_held3(λY=>Y.cell? (U q 1)=some (I a)/\Y.cell? (U g 5)=some (gN (G Q) W.ac.length pc)/\Y.cell? (U Q (i*3))=some (I a7)/\Y.cell? (U Q (i*3+1))=some (O p)/\Y.cell? (U Q (i*3+2))=some (.bool up)) (go_keep) (first|(go_at_call 15;refine gT (ai _) λw' a9=>?_;have a9:=a9.symm;subst a9;have z0:W0.cell? (U q 1)=some (I a):=q1;have z1:W0.cell? (U g 5)=some (gN (G Q) W.ac.length pc):=c5;have z2:W0.cell? (U Q (i*3))=some (I a7):=d0;have z3:W0.cell? (U Q (i*3+1))=some (O p):=d1;have z4:W0.cell? (U Q (i*3+2))=some (.bool up):=d2));all_goals(go_wp2_with fail;go_meet)
  all_goals(refine⟨_,rfl,?_,jl,ao _ _⟩;(first|exact(jC.alloc _).drew|exact(jC.drew).alloc _|exact jC.alloc _))
 obtain⟨gb,rfl,HG⟩:=hcut;have bg:gb<wc.heap.size:=(ae.1 HG.2.2).1;let⟨e1,e2⟩:=qJ HG.2.2 1 2 rfl;have ar:=gP (HB.hx.bl (gI:=L) HG.1 λ_ _=>rfl);have au:Hid (jB (λt=>t≠0) w gH wc L):=HB.k.H (jB.A HG.1 λ_ _=>rfl)
 cases up with
 |true=>have HC:=gP (b5 wc L ar);go_upto_region 55 with(go_at_call 57;refine HC.L ?_;rintro en w5⟨rfl,aY,k5,h5⟩;let⟨b7,b8⟩:=gO k5 h5;clear k5 h5);have aa:=b8.o;rw[<-show WT=W.ni.qi i A.X.nM from a8.o]at aa;have HD:=gP (a6 w5 aY _ aa);clear aa;go_wp2_with(go_at_call 53;refine HD.L ?_;rintro en w9⟨rfl,b0,k9,h9⟩;let⟨ac,ad⟩:=gO k9 h9;clear k9 h9);go_ret;exact Dz.of (au.H (b7.L λt e=>by unfold Mc at e;omega)) ac (by unfold Ia;omega) ad
 |false=>
  have b1:=ar.D (a:=W.iN+1) oC;have a3:jG wc L g WT ⟨pv,gN (G Q) W.ac.length pc,lv,cv,hv,mv,ps,aw,ls,cs,tp⟩:=by rw[show WT=W.ni from a8.o];exact b1
  have HD:=gP (a6 wc L _ a3);clear b1 a3;go_wp2_with(go_at_call 53;refine HD.L ?_;rintro en w9⟨rfl,b0,k9,h9⟩;let⟨ac,ad⟩:=gO k9 h9;clear k9 h9);go_ret;exact Dz.of au ac (by unfold Ia;omega) ad
def jG.PG{Z:World}(h:jG w gH g W V)(Y:Bl w Z)(hi:i<W.iA.length){v':Value}(Q:Z.ownsRow w.heap.size 138 3 v' (W.iA.length-1) (V.ls.take (i*3)++V.ls.drop ((i+1)*3))):∃tag2,jB (λt=>t=1) w gH (Z.setCell (U g 6) v') tag2/\jG (Z.setCell (U g 6) v') tag2 g {W with iA:=W.iA.eraseIdx i} {V with lv:=v',ls:=V.ls.take (i*3)++V.ls.drop ((i+1)*3)}:=by
 have lw:=h.lt;have l1:=Y.lt;have n1:=h.b;have n2:=h.an;have n3:=h.ht;obtain⟨tag2,a2⟩:∃tag2:Nat->Nat,tag2=λb=>if b<w.heap.size then gH b else V.tp:=⟨_,rfl⟩
 have a0:∀b,b<w.heap.size->tag2 b=gH b:=λb Y=>by rw[a2];simp[Y]
 have a3:∀b,w.heap.size<=b->tag2 b=V.tp:=λb Y=>by rw[a2];dsimp only;rw[az C]
 have oQ:gL (λb=>gH b=1) w (Z.setCell (U g 6) v'):=(gL.B Y).setCell (U g 6) (.inl h.tg) _;have k:jB (λt=>t=1) w gH (Z.setCell (U g 6) v') tag2:=⟨oQ,a0⟩;have a4:Z.heap[g]?=some (im (D6 W V).toArray 66 (0,0)):=(Y.heap lw).H h.hg;have hl:V.ls.length=W.iA.length*3:=h.po.row.ie.1;have a5:(W.iA.eraseIdx i).length=W.iA.length-1:=List.length_eraseIdx_of_lt hi;refine⟨tag2,k,jx 6 _ Z _ a4,(a0 g lw).H h.tg,h.a.A k C λi _ _=>C,h.B.A k C λi _ _=>C,h.ca.A k C C λi _=>C,⟨⟨?_,λb Y=>a3 b (Q.lt b Y).1⟩,λj y hy=>?_⟩,h.ha.A k C,h.ms.A k C,n1,n2,n3⟩
 .show World.ownsRow _ 0 138 3 v' (W.iA.eraseIdx i).length _;rw[a5];refine lY (gZ Q λ_ _=>ju) λb Y=>Z8 _ _ _ _ λe=>gY Q a4 gF (jS Y e)
 have T:(W.iA.eraseIdx i)[j]?=some y:=hy;rw[List.getElem?_eraseIdx]at T;have a1:∀(M k0:Nat),k0<3->(if j<i then M=j else M=j+1)->(V.ls.take (i*3)++V.ls.drop ((i+1)*3))[j*3+k0]?=V.ls[M*3+k0]?:=λM k0 hk L=>by
  by_cases e:j<i
  .rw[aE e]at L;subst L;rw[aB (by rw[bH];omega),dX C]
  rw[az e]at L;subst L;rw[aC (by rw[bH];omega),bH,du];congr 1;omega
 obtain⟨M,L,a6⟩:∃M,(if j<i then M=j else M=j+1)/\W.iA[M]?=some y:=by
  by_cases e:j<i
  .rw[aE e]at T;exact⟨j,by rw[aE e],T⟩
  rw[az e]at T;exact⟨j+1,by rw[az e],T⟩
 obtain⟨e1,e2,dv,e3,e4⟩:=h.po.l M y a6;have q0:=a1 M 0 C L;have q1:=a1 M 1 C L;have q2:=a1 M 2 C L;exact⟨jJ e1 q0,jJ e2 q1,dv,jJ e3 q2,e4.A k C⟩
def so.one{Q:Nat}{T:Value}(h:so w gH Q iA T ls):∀u∈ls,u.oneCell'=true:=λu Y=>by
 obtain⟨x,Z,rfl⟩:=aV.1 Y;have hl:=h.row.ie.1;have y:=ah Z;obtain⟨H,L,dv,M,e4⟩:=h.l (x/3) _ (ah (by omega:x/3<iA.length));have hm:x%3=0\/x%3=1\/x%3=2:=C;obtain hm|hm|hm:=hm
 .rw[show x/3*3=x by omega,y]at H;simp only[aJ]at H;rw[H];rfl
 .rw[show x/3*3+1=x by omega,y]at L;simp only[aJ]at L;rw[L];rfl
 rw[show x/3*3+2=x by omega,y]at M;simp only[aJ]at M;rw[M];obtain⟨a,c,rfl⟩:=e4.B;rfl
theorem Ij(h:jG w gH g W V)(hW:Wk W)(hS:Sw W)(b2:GA W.jT)(a b c:Int)(S:ByteArray)(ha:nO a)(_hb:nO b)(_hc:nO c)(_hka:0<W.ac.length):iB 34 #[O g,.agg #[I 9,I a,I b,I c,.string S]] w (Dz w gH g (match W.nh a with|none=>W|some l=>W.lS l)):=by
 let⟨W0,q,a8,b3,bA,Q⟩:=rJ h ⟨9,a,b,c,S⟩;simp only at b3;have a5:=Q.c;simp only at a5;let⟨q0,q1⟩:=qJ a5 0 1 rfl;have lq:=Q.l;have HB:=gP Q;have b4:=hW.b;obtain⟨pa,pc,am⟩:=Q.hx.po.row.B;obtain⟨pv,av,lv,cv,hv,mv,ps,aw,ls,cs,tp⟩:=V;simp only at am;subst am;have c6:W0.cell? (U g 6)=some (gN pa W.iA.length pc):=Q.hx.cellAt 6 rfl;have a6:=Q.hx.lt;have b5:=hS.1;have hN:W.iA.length<=1000000000000:=C;let⟨N,a7⟩:=gJ W.iA.length;by_cases h0:N=0
 .have a9:W.iA=[]:=aW.1 C;have b6:W.nh a=none:=by unfold Wd.nh;rw[a9];rfl
  rw[b6];rw[a7,h0]at c6;clear h hW Q a5 a9;go_enter func34,ntmps34;go_wp2;go_ret;exact⟨rfl,a8,HB.k,⟨_,HB.hx⟩⟩
 have T:0<W.iA.length:=C;let⟨i,hi⟩:=gJ (iL a W.iA.length);have an:i<W.iA.length:=by rw[<-hi];exact kB a T
 have ab:=gP λWm=>j5 a W.iA.length Wm ha.1 ha.2 C C;rw[kz a _ T,hi]at ab;let⟨l,hl⟩:=mm an;have ja:W.nh a=some l:=by unfold Wd.nh;rw[hi];exact hl
 have ac:W.kY a={W with iA:=W.iA.eraseIdx i}:=by unfold Wd.kY;rw[hi]
 rw[ja];dsimp only;clear ac;have ac:=();obtain⟨lb,rfl,bB,ad,Z,b7⟩:=Q.hx.po.row.cells T;obtain⟨e0,e1,dv,e2,ag⟩:=Q.hx.po.l i l hl;have d0:=(Z (i*3) C).H e0;have d1:=(Z (i*3+1) C).H e1;have d2:=(Z (i*3+2) C).H e2;have b8:Hid (∀j,j<W.iA.length*3->W0.cell? (U lb j)=ls[j]?):=Z;have bq:Hid (∀u∈ls,u.oneCell'=true):=Q.hx.po.one;have b9:Hid (ls.length=W.iA.length*3):=Q.hx.po.row.ie.1;obtain⟨_,cap',_,a0,_,_,_,ap,ba⟩:=Q.hx.po.row.block T;have ai:pc=cap':=by simp only[bO]at a0;exact a0.2.2
 subst ai;clear a0;have aq:=hW.po l (aR hl);let⟨HA,HR⟩:=gO (λWm (aa:Nat->Nat) (Vm:WV) (hm:jG Wm aa g W Vm) (hr:Rd Wm aa 98 5 dv (l.pk.bytes.map B8))=>vZ hm hW hS b2 l dv hr aq) ag;let⟨bb,ar⟩:=gJ W.iA.length;have bC:=gP a7;rw[a7]at c6 ab an T hN b8 b9 ap;have bD:(i:Int)<(N:Int):=C;let⟨fr,a1⟩:=gJ l.fr;let⟨tt,a2⟩:=gJ l.tt;rw[a1]at d0;rw[a2]at d1;rw[a1,a2]at HA;obtain⟨da,dc,au⟩:=ag.B;generalize (l.pk.bytes.map B8).length=dn at au;subst au;clear h hW Q a5 Z b7 hi hl ja ac e0 e1 e2 ag aq b4 a7 b5 a1 a2 bb ar;go_enter func34,ntmps34;go_upto_region 20 with fail;go_cut[6]from 6 to 254 λy wx=>y=I i/\Hid (Bl W0 wx)
 case first=>
  go_region_held3(λY=>Y.cell? (U q 1)=some (I a)/\Y.cell? (U g 6)=some (gN (G lb) N pc)) (go_keep) (first|(go_at_call 15;refine gT (ab _) λw' ak=>?_;have ak:=ak.symm;subst ak;have z0:W0.cell? (U q 1)=some (I a):=q1;have z1:W0.cell? (U g 6)=some (gN (G lb) N pc):=c6));all_goals(go_wp2_with fail;go_meet)
  all_goals exact⟨rfl,jg⟩
 obtain⟨rfl,M⟩:=hcut;have bc:=(M.cell a6).H c6;have bd:=(M.cell lq).H q0;let⟨be,bg,bi⟩:=M.D ad d0 d1 d2;have aY:=af ad M.lt;have bl:=af a6 M.lt;have bm:=af lq M.lt;have L:=gP (M.alloc (im #[I fr,I tt,gN da dn dc] 138));have a3:=ao wc (im #[I fr,I tt,gN da dn dc] 138);let⟨W2,al⟩:=gJ (wc.alloc (im #[I fr,I tt,gN da dn dc] 138));let⟨bx,a4⟩:=gJ wc.heap.size;rw[al]at L a3;rw[a4]at a3;let⟨b0,b1,bn⟩:=iz al a4 a3;have bE:=(ae.1 a3).1;clear al a4 a3;go_upto_region 22 with fail;rw[b0.o,b1.o];clear b0;have bs:=(L.cell a6).H c6;have bv:=(L.cell lq).H q0;have bw:=af ad L.lt;have bR:=af a6 L.lt;have bT:=af lq L.lt;clear bc bd be bg bi aY bl bm;let⟨bV,bW,bX⟩:=oR bn 0 1 2 rfl;have HC:=gP (HA W2 (iq a8 W0.heap.size 0) _ (HB.hx.bl L λb hb=>gV _ _ _ _ hb) (HR.bl L λb hb e=>(gV _ _ _ _ hb).H e));go_wp2_with(go_at_call 66;refine HC.L ?_;rintro en w9⟨rfl,bz,k9,h9⟩;let⟨bo,bp⟩:=gO k9 h9;clear k9 h9);go_ret;exact Dz.of (HB.k.H (jB.B L 0)) bo (by unfold Ph;omega) bp
theorem Ef(kd:Int)(hk:kd=8\/kd=10)(h:jG w gH g W V)(hW:Wk W)(hS:Sw W)(c2:GA W.jT)(a b c:Int)(S:ByteArray)(ha:nO a)(_hb:nO b)(_hc:nO c)(_hka:0<W.ac.length):iB 34 #[O g,.agg #[I kd,I a,I b,I c,.string S]] w (Dz w gH g (if kd=8 then(match W.nh a with|none=>W|some l=>(W.kY a).lS l)else W.kY a)):=by
 let⟨W0,q,Q,c3,dg,hB⟩:=rJ h ⟨kd,a,b,c,S⟩;simp only at c3;have ar:=hB.c;simp only at ar;let⟨q0,q1⟩:=qJ ar 0 1 rfl;have lq:=hB.l;have HB:=gP hB;have c4:=hW.b;obtain⟨pa,pc,bv⟩:=hB.hx.po.row.B;obtain⟨pv,av,lv,cv,hv,mv,ps,aw,ls,cs,tp⟩:=V;simp only at bv;subst bv;have c6:W0.cell? (U g 6)=some (gN pa W.iA.length pc):=hB.hx.cellAt 6 rfl;have a3:=hB.hx.lt;have c5:=hS.1;have hN:W.iA.length<=1000000000000:=C;let⟨N,au⟩:=gJ W.iA.length;by_cases h0:N=0
 .have a2:W.iA=[]:=aW.1 C;have c7:W.nh a=none:=by unfold Wd.nh;rw[a2];rfl
  have c8:W.kY a=W:=by unfold Wd.kY;obtain⟨_,_,_,_,_,_,po,_,_,_,_,_⟩:=W;simp only at a2;subst a2;rfl
  rw[show(if kd=8 then(match W.nh a with|none=>W|some l=>(W.kY a).lS l)else W.kY a)=W by rw[c7,c8];split<;>rfl];rw[au,h0]at c6;clear h hW hB ar a2;obtain rfl|rfl:=hk;all_goals
   go_enter func34,ntmps34;go_wp2;go_ret;exact⟨rfl,Q,HB.k,⟨_,HB.hx⟩⟩
 have a4:0<W.iA.length:=C;let⟨i,hi⟩:=gJ (iL a W.iA.length);have bb:i<W.iA.length:=by rw[<-hi];exact kB a a4
 have bc:=gP λWm=>j5 a W.iA.length Wm ha.1 ha.2 C C;rw[kz a _ a4,hi]at bc;let⟨l,hl⟩:=mm bb;have ja:W.nh a=some l:=by unfold Wd.nh;rw[hi];exact hl
 have bw:W.kY a={W with iA:=W.iA.eraseIdx i}:=by unfold Wd.kY;rw[hi]
 rw[ja];dsimp only;have bz:=hW.kY a;rw[bw]at bz|-;obtain⟨lb,rfl,dj,a5,a6,c9⟩:=hB.hx.po.row.cells a4;obtain⟨e0,e1,dv,e2,bd⟩:=hB.hx.po.l i l hl;have d0:=(a6 (i*3) C).H e0;have d1:=(a6 (i*3+1) C).H e1;have d2:=(a6 (i*3+2) C).H e2;have be:Hid (∀j,j<W.iA.length*3->W0.cell? (U lb j)=ls[j]?):=a6;have b4:Hid (∀u∈ls,u.oneCell'=true):=hB.hx.po.one;have aY:Hid (ls.length=W.iA.length*3):=hB.hx.po.row.ie.1;obtain⟨_,cap',_,a7,_,_,_,bA,ca⟩:=hB.hx.po.row.block a4;have bg:pc=cap':=by simp only[bO]at a7;exact a7.2.2
 subst bg;clear a7;have bB:=hW.po l (aR hl);let⟨HA,HR⟩:=gO (λWm (b5:Nat->Nat) (Vm:WV) (hm:jG Wm b5 g {W with iA:=W.iA.eraseIdx i} Vm) (hr:Rd Wm b5 98 5 dv (l.pk.bytes.map B8))=>vZ hm bz ⟨hS.1,hS.2⟩ c2 l dv hr bB) bd;let⟨cb,bC⟩:=gJ W.iA.length;have bD:=gP au;rw[au]at c6 bc bb a4 hN be aY bA;have dk:(i:Int)<(N:Int):=C;let⟨fr,a8⟩:=gJ l.fr;let⟨tt,a9⟩:=gJ l.tt;rw[a8]at d0;rw[a9]at d1;rw[a8,a9]at HA;obtain⟨da,dc,bE⟩:=bd.B;generalize (l.pk.bytes.map B8).length=dn at bE;subst bE;clear h hW hB ar a6 c9 hi hl ja bw e0 e1 e2 bd bB c4 au c5 a8 a9 cb bC;obtain rfl|rfl:=hk;all_goals
  first|rw[aE jQ]|rw[az gF]
  go_enter func34,ntmps34;go_upto_region 20 with fail;go_cut[6]from 6 to 254 λy wx=>y=I i/\Hid (Bl W0 wx)
  case first=>
   go_region_held3(λY=>Y.cell? (U q 1)=some (I a)/\Y.cell? (U g 6)=some (gN (G lb) N pc)) (go_keep) (first|(go_at_call 15;refine gT (bc _) λw' bi=>?_;have bi:=bi.symm;subst bi;have z0:W0.cell? (U q 1)=some (I a):=q1;have z1:W0.cell? (U g 6)=some (gN (G lb) N pc):=c6));all_goals(go_wp2_with fail;go_meet)
   all_goals exact⟨rfl,jg⟩
  obtain⟨rfl,T⟩:=hcut;have cc:=(T.cell a3).H c6;have cd:=(T.cell lq).H q0;let⟨ce,cf,cg⟩:=T.D a5 d0 d1 d2;have bR:=af a5 T.lt;have ch:=af a3 T.lt;have ci:=af lq T.lt;have L:=gP (T.alloc (im #[I fr,I tt,gN da dn dc] 138));have aa:=ao wc (im #[I fr,I tt,gN da dn dc] 138);let⟨W2,bl⟩:=gJ (wc.alloc (im #[I fr,I tt,gN da dn dc] 138));let⟨bx,ab⟩:=gJ wc.heap.size;rw[bl]at L aa;rw[ab]at aa;let⟨bT,b6,ck⟩:=iz bl ab aa;have cl:=(ae.1 aa).1;clear bl ab aa;go_upto_region 22 with fail;rw[bT.o,b6.o];clear bT;have ac:=(L.cell a3).H c6;have bV:=(L.cell lq).H q0;have b7:=af a5 L.lt;have Z:=af a3 L.lt;have ag:=af lq L.lt;clear cc cd ce cf cg bR ch ci;obtain⟨ai,ak,r0,r1,r2⟩:=fx il.KQ;have cn:Hid (0+i<=maxLen):=by unfold Hid;unfold maxLen;omega
  have co:Hid ((0+i)*40<=140737488355328):=lT;have cp:Hid (∀j u,(ls.take (i*3))[j]?=some u->W2.cell? (((U lb 0):Addr).add j)=some u):=λj u hu=>by have hj:=(aj.1 hu).1;rw[bH]at hj;rw[dX C]at hu;rw[mK,bP,L.cell a5,be.o j C];exact hu
  have cq:Hid ((ls.take (i*3)).length=i*3):=by unfold Hid;rw[bH,aY.o];omega
  have cr:Hid (∀u∈ls.take (i*3),u.oneCell'=true):=λu hu=>b4.o u (cQ hu);have d5:¬pc=0:=C;have d6:(i:Int)<=(pc:Int):=C;go_wp2_with(at_builtin;refine wpList_append_own_at _ rfl _ _ 63 rfl W2.heap.size 138 ai _ 3 40 underlying63 ak r0 r1 r2 rfl gF _ 0 [] rfl mT (U lb 0) i pc (ls.take (i*3)) rfl cq cp cr cn co jl ?_);intro v1 w1 o1 g1 _ y1;obtain⟨va,vc,rfl⟩:=(mC.mk (gH:=λ_=>0) (t:=0) (gZ o1 λ_ _=>ju) λ_ _=>rfl).B;have b1:Bl W2 w1:=(gL.A g1).te λk _ e=>ny e;have dl:=(b1.cell Z).H ac;have dt:=(b1.cell ag).H bV;have dw:=af Z b1.lt;have dO:=af ag b1.lt;have dS:=af b7 b1.lt;let⟨al,b0⟩:=gO o1 b1;have s1:IntKind.i64.wrap ((i:Int)+1)=((i+1:Nat):Int):=vB;have b8:Hid (i+(N-(i+1))<=maxLen):=mV;have b9:Hid ((i+(N-(i+1)))*40<=140737488355328):=lT;have ct:Hid (∀j u,(ls.drop ((i+1)*3))[j]?=some u->w1.cell? (((U lb ((i+1)*3)):Addr).add j)=some u):=λj u hu=>by rw[du]at hu;have hj:=(aj.1 hu).1;rw[mK];rw[b0.cell b7,L.cell a5,be.o _ (gS aY.o)];exact hu
  have bm:Hid ((ls.drop ((i+1)*3)).length=(N-(i+1))*3):=by unfold Hid;rw[List.length_drop,aY.o];omega
  have bW:Hid (∀u∈ls.drop ((i+1)*3),u.oneCell'=true):=λu hu=>b4.o u (eC hu);have bX:Hid (W2.heap.size<=w1.heap.size):=b1.lt;clear o1 g1 y1 b1;have d7:((i+1:Nat):Int)<=(N:Int):=C;have d8:(N:Int)<=(pc:Int):=C;have d9:(0:Int)<=((i+1:Nat):Int):=C;obtain⟨Rr,bn⟩:∃Rr:World->Prop,Rr=λwx=>∃M,jB (λt=>t=1) W2 (iq Q W0.heap.size 0) wx M/\Wx wx M g {W with iA:=W.iA.eraseIdx i}/\wx.heap[bx]?=some (im #[I fr,I tt,gN da dn dc] 138 (0,0))/\wx.heap[q]?=W2.heap[q]?:=⟨_,rfl⟩;have ba:Hid (∀(v2:Value) (w2:World),w2.ownsRow W2.heap.size 138 3 v2 (i+(N-(i+1))) (ls.take (i*3)++ls.drop ((i+1)*3))->w1.grownBy w2 (gN va i vc).ownBlock->Rr (w2.setCell (U g 6) v2)):=λv2 w2 o2 g2=>by
   have b2:Bl W2 w2:=b0.A (gL.A g2) λk e=>(al.lt k e.symm).1;have cx:=HB.hx.bl (gI:=iq Q W0.heap.size 0) L λb hb=>gV _ _ _ _ hb;let⟨M,k2,x2⟩:=cx.PG b2 (i:=i) (jk bD.o bb) (v':=v2) (by rw[bD.o,show N-1=i+(N-(i+1)) by omega];exact o2);rw[bn];refine⟨M,k2,⟨_,x2⟩,?_,?_⟩
   .rw[Z8 _ _ _ _ (show bx≠g by have:=T.lt;have:=b6.o;omega),b2.heap cl];exact ck
   rw[Z8 _ _ _ _ (show q≠g from λe=>by have h1:=HB.hx.tg;have h2:=HB.t;rw[e]at h2;omega),b2.heap ag]
  have b3:=gP bn;clear bn;by_cases e3:pc=i+1
  .have cP:Hid (ls.drop ((i+1)*3)=[]):=by unfold Hid;exact aW.1 (pI bm.o)
   have cS:Hid (∀(ad:Addr) j u,(ls.drop ((i+1)*3))[j]?=some u->w1.cell? (ad.add j)=some u):=λad j u hu=>by rw[cP.o]at hu;simp at hu
   go_wp2_with(at_builtin;refine wpList_append_own_at _ rfl _ _ 63 rfl W2.heap.size 138 ai _ 3 40 underlying63 ak r0 r1 r2 rfl gF _ i (ls.take (i*3)) rfl al _ (N-(i+1)) _ (ls.drop ((i+1)*3)) rfl bm (cS _) bW b8 b9 bX ?_);intro v2 w2 o2 g2 _ _;obtain⟨bo,bp,rfl⟩:=(mC.mk (gH:=λ_=>0) (t:=0) (gZ o2 λ_ _=>ju) λ_ _=>rfl).B;have HF:=gP (ba _ w2 o2 g2);have b2:Bl W2 w2:=b0.A (gL.A g2) λk e=>(al.lt k e.symm).1;have fz:w2.frozen? (U g 6)=false:=(b2.frozen Z).H ((L.frozen a3).H (HB.hx.M 6));have cV:=af Z b2.lt;have d3:=(b2.cell Z).H ac;let⟨W5,a0⟩:=gJ (w2.setCell (U g 6) (gN bo (i+(N-(i+1))) bp));rw[a0]at HF;have am:=gP a0;clear a0 o2 g2 b2;go_upto_region 26 with fail;rw[am.o];clear am;have hF:=HF.o;rw[b3.o]at hF;obtain⟨M,k2,x2,x3,x4⟩:=hF;have z0:W5.cell? (U q 0)=some (I _):=ax W5 q 0 _ 56 (0,0) (x4.H ((L.heap lq).H HB.c));have d4:=af ag k2.size;let⟨a1,an,ap⟩:=iz k2 x2 x3;clear x4 x3 x2 k2 HF b3;let⟨x0,x1,x2⟩:=oR ap 0 1 2 rfl;have c0:=(ae.1 ap).1;obtain⟨V2,aq⟩:=an.o;have HC:=gP (HA W5 M V2 aq ((HR.bl L (gI:=iq Q W0.heap.size 0) λb hb e=>(gV _ _ _ _ hb).H e).A a1 C));clear aq;first
   |(go_wp2_with(go_at_call 66;refine HC.L ?_;rintro en w9⟨rfl,c1,k9,h9⟩;let⟨bq,bs⟩:=gO k9 h9;clear k9 h9);go_ret;exact Dz.of ((HB.k.H (jB.B L 0)).H (a1.L λt e=>C)) bq (by unfold Ph;omega) bs)
   |(go_wp2;go_ret;exact⟨rfl,M,(HB.k.H (jB.B L 0)).H (a1.L λt e=>C),an⟩)
  have db:¬((pc:Int)-((i+1:Nat):Int)=0):=C;have dd:¬pc-(i+1)=0:=C;go_wp2_with(at_builtin;refine wpList_append_own_at _ rfl _ _ 63 rfl W2.heap.size 138 ai _ 3 40 underlying63 ak r0 r1 r2 rfl gF _ i (ls.take (i*3)) rfl al (U lb ((i+1)*3)) (N-(i+1)) _ (ls.drop ((i+1)*3)) rfl bm ct bW b8 b9 bX ?_);intro v2 w2 o2 g2 _ _;obtain⟨bo,bp,rfl⟩:=(mC.mk (gH:=λ_=>0) (t:=0) (gZ o2 λ_ _=>ju) λ_ _=>rfl).B;have HF:=gP (ba _ w2 o2 g2);have b2:Bl W2 w2:=b0.A (gL.A g2) λk e=>(al.lt k e.symm).1;have fz:w2.frozen? (U g 6)=false:=(b2.frozen Z).H ((L.frozen a3).H (HB.hx.M 6));have cV:=af Z b2.lt;have d3:=(b2.cell Z).H ac;let⟨W5,a0⟩:=gJ (w2.setCell (U g 6) (gN bo (i+(N-(i+1))) bp));rw[a0]at HF;have am:=gP a0;clear a0 o2 g2 b2;go_upto_region 26 with fail;rw[am.o];clear am;have hF:=HF.o;rw[b3.o]at hF;obtain⟨M,k2,x2,x3,x4⟩:=hF;have z0:W5.cell? (U q 0)=some (I _):=ax W5 q 0 _ 56 (0,0) (x4.H ((L.heap lq).H HB.c));have d4:=af ag k2.size;let⟨a1,an,ap⟩:=iz k2 x2 x3;clear x4 x3 x2 k2 HF b3;let⟨x0,x1,x2⟩:=oR ap 0 1 2 rfl;have c0:=(ae.1 ap).1;obtain⟨V2,aq⟩:=an.o;have HC:=gP (HA W5 M V2 aq ((HR.bl L (gI:=iq Q W0.heap.size 0) λb hb e=>(gV _ _ _ _ hb).H e).A a1 C));clear aq;first
  |(go_wp2_with(go_at_call 66;refine HC.L ?_;rintro en w9⟨rfl,c1,k9,h9⟩;let⟨bq,bs⟩:=gO k9 h9;clear k9 h9);go_ret;exact Dz.of ((HB.k.H (jB.B L 0)).H (a1.L λt e=>C)) bq (by unfold Ph;omega) bs)
  |(go_wp2;go_ret;exact⟨rfl,M,(HB.k.H (jB.B L 0)).H (a1.L λt e=>C),an⟩)
def LO(h:jG w gH g W V)(L:Wk W)(M:Sw W)(y:GA W.jT)(a b c)(S)(Q:nO a)(T:nO b)(Y:nO c)(H:0<W.ac.length):iB 34 #[O g,.agg #[I 10,I a,I b,I c,.string S]] w (Dz w gH g (W.kY a)):=by
 have e:=Ef 10 (.inr rfl) h L M y a b c S Q T Y H;rwa[az gF]at e
def Tb(h:jG w gH g W V)(L:Wk W)(M:Sw W)(y:GA W.jT)(a b c:Int)(S:ByteArray)(Q:nO a)(T:nO b)(Y:nO c)(H:0<W.ac.length):iB 34 #[O g,.agg #[I 8,I a,I b,I c,.string S]] w (Dz w gH g (match W.nh a with|none=>W|some l=>(W.kY a).lS l)):=by
 have e:=Ef 8 (.inl rfl) h L M y a b c S Q T Y H;rwa[aE rfl]at e
end Go.Proofs.YtbghhbpacijmmaaGreat
