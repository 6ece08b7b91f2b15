import Derived.Deep.DeepCutAuto
import Derived.Deep.CutRange
import Derived.Deep.RegionHeld3
import Derived.Deep.RegionLaw
import Derived.Test.YtbghhbpacijmmaaGreatL14
open Go.Proofs.Tryz
namespace Go.Proofs.YtbghhbpacijmmaaGreat
set_option maxRecDepth 99999
set_option maxHeartbeats 0
set_option linter.defProp false
set_option linter.unusedVariables false
open Go.RowKit Go.Maps
attribute [local go_sem ↓] Go.wp_at_zero Go.wp_at_succ
variable {W W':Wd} {w w':World} {gH gI qb:Nat->Nat} {g k0 i lc k t j n:Nat} {V:WV} {qs:List (Int×List Int)} {la ga ia aa:Option Addr} {xs:List Value} {N:Pn} {P:Nat->Prop} {p:Pl} {X:Cx} {l:List Int} {rs:List Rc}
def il.KQ:(prog.info? 138).map (λi=>(i.zero,i.size,i.bytes))=some (some (.agg #[I 0,I 0,OO]),3,40):=rfl
section
variable{Q:Nat->Prop}{w2:World}{tag2:Nat->Nat}
def Nd.U9{tg L M:Nat}{a b c d:Int}(h:Nd w gH tg L M g a b c d N [])(k:jB P w gH w' gI)(T:¬P tg)(A:¬P L):Nd w' gI tg L M g a b c d N []:=by let⟨Y,Z,gm,clk,ov,l,y⟩:=h;refine⟨Y,Z.only k.only (λb _ e e'=>T (e'▸e)) k.gH,gm,clk,ov,l,?_⟩;have hl:l=[]:=aW.1 y.len;subst hl;exact⟨(k.heap y.hp y.tg A).1,(k.heap y.hp y.tg A).2,(k.heap y.mp y.tm A).1,(k.heap y.mp y.tm A).2,k.only.iX y.ie λb F e=>A ((y.tw b F)▸e),λb F=>(k.gH b (y.ie.lt b F).2).H (y.tw b F),rfl,λi e z he=>mi he,gG,gG⟩
def yU.U9{m v ce gi y mk:Nat}(h:yU w gH n m v ce i gi y mk p)(F:p.q=[])(k:jB P w gH w' gI)(H:¬P (10+3*i))(L:¬P (11+3*i)):yU w' gI n m v ce i gi y mk p:=by let⟨N,k0,A,M⟩:=h;refine⟨N,k0,?_,M⟩;rw[F]at A|-;exact A.U9 k H L
def jG.XS(h:jG w gH g W V)(H:W.pl[i]?=some p)(M:p.q=[])(k:jB P w gH w' gI)(T:∀t,P t->t=12+3*i):jG w' gI g W V:=by
 have F:=h.b;have Y:=h.an;have Z:=h.ht;have hi:=(aj.1 H).1;have y:∀t,t≠12+3*i->¬P t:=λt F e=>F (T t e);refine⟨(k.heap h.hg h.tg (y 1 C)).1,(k.heap h.hg h.tg (y 1 C)).2,⟨h.a.row.A k (y _ C),λj Q A=>?_⟩,h.B.A k (y _ C) λt _ _=>y _ C,h.ca.A k (y _ C) (y _ C) λt _=>y _ C,h.po.A k (y _ C) (y _ C),h.ha.A k (y _ C),h.ms.A k (y _ C),F,Y,Z⟩;obtain⟨gj,mk,e1,L⟩:=h.a.pl j Q A;refine⟨gj,mk,e1,?_⟩;by_cases e:j=i
 .subst e;rw[H]at A;simp only[aJ]at A;subst A;exact L.U9 M k (y _ C) (y _ C)
 exact L.A k (y _ C) (y _ C) (y _ C)
def jG.NF(h:jG w gH g W {V with lv:=gN la W.iA.length lc}){Wa W1 T:World}(hW:Bl w Wa)(Y:Bl Wa W1){cap:Nat}(x)(hd:Wa.ownsRow w.heap.size 5 1 (gN ga x.pk.bytes.length cap) x.pk.bytes.length (x.pk.bytes.map B8)){gg cp:Nat}(Z:T.ownsRow 0 138 3 (gN (G gg) (W.iA.length+1) cp) (W.iA.length+1) (V.ls++[I x.fr,I x.tt,gN ga x.pk.bytes.length cap]))(A:W1.grownBy T (gN la W.iA.length lc).ownBlock)(a4:(gN la W.iA.length lc).ownBlock=some gg\/Wa.heap.size<=gg):∃tag2,jB (λt=>t=1\/t=V.tp) w gH (T.setCell (U g 6) (gN (G gg) (W.iA.length+1) cp)) tag2/\jG (T.setCell (U g 6) (gN (G gg) (W.iA.length+1) cp)) tag2 g {W with iA:=W.iA++[x]} {V with lv:=gN (G gg) (W.iA.length+1) cp,ls:=V.ls++[I x.fr,I x.tt,gN ga x.pk.bytes.length cap]}:=by
 have lw:=h.lt;have l1:=hW.lt;have l2:=Y.lt;have l3:=A.size;have tl:∀b,(gN la W.iA.length lc).ownBlock=some b->gH b=V.tp:=h.po.row.gH;have ll:=λb F=>(h.po.row.ie.lt b F).2;have a0:=λb F=>hd.lt b F;have n1:=h.b;have n2:=h.an;have n3:V.tp=8\/V.tp=97:=h.ht;obtain⟨tag2,a1⟩:∃tag2:Nat->Nat,tag2=λb=>if b<w.heap.size then gH b else if(gN ga x.pk.bytes.length cap).ownBlock=some b then 98 else if b=gg then V.tp else 9:=⟨_,rfl⟩
 have M:∀b,b<w.heap.size->tag2 b=gH b:=λb F=>by rw[a1];simp[F]
 have a5:tag2 gg=V.tp:=by
  obtain e|e:=a4
  .rw[M gg (ll gg e)];exact tl gg e
  rw[a1];dsimp only;rw[az C,az λe'=>by have:=(a0 gg e').2;omega,aE rfl]
 have a2:∀b,(gN ga x.pk.bytes.length cap).ownBlock=some b->tag2 b=98:=λb F=>by rw[a1];dsimp only;rw[az (gS ((a0 b F).1)),aE F]
 have oQ:gL (λb=>gH b=1\/gH b=V.tp) w (T.setCell (U g 6) (gN (G gg) (W.iA.length+1) cp)):=((gL.B (hW.H Y)).H ((gL.A A).L λb _ e=>.inr (tl b e.symm))).setCell (U g 6) (.inl (.inl h.tg)) _;have k:jB (λt=>t=1\/t=V.tp) w gH (T.setCell (U g 6) (gN (G gg) (W.iA.length+1) cp)) tag2:=⟨oQ,M⟩;have a3:T.heap[g]?=some (im (D6 W {V with lv:=gN la W.iA.length lc}).toArray 66 (0,0)):=by rw[A.block g C λe=>by have:=tl g e.symm;rw[h.tg]at this;omega,Y.heap C,hW.heap lw];exact h.hg
 refine⟨tag2,k,jx 6 _ T _ a3,(M g lw).H h.tg,h.a.A k C λi _ _=>C,h.B.A k C λi _ _=>C,h.ca.A k C C λi _=>C,⟨⟨?_,λb F=>?_⟩,λj y hy=>?_⟩,h.ha.A k C,h.ms.A k C,n1,n2,n3⟩
 .rw[aO];exact lY Z λb F=>Z8 _ _ _ _ λe=>gY Z a3 gF (jS F e)
 .have e:gg=b:=by simpa [Value.ownBlock]using F
  rw[<-e];exact a5
 have hl:V.ls.length=W.iA.length*3:=h.po.row.ie.1;by_cases hj:j<W.iA.length
 .rw[aB hj]at hy;obtain⟨e1,e2,dv,e3,e4⟩:=h.po.l j y hy;exact⟨by rw[aB C];exact e1,by rw[aB C];exact e2,dv,by rw[aB C];exact e3,e4.A k C⟩
 have a6:=(aj.1 hy).1;simp at a6;have a7:j=W.iA.length:=C;subst a7;rw[aC jl]at hy;simp at hy;subst hy;have a8:(T.setCell (U g 6) (gN (G gg) (W.iA.length+1) cp)).ownsRow w.heap.size 5 1 (gN ga x.pk.bytes.length cap) x.pk.bytes.length (x.pk.bytes.map B8):=by refine lY hd λb F=>?_;have a9:=a0 b F;rw[Z8 _ _ _ _ (show b≠g by omega),A.block b C λe=>by have:=ll b e.symm;omega,Y.heap a9.2]
 exact⟨by rw[aC C,hl];simp,by rw[aC C,hl];simp,_,by rw[aC C,hl];simp,Rd.qj a8 a2⟩
structure Mx(w:World)(gH:Nat->Nat)(ty:Nat)(la:Option Addr)(lc:Nat)(qs:List (Int×List Int))(xs:List Value)(j:Nat):Prop where
 row:mC w gH ty 179 2 (.slice la qs.length lc) qs.length xs
 jU:∀i z,j<=i->qs[i]?=some z->xs[i*2]?=some (I z.1)/\∃u,xs[i*2+1]?=some u/\mC w gH ty 5 1 u z.2.length (z.2.map B8)
 ap:∀i j u v b,i<j->xs[2*i+1]?=some u->xs[2*j+1]?=some v->u.ownBlock=some b->v.ownBlock≠some b
def Mx.A{y:Nat}(h:Mx w gH y la lc qs xs j)(k:jB P w gH w' gI)(A:¬P y):Mx w' gI y la lc qs xs j:=
 ⟨h.row.A k A,λi z F H=>by
  obtain⟨L,u,M,T⟩:=h.jU i z F H
  exact⟨L,u,M,T.A k A⟩,h.ap⟩
def Mx.So{M:Nat}(h:Mx w gH M la lc qs xs j){A:Nat}{u:Value}(hu:xs[j*2+1]?=some u)(F:u.ownBlock=some A)(H:∃y,w.heap[A]?=some (im y 5 (0,0)))(T:gL (λb=>b=A) w w'):Mx w' gH M la lc qs xs (j+1):=by let⟨y,H⟩:=H;refine⟨⟨T.iX h.row.ie λb L e=>gY h.row.ie H gF (jS L e),h.row.gH⟩,λi z hi hz=>?_,h.ap⟩;obtain⟨e1,Y,Z,e3⟩:=h.jU i z C hz;refine⟨e1,Y,Z,⟨T.iX e3.ie λb L e=>?_,e3.gH⟩⟩;subst e;exact h.ap j i u Y b C (by rw[cN];exact hu) (by rw[cN];exact Z) F L
def xF.XH(h:xF w (λb=>gH b=t) (gN la qs.length lc) qs xs):Mx w gH t la lc qs xs 0:=
 ⟨⟨h.ie,h.ob⟩,λi z _ y=>by
  obtain⟨A,a,c,F,H,L⟩:=h.jU i z y
  exact⟨by rw[cN];exact A,_,by rw[cN];exact F,H,L⟩,h.ap⟩
def sw.XH{base:Nat}(h:sw base w (gN la qs.length lc) qs xs)(A:∀b,base<=b->gH b=t):Mx w gH t la lc qs xs 0:=
 ⟨⟨gZ h.ie λ_ _=>ju,λb y=>A b (h.ie.lt b y).1⟩,λi z _ H=>by
  obtain⟨L,u,M,F⟩:=h.jU i z H
  exact⟨by rw[cN];exact L,u,by rw[cN];exact M,gZ F λ_ _=>ju,λb y=>A b (F.lt b y).1⟩,h.ap⟩
def jG.SU{pb N pc:Nat}(h:jG w gH g W V)(M:V.pv=gN (G pb) N pc)(Y:W.pl.length=N){gi mk mk':Nat}{p':Pl}(Z:W.pl[i]?=some p)(A:Ib V.ps W.n W.m i gi mk p.up p.oB)(T:p'.up=p.up/\p'.oB=p.oB)(L:yU w gH W.n W.m W.v W.ce i gi W.iN mk' p'):jG (w.setCell (U pb (i*5+2)) (I mk')) gH g {W with pl:=W.pl.set i p'} {V with ps:=V.ps.set (i*5+2) (I mk')}:=by
 subst Y;have hi:=(aj.1 Z).1;have y:=h.a.row;rw[M]at y;have k:jB (λs=>s=2) w gH (w.setCell (U pb (i*5+2)) (I mk')) gH:=kn (y.gH pb rfl) _ _;have hl:=y.ie.1;have n1:=h.b;have n2:=h.an;have n3:=h.ht;refine⟨(k.heap h.hg h.tg C).1,(k.heap h.hg h.tg C).2,⟨by show mC _ _ _ _ _ V.pv _ _;rw[M,bK];exact⟨sV y.ie _ _,y.gH⟩,λj q F=>?_⟩,h.B.A k C λt _ _=>C,h.ca.A k C C λi _=>C,h.po.A k C C,h.ha.A k C,h.ms.A k C,by rw[bK];exact n1,n2,n3⟩;have hj:=(aj.1 F).1;rw[bK]at hj;by_cases e:i=j
 .subst e;rw[aQ hi]at F;simp only[aJ]at F;subst F;refine⟨gi,mk',⟨?_,?_,?_,?_,?_⟩,L.A k C C C⟩
  .rw[aH C];exact A.1
  .rw[aH C];exact A.2.1
  .rw[aQ C]
  .rw[aH C,T.1];exact A.2.2.2.1
  rw[aH C,T.2];exact A.2.2.2.2
 rw[aH e]at F;obtain⟨gj,mj,H,nj⟩:=h.a.pl j q F;refine⟨gj,mj,⟨?_,?_,?_,?_,?_⟩,nj.A k C C C⟩
 .rw[aH C];exact H.1
 .rw[aH C];exact H.2.1
 .rw[aH C];exact H.2.2.1
 .rw[aH C];exact H.2.2.2.1
 rw[aH C];exact H.2.2.2.2
end
theorem Pn.Tp{p:vC}(h:N.ab k0 p):N.ab N.A.length p.mF:=by
 have A:∀{α:Type} (S:Nat->α) (n:Nat),((List.range (n+1)).drop n).map S=[S n]:=λS n=>by rw[dp];simp
 cases N with
 |unit ch rs S=>
  cases p with
  |voter s F=>exact h.elim
  |unit H s F=>let⟨L,M,y,T⟩:=h;exact⟨L,jl,y,by show(((List.range (rs.length+1)).drop rs.length).map S).Sublist [s];rw[A,y];exact dy _⟩
 |voter rs S=>
  cases p with
  |unit H s F=>exact h.elim
  |voter s F=>let⟨M,y,T⟩:=h;refine⟨jl,y,?_⟩;show(((List.range (rs.length+1)).drop rs.length).map λk=>VS.mk (S k) _).Sublist [s];simp_all
def C9(rs)(k):off rs k<=(iE rs).length:=by
 unfold off iE
 conv=>rhs;rw[<-dK k rs,eZ,aO]
 omega
def Pn.oV(N:Pn):N.jt=iE N.A:=by cases N<;>rfl
def Po(tp t:Nat):Prop:=t=1\/t=2\/t=5\/t=tp\/(10<=t/\t<52)\/(100<=t/\t<356)
def Ip{α:Type}{l:List α}{a:α}{f:α->α}(h:l[j]?=some a):l.modify j f=l.set j (f a):=by
 apply bJ;intro i;rw[bS];by_cases e:j=i
 .subst e;rw[h,aQ (aj.1 h).1];simp
 rw[aH e];simp[e]
def J7{b:Bd}{m v:Nat}{l:Le}(h:uH b n m v l)(s:Sm b)(y:∀ds,l.pk≠.noi ds):3<=l.pk.bytes.length/\l.pk.bytes.length<=600:=by
 obtain⟨A,_,h3⟩:=h.len s;obtain⟨ds,e⟩|h3:=h3
 .exact absurd e (y ds)
 exact⟨h3,A⟩
theorem Kg(h:jG w gH g W V)(hW:Wk W)(hS:Sw W)(i)(h0:-9223372036854775808<=i)(h1:i<=9223372036854775807)(k:Nat)(hk:pk i (W.pl.length+W.ac.length)=k)(hu:0<W.ac.length):iB 65 #[O g,I i] w λen w'=>en=gX (.bool true)/\∃gI,jB (Po V.tp) w gH w' gI/\∃V',V'.tp=V.tp/\jG w' gI g (W.kU k) V':=by
 obtain⟨i5,ji,g9,gb,gc⟩:=fx il.CD;obtain⟨dg,dj,r0,r1,r2⟩:=fx il.KQ;obtain⟨pa,pc,dk⟩:=h.a.row.B;obtain⟨aa,ac,dl⟩:=h.B.row.B;obtain⟨la,lc,dn⟩:=h.po.row.B;have ge:=h.ht;obtain⟨pv,av,lv,cv,hv,mv,ps,aw,ls,cs,tp⟩:=V;simp only at dk dl dn ge|-;subst dk dl dn;have hw:=h.b;have hy:=h.an;have hf:=hS.a;have b7:=hW.b;have gj:=lZ i (W.pl.length+W.ac.length) C;rw[hk]at gj;have dv:=gP λWm=>j5 i (W.pl.length+W.ac.length) Wm h0 h1 C C;rw[hk]at dv;let⟨c4,c5⟩:=h.R 4 5 rfl;have lg:=h.lt;let⟨bR,dw,H⟩:=iz hW hS h;clear h hW hS hk h0 h1;go_enter func65,ntmps65;go_upto_region 1 with fail;go_quiet((go_at_call 15;exact Calls.quiet_of_same (dv _)));let⟨Wq,cf⟩:=gJ (w.drewN nq);have bq:Bl w Wq:=by rw[<-cf];exact jC.drewN nq
 rw[cf];obtain⟨a0,cg⟩:=gO (H.bl (gI:=gH) bq λ_ _=>rfl) bq;let⟨c4,c5⟩:=a0.R 4 5 rfl;have hB:=a0.lt;clear cf H bq;by_cases hb:k<W.pl.length
 case' pos=>
  have gl:(k:Int)<(W.pl.length:Int):=C;let⟨Q,hQ⟩:=mm hb;have Y:=a0.a.row;obtain⟨pb,rfl,hC,hD,a9,dO⟩:=Y.cells (by show 0<W.pl.length;omega);obtain⟨gu,mk,b9,dS⟩:=a0.a.pl k Q hQ;let⟨an,e5⟩:=gO b9 dS;let⟨e0,e1,e2,e3,e4⟩:=b9;have d0:=(a9 (k*5) (by show k*5<W.pl.length*5;omega)).H e0;have d1:=(a9 (k*5+1) (by show k*5+1<W.pl.length*5;omega)).H e1;have d2:=(a9 (k*5+2) (by show k*5+2<W.pl.length*5;omega)).H e2;have d3:=(a9 (k*5+3) (by show k*5+3<W.pl.length*5;omega)).H e3;let⟨bT,a1⟩:=gJ Q.up;rw[a1]at d3;let⟨ad,HQ⟩:=gO a1 hQ;clear a9 e0 e1 e2 e3 e4 Y dO a1 dS hQ
  cases bT with
  |false=>
   have ba:Hid (W.kU k=W):=by unfold Hid Wd.kU;rw[aE hb,HQ.o];simp[ad.o]
   go_wp2;go_ret;exact⟨rfl,gH,jB.A cg λ_ _=>rfl,by rw[ba.o];exact⟨_,rfl,a0⟩⟩
  |true=>?_
  obtain⟨N,k0,hN,e6,e7,ch,e8,e9⟩:=e5.o;have gm:=(bR.pk k Q HQ).q.len;have HO:=gP (LQ hN (by rw[ay];omega) C C C);let⟨Z,a7⟩:=gJ ((Q.q.map λe=>(⟨jZ W.n W.m k,e.cl,e.pk⟩:Le)):List Le);have bb:qn (Q.q.map Qe.z)=Z.map λx=>(x.tt,x.pk.bytes):=by rw[<-a7];unfold qn;rw[br,br];rfl
  rw[bb]at HO;rw[ay]at HO;have HE:=KV e6 e7 ch e8 e9;have bc:Z.length<=80:=by rw[<-a7,ay];exact gm
  have ap:=gP a7;clear hN e6 e7 ch e8 e9 bb e5 a7;go_upto_region 9 with(go_at_call 98;refine HO.L ?_;rintro en w1⟨va,vc,xs,tag1,rfl,ea,ag,eb,ai⟩;have a2:=nK ea ag eb ai;clear ea ag eb ai);have k1:jB (λt=>t=10+3*k\/t=11+3*k\/t=12+3*k) Wq gH w1 tag1:=⟨a2.2.2.2.L λ_ _ e=>.inr (.inl e),a2.1⟩;have ak:=a0.Wo k1 HQ (P1:={Q with q:=[]}) an ⟨N,k0,a2.2.2.1,HE.1,HE.2.1,HE.2.2.1,HE.2.2.2.1,HE.2.2.2.2⟩;have aq:Mx w1 tag1 (12+3*k) va vc (Z.map λx=>(x.tt,x.pk.bytes)) xs 0:=xF.XH (by rw[ay];exact a2.2.1);have ar:=ak.a.row;simp only[bK]at ar;obtain⟨gn,bd,hg,hh,be,ci⟩:=ar.cells C;simp only[aJ,Z0,ZS]at bd;subst bd;have s1:=(be (k*5+1) C).H an.2.1;have ec:=gP (yA a2.2.2.1 (gS HE.2.2.2.1));have bg:=nK ak aq a2.2.2.1 k1;clear ak aq k1 be ci ar a2 a0 HO;go_upto_region 10 with(go_at_call 70;refine ec.L ?_;rintro en w2⟨ia,ic,rfl,bi,go⟩;have ee:=gP bi;clear bi go);have b2:=ee.o;have ck:=(bg.1.bl (gI:=tag1) b2 λ_ _=>rfl).D (a:=W.iN+1) oC;have au:=ck.a.row;simp only[bK]at au;obtain⟨gn,bd,ef,eg,aY,bl⟩:=au.cells C;simp only[aJ,Z0,ZS]at bd;subst bd;have s0:=(aY (k*5) C).H an.1;have s2:=(aY (k*5+2) C).H an.2.2.1;have f2:=bl (k*5+2);have ch:¬(N.jt.length:Int)<(mk:Int):=by have:=HE.2.2.1;have:=C9 N.A k0;rw[Pn.oV];omega
  have k2:jB (λs=>s=2) w2 tag1 (w2.setCell (U pb (k*5+2)) (I N.jt.length)) tag1:=kn ef _ _;have bV:=ck.SU (pb:=pb) (N:=W.pl.length) (pc:=pc) rfl gG (i:=k) (gi:=gu) (mk:=mk) (mk':=N.jt.length) (p:={Q with q:=[]}) (p':=Q.mF) (by show(W.pl.set k _)[k]?=_;rw[aQ hb]) an ⟨rfl,rfl⟩ ⟨N,N.A.length,bg.2.2.1.A (P:=λ_=>False) (jB.A b2 λ_ _=>rfl) gG gG gG,HE.1,Pn.Tp HE.2.1,by rw[Ko,Pn.oV],by have:=HE.2.2.2.1;show _<=300*(W.iN+1);omega,by have:=HE.2.2.2.2;show _<=W.iN+1;omega⟩;have cl:=(bg.2.1.A (P:=λ_=>False) (jB.A (gI:=tag1) b2 λ_ _=>rfl) gG).A k2 C;have cn:jB (Po tp) w gH (w2.setCell (U pb (k*5+2)) (I N.jt.length)) tag1:=(((jB.A (gI:=gH) cg λ_ _=>rfl).H (bg.2.2.2.L λt e=>by unfold Po;omega)).H (jB.A b2 λ_ _=>rfl)).H (k2.L λt e=>.inr (.inl e));let⟨W3,al⟩:=gJ (w2.setCell (U pb (k*5+2)) (I N.jt.length));rw[al]at bV cl cn;simp only[fk]at bV;let⟨fr,b0⟩:=gJ (jZ W.n W.m k:Int);rw[b0]at s0;have z0:W3.cell? (U pb (k*5))=some (I fr):=by rw[<-al];exact(World.cell?_setCell_other _ _ _ _ gG).H s0
  have hi:pb<W3.heap.size:=by rw[<-al];simpa [World.setCell]using eg
  have ei:=gP al;let⟨T,a3⟩:=gJ (({W with iN:=W.iN+1,pl:=W.pl.set k Q.mF}:Wd):Wd);let⟨V1,b1⟩:=gJ ((⟨gN (G pb) W.pl.length pc,gN aa W.ac.length ac,gN la W.iA.length lc,cv,hv,mv,ps.set (k*5+2) (I N.jt.length),aw,ls,cs,tp⟩:WV):WV);let⟨ty,b8⟩:=gJ (12+3*k);have co:Hid (jG W3 tag1 g T {V1 with lv:=gN la T.iA.length lc,ls:=ls}):=by rw[<-a3,<-b1];exact bV
  have cq:Hid (Mx W3 tag1 ty va vc (Z.map λx=>(x.tt,x.pk.bytes)) xs 0):=jJ b8 cl;have cr:=gP cn;have ej:Hid (∀(Wa Wb:World) (ta tb:Nat->Nat) (po:List Le) (Vx:WV),jG Wa ta g {T with iA:=po} Vx->jB (λt=>t=ty) Wa ta Wb tb->jG Wb tb g {T with iA:=po} Vx):=by
   intro Wa Wb ta tb po Vx hX hk;refine hX.XS (i:=k) (p:=Q.mF) ?_ rfl hk λt e=>by rw[e,<-b8]
   rw[<-a3];show(W.pl.set k Q.mF)[k]?=_;rw[aQ hb]
  have HF:Hid (({T with iA:=T.iA++Z}:Wd)=W.kU k):=by unfold Hid Wd.kU;rw[aE hb,HQ.o];simp only[ad.o,if_true];rw[<-a3,ap.o]
  have ek:Hid (∀x∈Z,x.fr=fr):=by intro x hx;rw[<-ap.o,aD]at hx;obtain⟨z,hz,rfl⟩:=hx;exact b0
  have bW:Hid (ty≠1/\ty≠tp/\Po tp ty):=⟨C,C,by unfold Po;omega⟩;have ct:Hid (V1.tp=tp):=by unfold Hid;rw[<-b1]
  have el:Hid (T.iA=W.iA):=by rw[<-a3];rfl
  have c7:Hid (∀x∈Z,3<=x.pk.bytes.length/\x.pk.bytes.length<=600):=by
   intro x hx;rw[<-ap.o,aD]at hx;obtain⟨e,he,rfl⟩:=hx;have ep:=(bR.pk k Q HQ).q.e e he;obtain⟨jj,_,gq⟩:=ep.cl;have eq:1000<=e.cl:=by rw[gq];unfold kg;omega
   have a4:=ep.pk;refine J7 (b:=W.A 0) (n:=W.n) (m:=W.m) (v:=W.v) ?_ (dw.sm 0) λds e'=>?_
   .show uH _ _ _ _ ⟨_,e.cl,e.pk⟩
    cases hp:e.pk with
    |req r=>rw[hp]at a4;exact a4.elim
    |noi ds=>rw[hp]at a4;exact a4.elim
    |rep nr A=>rw[hp]at a4;exact⟨eq,a4⟩
    |vot nr lt v=>rw[hp]at a4;exact⟨eq,a4⟩
   .change e.pk=.noi ds at e';rw[e']at a4;exact a4.elim
  have bc:Z.length<=200:=C;clear ck au aY bl k2 bV cl cn al bg ee ec s1 HE a3 b1 b8 b0;go_upto_region 13 with fail;rw[ei.o];clear ei s0 s2 f2 b2;go_upto_region 19 with fail;clear z0
 case' neg=>
  have gl:¬((k:Int)<(W.pl.length:Int)):=C;let⟨j,hj⟩:=gJ (k-W.pl.length);have gr:j<W.ac.length:=C;have hE:(j:Int)<(W.ac.length:Int):=C;have hl:IntKind.i64.wrap ((k:Int)-(W.pl.length:Int))=(j:Int):=vB;let⟨A,hA⟩:=mm gr;have Y:=a0.B.row;obtain⟨ab,rfl,KA,hH,b3,_⟩:=Y.cells (by show 0<W.ac.length;omega);obtain⟨p,qb,b9,er⟩:=a0.B.ac j A hA;let⟨an,es⟩:=gO b9 er;let⟨e0,e1,e2⟩:=b9;have d0:=(b3 (j*3) (by show j*3<W.ac.length*3;omega)).H e0;have d1:=(b3 (j*3+1) (by show j*3+1<W.ac.length*3;omega)).H e1;have d2:=(b3 (j*3+2) (by show j*3+2<W.ac.length*3;omega)).H e2;let⟨bT,a1⟩:=gJ A.up;let⟨fr,b0⟩:=gJ (kg j:Int);rw[a1]at d2;rw[b0]at d0;let⟨ad,HA,Hj,eu⟩:=jR a1 hA hj b0;clear b3 e0 e1 e2 Y a1 er hA hj b0;go_upto_region 14 with fail;go_cut[10]from 14 to 91 λy wx=>∃g5,y= O g5/\Hid (Bl Wq wx/\Wq.heap.size<=g5/\wx.heap[g5]?=some (im #[I fr,O p,.bool bT] 129 (0,0)))
  case first=>
   go_region;all_goals(go_wp2_with fail;go_meet)
   all_goals(refine⟨_,rfl,?_,jl,?_⟩;exact m8;exact ao _ _)
  case' rest=>
   obtain⟨g5,rfl,am⟩:=hcut;have ev:g5<wc.heap.size:=(ae.1 am.2.2).1;let⟨z0,z1,z2⟩:=oR am.2.2 0 1 2 rfl;have ew:=a0.bl (gI:=iq gH Wq.heap.size 9) am.1 λb hb=>gV _ _ _ _ hb;have ex:=es.bl (gI:=iq gH Wq.heap.size 9) am.1 λb hb=>gV _ _ _ _ hb;have ez:jB (Po tp) w gH wc (uv gH Wq):=(jB.A (gI:=gH) cg λ_ _=>rfl).H (jB.B am.1 9);have bm:=my ew ex ez;have f0:iq gH Wq.heap.size 9 g5=9:=iJ _ _ _ _ am.2.1;have f1:=m9 f0 am.2.2;clear ew ex ez d0 d1 d2 c4 c5 a0 es f0 am
   cases bT with
   |false=>
    have ba:Hid (W.kU k=W):=by unfold Hid Wd.kU;rw[az hb,Hj.o,HA.o];simp[ad.o]
    go_wp2;go_ret;exact⟨rfl,_,bm.2.2,by rw[ba.o];exact⟨_,rfl,bm.1⟩⟩
   |true=>?_
   obtain⟨VC,hK⟩:=bm.2.1;have hx:=(bR.ac j A HA).x;have cx:=dw.sm j;have HO:=gP (RF hK C (gS (hx.Ld cx)) hx.pl hx.Yf);let⟨Z,a7⟩:=gJ ((A.X.jL.map λz=>(⟨kg j,z.1,.req z.2⟩:Le)):List Le);have bb:A.X.Gc=Z.map λx=>(x.tt,x.pk.bytes):=by rw[<-a7];unfold Cx.Gc;rw[br];rfl
   have bc:Z.length<=200:=by rw[<-a7,ay];have:=hx.jL.2;omega
   rw[bb,ay]at HO;have ap:=gP a7;clear hK bb a7;go_upto_region 18 with(go_at_call 99;refine HO.L ?_;rintro en w1⟨va,vc,xs,rfl,ag,bn,ai⟩;have a2:=my ag bn ai;clear ag bn ai);obtain⟨ag,bn,ai⟩:=a2.o;have k1:jB (Mc (100+32*j)) wc (uv gH Wq) w1 (iq (uv gH Wq) wc.heap.size 5):=⟨ai,λb hb=>gV _ _ _ _ hb⟩;have ak:=(bm.1.Sr k1 (λt e=>.inl (by unfold Mc at e;omega)) HA an ⟨VC,bn⟩).D (a:=W.iN+1) oC;have aq:Mx w1 (iq (uv gH Wq) wc.heap.size 5) 5 va vc (Z.map λx=>(x.tt,x.pk.bytes)) xs 0:=sw.XH (by rw[ay];exact ag) λb hb=>iJ _ _ _ _ hb;have a3:=bm.2.2.H (k1.L (Q:=Po tp) λt e=>by unfold Mc at e;unfold Po;omega);have f3:w1.cell? (U g5 0)=some (I fr):=ax w1 _ 0 _ 129 (0,0) (k1.heap f1.2 f1.1 (by unfold Mc;omega)).1;have f4:g5<w1.heap.size:=af ev k1.size;let⟨tag1,bo⟩:=gJ (iq (uv gH Wq) wc.heap.size 5);rw[bo]at ak aq a3;let⟨W3,al⟩:=gJ w1;rw[al]at ak aq a3 f3 f4|-;let⟨T,b5⟩:=gJ (({W with iN:=W.iN+1,ac:=W.ac.modify j λB=>{B with X:=A.X.mF}}:Wd):Wd);let⟨V1,b1⟩:=gJ ((⟨gN pa W.pl.length pc,gN (G ab) W.ac.length ac,gN la W.iA.length lc,cv,hv,mv,ps,aw,ls,cs,tp⟩:WV):WV);let⟨ty,b8⟩:=gJ 5;have co:Hid (jG W3 tag1 g T {V1 with lv:=gN la T.iA.length lc,ls:=ls}):=by rw[<-b5,<-b1];exact ak
   have cq:Hid (Mx W3 tag1 ty va vc (Z.map λx=>(x.tt,x.pk.bytes)) xs 0):=jJ b8 aq;have cr:=gP a3;have ej:Hid (∀(Wa Wb:World) (ta tb:Nat->Nat) (po:List Le) (Vx:WV),jG Wa ta g {T with iA:=po} Vx->jB (λt=>t=ty) Wa ta Wb tb->jG Wb tb g {T with iA:=po} Vx):=by intro Wa Wb ta tb po Vx hX hk;exact hX.A hk λt e=>.inr (.inl C)
   have HF:Hid (({T with iA:=T.iA++Z}:Wd)=W.kU k):=by unfold Hid Wd.kU;rw[az hb,Hj.o,HA.o];dsimp only;rw[aE ad.o,<-b5,ap.o,Ip HA.o]
   have ek:Hid (∀x∈Z,x.fr=fr):=by intro x hx;rw[<-ap.o,aD]at hx;obtain⟨z,hz,rfl⟩:=hx;exact eu
   have bW:Hid (ty≠1/\ty≠tp/\Po tp ty):=⟨C,C,by unfold Po;omega⟩;have ct:Hid (V1.tp=tp):=by unfold Hid;rw[<-b1]
   have el:Hid (T.iA=W.iA):=by rw[<-b5];rfl
   have c7:Hid (∀x∈Z,3<=x.pk.bytes.length/\x.pk.bytes.length<=600):=by intro x f5;rw[<-ap.o,aD]at f5;obtain⟨z,hz,rfl⟩:=f5;obtain⟨⟨gs,gt⟩,gx,_⟩:=hx.c;have f7:A.X.n=W.n:=gs;have f8:A.X.m=W.m:=gt;have f9:A.X.vo=W.v:=gx;have ho:=hx.jL.1 z hz;rw[f7,f8,f9]at ho;exact J7 (b:=W.A j) (n:=W.n) (m:=W.m) (v:=W.v) (l:=⟨kg j,z.1,.req z.2⟩) ⟨Kh bR HA,ho⟩ cx λds e'=>mi e'
   clear ag bn ai a2 k1 ak aq a3 b5 b1 b8 bo al HO hx cx;go_upto_region 19 with fail;clear f3
 all_goals
  have fd:T.iA.length+Z.length<=1000000000000:=by have:=el.o;rw[this];omega
  let⟨L,hL⟩:=gJ Z.length;rw[hL]at bc fd|-;have HL:=gP hL;have hI:(L:Int)<=200:=C;clear hL;go_wp2;go_loopw[11](λi wx=>∃(j:Nat) (a6:Nat->Nat) (bX:Option Addr) (c0:Nat) (bp:List Value),j<=L/\i=I j/\Hid (jB (Po tp) w gH wx a6)/\Hid (jG wx a6 g {T with iA:=T.iA++Z.take j} {V1 with lv:=gN bX (T.iA.length+j) c0,ls:=bp})/\Hid (Mx wx a6 ty va vc (Z.map λx=>(x.tt,x.pk.bytes)) xs j)) λi _=>L-(Go.RowKit.intOf i).toNat
  case atStart=>exact⟨0,tag1,la,lc,ls,ju,rfl,cr,by rw[eE,cF];exact co,cq⟩
  case round=>
   clear cr co cq;obtain⟨j,a6,bX,c0,bp,hj,rfl,cP,a5,bs⟩:=hrel;have c8:=HL.o;by_cases ja:j<L
   .have hm:(j:Int)<(L:Int):=C;obtain⟨x,hx⟩:∃x,Z[j]?=some x:=⟨_,ah C⟩;have ff:(Z.map λx=>(x.tt,x.pk.bytes))[j]?=some (x.tt,x.pk.bytes):=by rw[aK,hx];rfl
    let⟨gQ,h2⟩:=c7 x (aR hx);have h3:=gP (ek x (aR hx));have Y:=bs.row;have bv:(Z.map λx=>(x.tt,x.pk.bytes)).length=L:=by rw[ay];exact c8
    rw[bv]at Y;obtain⟨mb,rfl,_,fi,bw,_⟩:=Y.cells C;obtain⟨e1,u,e2,e3⟩:=bs.jU j _ jl ff;obtain⟨db,dc,hn,rfl,hJ,hM,fl,_,_⟩:=e3.block (by simp only;omega);have d0:=(bw (j*2) C).H e1;have d1:=(bw (j*2+1) C).H e2;simp only at d0 d1 e3;let⟨cS,cV,hO,d4⟩:=jR e2 e3 fl (Az e3.ie);let⟨BY,d5⟩:=gJ x.pk.bytes;have d6:=gP d5;rw[d5]at gQ h2 d1 cS cV d4;have HN:Hid (wr.ownsRow wr.heap.size 5 1 OO 0 []):=mT;have fn:Hid (0+(BY.map B8).length<=maxLen):=by unfold Hid maxLen;rw[ay];omega
    have c9:Hid ((0+(BY.map B8).length)*1<=140737488355328):=by unfold Hid;rw[ay];omega
    have h4:Hid (Z.take (j+1)=Z.take j++[x]):=by unfold Hid;rw[cW,hx];rfl
    have bx:=gP bv;clear bw e1 e2 e3 fl Y c8 hx ff bv d5;go_upto_region 23 with fail;go_wp2_with(at_builtin;refine mN _ rfl _ _ 40 rfl wr.heap.size 5 i5 (.int .u8 0) 1 underlying40 ji g9 gb gc rfl _ 0 [] rfl HN _ _ rfl d4 (DP BY) fn c9 gG ?_);intro v' w4 hG;obtain⟨gd,cap,h5⟩:∃gd cap,v'=gN (G gd) BY.length cap:=by
     obtain⟨_,e⟩|⟨g,cap,hP,e,_⟩:=hG.ie.2
     .omega
     .exact⟨g,cap,iU e⟩
    subst h5;have b4:Bl wr w4:=hG.only.te λk _ e=>ny e;have fu:=gP (show w4.ownsRow wr.heap.size 5 1 (gN (G gd) BY.length cap) BY.length (BY.map B8) by simpa using hG.ie);have c6:=(b4.cell a5.lt).H (a5.cellAt 6 rfl);have f6:w4.frozen? (U g 6)=false:=(b4.frozen a5.lt).H (aP wr g 6 _ 66 a5.hg);have d7:=af a5.lt b4.lt;let⟨x0,x1⟩:=b4.B fi d0 d1;have ca:=af fi b4.lt;have M:({T with iA:=T.iA++Z.take j}:Wd).iA.length=T.iA.length+j:=by have:=HL.o;simp;omega
    have b7:=a5.po.row.ie;rw[M]at b7;have fv:=gP ((iT b4).iX b7 λ_ _ e=>e);have d8:Hid ((gN bX (T.iA.length+j) c0).ownBlock≠some g):=gY b7 a5.hg gF;have fw:Hid ((gN bX (T.iA.length+j) c0).ownBlock≠some mb):=λe=>by obtain⟨g',bz,bA,k1,_,_,k4,_⟩:=bs.row.block (pI bx.o);simp only[bO,aJ,Z0,ZS,ZU]at k1;rw[<-k1.1]at k4;exact gY b7 k4 gF e
    have fz:Hid (T.iA.length+j+1<=maxLen):=mV;have bi:Hid ((T.iA.length+j+1)*40<=140737488355328):=lT;have g0:=gP b4;have cb:=h3.o;let⟨xt,d9⟩:=gJ x.tt;rw[d9]at x0;have g1:=gP d9;clear b4 hG b7 d0 d1 HN d4 fn c9 d9;go_upto_region 24 with fail;go_cut[]from 92 to 138 λwy=>∃gg bB tagy,Hid (jB (λt=>t=1\/t=tp) wr a6 wy tagy)/\Hid (jG wy tagy g {T with iA:=T.iA++Z.take (j+1)} {V1 with lv:=gN (G gg) (T.iA.length+j+1) bB,ls:=bp++[I fr,I xt,gN (G gd) BY.length cap]})
    case first=>
     go_region_law
      ((refine step_append_lies _ jQ _ _ _ jQ 0 138 dg _ 3 40 underlying63 dj r0 r1 r2 rfl C _ (T.iA.length+j) bp jQ ((fv.alloc _).drew) (U w4.heap.size 0) 1 1 [I fr,I xt,gN (G gd) BY.length cap] jQ jQ (fW (cs:=#[I fr,I xt,gN (G gd) BY.length cap]) (t:=138) (fr:=(0,0)) (ao w4 _)) rS C fz bi gG (w4.heap.size+1) gG ?_;intro gg cp w5 a8 F b6 bC;have kc:=(AN (((Bl.refl w4).alloc _).drew) F (o:=6) d7 d8).1.H c6;have kf:=(AN (((Bl.refl w4).alloc _).drew) F (o:=6) d7 d8).2.H f6;have y0:=(AN (((Bl.refl w4).alloc _).drew) F (o:=j*2) ca fw).1.H x0;have ev:g<w5.heap.size:=(by have:=F.size;simp at this;omega);have hq:mb<w5.heap.size:=(by have:=F.size;simp at this;omega);have h6:=nK a8 F b6 bC;clear a8 F b6 bC))
     all_goals(go_wp2_with fail;go_meet)
     all_goals
      obtain⟨a8,F,b6,bC⟩:=h6.o;have g2:=a5.o;rw[<-M]at g2;have c1:=jG.NF (V:={V1 with ls:=bp}) g2 (Wa:=w4) (W1:=(w4.alloc (im #[I fr,I xt,gN (G gd) BY.length cap] 138)).drew) g0 (((Bl.refl w4).alloc _).drew) x (ga:=G gd) (cap:=cap) (jk d6.o fu) (gg:=gg) (cp:=cp) (by rw[M,cb,g1.o,d6.o];exact a8) (jk M F) (by rw[M];exact b6.imp (λe=>e) λe=>C);rw[M,cb,g1.o,d6.o]at c1;simp only[eJ]at c1;rw[<-h4.o]at c1;let⟨g3,p1,p2⟩:=c1;exact⟨gg,cp,g3,p1.L λt e=>by(obtain e|e:=e;exact .inl e;exact .inr (e.H ct)),p2⟩
    case rest=>
     let⟨gg,bB,tagy,bD,h7⟩:=hcut;have hR:=bD.size;have da:=bs.A bD λe=>gS bW.o;have g4:=cV.A bD λe=>gS bW.o;obtain⟨hT,em,_,cc,cd,_⟩:=(show mC wc tagy ty 179 2 (gN (G mb) L vc) L xs by have:=da.row;rwa[bx.o]at this).cells C;simp only[aJ,Z0,ZS]at em;subst em;have y1:=(cd (j*2+1) C).H cS;let⟨g6,c2⟩:=gO da g4;have h8:=gP (cP.H (bD.L λt e=>by unfold Po;omega));clear da g4 cd bD bs a5 cP cV fv d8 fw fz bi g0 fu c6 f6 d7 x0 x1 ca M;have g7:tagy db=ty:=c2.gH db rfl;have g8:mb≠db:=λe=>by obtain⟨g',bz,bA,k1,_,_,k4,_⟩:=g6.row.block (pI bx.o);simp only[bO,aJ,Z0,ZS,ZU]at k1;rw[<-k1.1]at k4;exact gY c2.ie k4 gF (by rw[e];rfl)
     go_wp2;go_loopw[13](λi wx=>∃(t:Nat) (ds:List Value),t<=BY.length/\i=I t/\Hid (gL (λb=>b=db) wc wx)/\Hid (wx.ownsRow 0 5 1 (gN (G db) BY.length dc) BY.length ds)) λi _=>BY.length-(Go.RowKit.intOf i).toNat
     case atStart=>exact⟨0,_,ju,rfl,ug,c2.ie⟩
     case round=>
      obtain⟨t,ds,ht,rfl,bE,c3⟩:=hrel;have y2:=(bE.cell cc g8 (o:=j*2+1)).H y1;have hr:=af cc bE.size;by_cases hV:t<BY.length
      .have hY:(t:Int)<(BY.length:Int):=C;have hZ:ds.length=BY.length:=jh c3;have y3:=(c3.cellAt t C).H (ah C);obtain⟨g',bz,bA,k1,_,k3,k4,_⟩:=(show mC wr (λ_=>0) 0 5 1 (gN (G db) BY.length dc) BY.length ds from⟨c3,λ_ _=>rfl⟩).block C;simp only[bO,aJ,Z0,ZS,ZU]at k1;rw[<-k1.1]at k3 k4;have y4:=aP _ db t _ 5 k4;generalize ds[t]=dt at*;clear k4 k1;go_wp2;exact⟨⟨t+1,ds.set t (.int .u8 99),C,iD,bE.setCell (U db t) (.inl rfl) _,sV c3 t _⟩,iC⟩
      .have hs:¬((t:Int)<(BY.length:Int)):=C;have dd:jB (λs=>s=ty) wc tagy wr tagy:=⟨bE.L λb _ e=>jk e g7,λ_ _=>rfl⟩;have h9:=gP (ej _ _ _ _ _ _ h7 dd);have ha:=gP (g6.So cS rfl (by
        obtain⟨g',bz,bA,k1,_,_,k4,_⟩:=c2.block C
        simp only[bO,aJ,Z0,ZS,ZU]at k1
        rw[<-k1.1]at k4
        exact⟨_,k4⟩) bE)
       have hc:=gP (h8.H (dd.L λt e=>jk e bW.2.2));clear dd;go_wp2;exact⟨⟨j+1,tagy,G gg,bB,_,C,iD,hc,h9,ha⟩,iC⟩
   .have i0:¬((j:Int)<(L:Int)):=C;have hd:j=L:=C;subst hd;go_wp2;go_ret;have ce:=a5.o;rw[bI (gS HL.o),HF.o]at ce;exact⟨rfl,a6,cP,⟨_,by exact ct,ce⟩⟩
theorem vZ(h:jG w gH g W V)(hW:Wk W)(hS:Sw W)(bX:GA W.jT)(l)(dv)(hd:Rd w gH 98 5 dv (l.pk.bytes.map B8))(hl:uH (W.A 0) W.n W.m W.v l):iB 66 #[O g,.agg #[I l.fr,I l.tt,dv]] w λen w'=>en=gX (.bool true)/\∃gI,jB Ph w gH w' gI/\Wx w' gI g (W.lS l):=by
 obtain⟨i5,ji,d8,d9,db⟩:=fx il.CD;obtain⟨pa,pc,c0⟩:=h.a.row.B;obtain⟨aa,ac,c1⟩:=h.B.row.B;obtain⟨pv,av,lv,cv,hv,mv,ps,aw,ls,cs,tp⟩:=V;simp only at c0 c1;subst c0 c1;obtain⟨dd,c2,_⟩:=hl.len (hS.sm 0);obtain⟨da,dc,c3⟩:=hd.B;rw[ay]at c3;subst c3;have bd:=h.b;have ej:=h.an;have eg:=hS.a;have ek:=hW.nw;let⟨D,hD⟩:=gJ l.pk.bytes;let⟨fr,ap⟩:=gJ l.fr;let⟨tt,aq⟩:=gJ l.tt;let⟨NP,c6⟩:=gJ W.pl.length;let⟨NA,c7⟩:=gJ W.ac.length;have c9:Hid (∀(k gu mk:Nat) (P:Pl) (Wm:World) (a0:Nat->Nat) (dw:Value),W.pl[k]?=some P->jZ W.n W.m k=tt->yU Wm a0 W.n W.m W.v W.ce k gu W.iN mk P->Ds Wm dw l.pk->iB 101 #[O gu,I fr,dw] Wm λen w'=>en=iw/\∃gI,jB (λt=>t=10+3*k\/t=11+3*k) Wm a0 w' gI/\yU w' gI W.n W.m W.v W.ce k gu (W.iN+1) mk (P.recv W.n W.m W.v W.ce fr l.pk)):=by intro k gu mk P Wm a0 dw hP b6 hN b7;have hk:=(aj.1 hP).1;rw[<-ap];exact hN.recv (hW.pk k P hP) (hS.sm 0) ⟨hW.n1.2,hW.m1.2⟩ C (fr:=l.fr) (tt:=l.tt) (p:=l.pk) hl (jk aq b6) C dw b7
 have dg:Hid (∀(k p:Nat) (A:Ac) (qb:Nat->Nat) (Wm:World) (a0:Nat->Nat) (dw:Value),W.ac[k]?=some A->kg k=tt->Cl Wm a0 (100+32*k) p qb A.X->Ds Wm dw l.pk->(∀b,dw.ownBlock=some b->a0 b=9)->iB 102 #[O p,I fr,dw] Wm λen w'=>en=iw/\∃gI,jB (Mc (100+32*k)) Wm a0 w' gI/\Cl w' gI (100+32*k) p qb (A.X.recv fr l.pk)):=by intro k p A qb Wm a0 dw hA b6 hC b7 dk;rw[<-ap];have hx:=(hW.ac k A hA).x;refine Cl.recv (n:=W.n) (m:=W.m) (v:=W.v) hC C hx (hS.sm k) (hS.k1 k) (fr:=l.fr) (tt:=l.tt) (pk:=l.pk) (hl.L (sW W W 0 k jl jl)) (by rw[aq,<-b6];unfold kg;omega) (by exact_mod_cast uP hW.n1.2 hW.m1.2) hW.v1.2 dw b7 λb hb=>by rw[dk b hb];unfold Mc;omega
 have bn:Hid (∀(wr:World) (gI:Nat->Nat) (gl:Nat) (bv:Value),HF w gH wr gI gl bv fr tt (gN da D.length dc) D->Ds wr bv l.pk):=by intro wr gI gl bv hF;subst hD;exact hF.Yk hl (hS.sm 0)
 have dl:=gP (hW.ox hl);rw[hD]at dd c2 hd|-;rw[ap,aq];let⟨Z,b3⟩:=gJ (({W with a:=W.a+1,iN:=W.iN+1}:Wd):Wd);have ca:Hid (∀k,∃Wk:Wd,({Z with pl:=W.qS l k}:Wd)=Wk):=λk=>⟨_,rfl⟩;let⟨W1,bw⟩:=gJ (w.alloc (im #[I fr,I tt,gN da D.length dc] 138));have b1:=(Bl.refl w).alloc (im #[I fr,I tt,gN da D.length dc] 138);have b8:=ao w (im #[I fr,I tt,gN da D.length dc] 138);rw[bw]at b1 b8;have h1:=h.bl (gI:=iq gH w.heap.size 9) b1 λb hb=>gV _ _ _ _ hb;have k1:jB Ph w gH W1 (iq gH w.heap.size 9):=jB.B b1 9;have d1:Rd W1 (iq gH w.heap.size 9) 98 5 (gN da D.length dc) (D.map B8):=hd.bl b1 (λb hb e=>by rw[gV _ _ _ _ hb];exact e);have t1:iq gH w.heap.size 9 w.heap.size=9:=iJ _ _ _ _ jl;have c8:=h1.cellAt 8 rfl;have f8:=h1.M 8;have el:=h1.lt;have o1:Old W ps 0 W1 (iq gH w.heap.size 9):=λi P _ hP=>h1.a.pl i P hP;have h2:=(h1.QB (W.a+1)).D (a:=W.iN+1) oC;have k2:jB (λs=>s=1) W1 (iq gH w.heap.size 9) (W1.setCell (U g 8) (I (W.a+1))) (iq gH w.heap.size 9):=kn h1.tg 8 _;let⟨W2,bx⟩:=gJ (W1.setCell (U g 8) (I (W.a+1)));rw[bx]at h2 k2;rw[b3]at h2;have au:=k2.heap b8 t1 C;have o2:=o1.A k2 jl (λi t _ _ e=>C) bd;have d2:=d1.A k2 C;have K2:=k1.H (k2.L (Q:=Ph) λt e=>.inl e);have dn:IntKind.i64.wrap (W.a+1)=W.a+1:=vB;have bz:=gP (bX.c h2 (by rw[<-b3]) fr tt da D.length dc);have bo:Z.rR fr tt=W.rR fr tt:=by rw[<-b3];rfl
 rw[bo]at bz;have dt:=h2.lt;have aY:w.heap.size<W2.heap.size:=(ae.1 au.1).1;let⟨x0,x1,x2⟩:=oR au.1 0 1 2 rfl;let⟨Y,cb,cc,em⟩:=jR (And.intro au (And.intro o2 (And.intro d2 (And.intro K2 h2)))) bw bx hW;let⟨dO,cd,ep⟩:=iz hS b3 (And.intro c6 c7);have ce:Hid (W.rR fr tt=false->W.lS l=(W.ox l).js):=λe=>by unfold Wd.lS;rw[ap,aq,az (nN e)]
 have bA:Hid (W.rR fr tt=true->W.lS l=Z):=λe=>by unfold Wd.lS;rw[ap,aq,aE e,b3]
 have b5:=m9 ap aq;clear b1 b8 h1 k1 d1 o1 h2 k2 au o2 d2 K2 bw bx h hd c2 bo bX hl ca hD ap aq c6 c7 hW hS b3;generalize W.rR fr tt=pt at*;go_enter func66,ntmps66;go_upto_region 1 with fail;rw[cb.o];go_upto_region 2 with fail;rw[cc.o];clear cb cc c8 f8;go_upto_region 3 with(go_at_call 100;refine gT bz λw3 be=>?_;have b9:=gP be;have cf:=af aY be.lt;have z2:=(be.cell aY).H x2;clear be)
 cases pt with
 |true=>go_wp2;go_ret;refine⟨rfl,iq gH w.heap.size 9,Y.2.2.2.1.H (jB.A b9 λ_ _=>rfl),?_⟩;rw[bA.o (by first|rfl|trivial)];exact⟨_,Y.2.2.2.2.bl (gI:=iq gH w.heap.size 9) b9 λ_ _=>rfl⟩
 |false=>
 go_upto_region 6 with fail;have HN:Hid (w3.ownsRow w3.heap.size 5 1 OO 0 []):=mT;have cg:=gP ((Y.2.2.1.bl b9 λ_ _ e=>e).bs);have ch:Hid (0+(D.map B8).length<=maxLen):=by unfold Hid maxLen;rw[ay];omega
 have bp:Hid ((0+(D.map B8).length)*1<=140737488355328):=by unfold Hid;rw[ay];omega
 go_wp2_with(at_builtin;refine mN _ rfl _ _ 40 rfl w3.heap.size 5 i5 (.int .u8 0) 1 underlying40 ji d8 d9 db rfl _ 0 [] rfl HN _ _ rfl cg (DP D) ch bp gG ?_);intro v' w4 hG;obtain⟨gd,cap,dS⟩:∃gd cap,v'=gN gd D.length cap:=by
  obtain⟨e1,e⟩|⟨g,cap,eq,e,_⟩:=hG.ie.2
  .exact⟨none,0,by rw[e1];congr 1;omega⟩
  exact⟨_,cap,e⟩
 subst dS;have b4:Bl W2 w4:=b9.H (hG.only.te λk _ e=>ny e);have ci:∀b,(gN gd D.length cap).ownBlock=some b->iq gH w.heap.size 9 b=9:=λb hb=>iJ _ _ _ _ (gS ((hG.ie.lt b hb).1));have ck:Hid (HF w gH w4 (iq gH w.heap.size 9) w.heap.size (gN gd D.length cap) fr tt (gN da D.length dc) D):=⟨Y.2.2.2.1.H (jB.A b4 λ_ _=>rfl),(b4.heap aY).H Y.1.1,Y.1.2,⟨gZ hG.ie λ_ _=>ju,ci⟩,Y.2.2.1.bl b4 λ_ _ e=>e⟩;have cl:=gP (Y.2.2.2.2.bl (gI:=iq gH w.heap.size 9) b4 λ_ _=>rfl);have cn:Hid (Old W ps 0 w4 (iq gH w.heap.size 9)):=Y.2.1.A (P:=λ_=>False) (jB.A b4 λ_ _=>rfl) jl (λ_ _ _ _ _ e=>e) bd;clear hG b4 Y b9 HN cg ch bp bz x0 x1 x2 z2 cf aY dt ci;have ba:Hid (Z.n=W.n/\Z.m=W.m/\Z.v=W.v/\Z.ce=W.ce/\Z.pl=W.pl/\Z.ac=W.ac/\Z.iN=W.iN+1):=by rw[<-cd.o];exact⟨rfl,rfl,rfl,rfl,rfl,rfl,rfl⟩
 have co:Hid (jG w4 (iq gH w.heap.size 9) g {Z with pl:=W.qS l 0} ⟨gN pa W.pl.length pc,gN aa W.ac.length ac,lv,cv,hv,mv,ps,aw,ls,cs,tp⟩):=by have:=cl.o;rw[show W.qS l 0=Z.pl from Lv.H ba.2.2.2.2.1.symm];exact this
 have e5:Hid (({Z with pl:=W.qS l W.pl.length,ac:=W.sr l W.ac.length}:Wd)=W.ox l):=by unfold Hid Wd.ox;rw[<-cd.o]
 clear cl;go_wp2;go_loopw[7](λi wr=>∃(k:Nat) (gI:Nat->Nat),k<=W.pl.length/\i=I k/\Hid (HF w gH wr gI w.heap.size (gN gd D.length cap) fr tt (gN da D.length dc) D)/\Hid (jG wr gI g {Z with pl:=W.qS l k} ⟨gN pa W.pl.length pc,gN aa W.ac.length ac,lv,cv,hv,mv,ps,aw,ls,cs,tp⟩)/\Hid (Old W ps k wr gI)) λi _=>W.pl.length-(Go.RowKit.intOf i).toNat
 case atStart=>exact⟨0,_,ju,rfl,ck,co,cn⟩
 clear ck co cn;obtain⟨k,gI,hk,rfl,F,HX,bg⟩:=hrel;have c4:=HX.cellAt 4 rfl;have bB:=HX.lt;by_cases ja:k<W.pl.length
 .have cp:(k:Int)<(W.pl.length:Int):=C;let⟨Q,hQ⟩:=mm ja;have a8:=HX.a.row;simp only[F6]at a8;obtain⟨pb,rfl,_,er,b0,_⟩:=a8.cells C;obtain⟨gu,mk,bb,cq⟩:=bg k Q jl hQ;let⟨bC,e6⟩:=gO bb cq;obtain⟨e0,e1,e2,e3,e4⟩:=bb;have d0:=(b0 (k*5) C).H e0;have d1:=(b0 (k*5+1) C).H e1;have d3:=(b0 (k*5+3) C).H e3;have bD:w.heap.size<wr.heap.size:=(ae.1 F.box).1;let⟨x0,x1⟩:=qJ F.box 0 1 rfl;have HQ:=gP hQ;let⟨al,a9⟩:=gJ (jZ W.n W.m k);let⟨ar,ad⟩:=gJ Q.up;rw[a9]at d0;rw[ad]at d3;let⟨M,an⟩:=gO a9 ad;have ag:Hid (¬(al=tt/\ar=true)->∀nq,∃(k':Nat) (y:Nat->Nat),k'=k+1/\y=gI/\HF w gH (wr.drewN nq) y w.heap.size (gN gd D.length cap) fr tt (gN da D.length dc) D/\jG (wr.drewN nq) y g {Z with pl:=W.qS l k'} ⟨gN (G pb) W.pl.length pc,gN aa W.ac.length ac,lv,cv,hv,mv,ps,aw,ls,cs,tp⟩/\Old W ps k' (wr.drewN nq) y):=by
   intro bE nq;have hb:=(Bl.refl wr).drewN nq;have bR:¬(jZ W.n W.m k=l.tt/\Q.up=true):=by rw[M.o,an.o,b5.2];exact bE
   refine⟨k+1,gI,rfl,rfl,F.step (jB.A hb λ_ _=>rfl),?_,bg.A (P:=λ_=>False) (jB.A hb λ_ _=>rfl) oC (λ_ _ _ _ _ e=>e) bd⟩;rw[TN hQ bR];exact HX.bl hb λ_ _=>rfl
  have am:Hid (al=tt->ar=true->∀Wm,Bl wr Wm->iB 101 #[O gu,I fr,gN gd D.length cap] Wm λen w'=>en=iw/\∃y,jB (λt=>t=10+3*k\/t=11+3*k) wr gI w' y/\jG w' y g {Z with pl:=W.qS l (k+1)} ⟨gN (G pb) W.pl.length pc,gN aa W.ac.length ac,lv,cv,hv,mv,ps,aw,ls,cs,tp⟩):=by
   intro h1 h2 Wm ak;have kb:jB (λ_=>False) wr gI Wm gI:=jB.A ak λ_ _=>rfl;refine(c9 k gu mk Q Wm gI _ HQ (M.H h1) (e6.A kb gG gG gG) ((bn wr gI _ _ F).bl ak)).L ?_;rintro en w'⟨rfl,y,k2,e7⟩;refine⟨rfl,y,(jB.A ak λ_ _=>rfl).H k2,?_⟩;have bT:=HX.bl (gI:=gI) ak λ_ _=>rfl;obtain⟨a1,a2,a3,a4,a5,a6,a7⟩:=ba.o;have:=bT.Wo (u:=k) (k2.L λt e=>by obtain e|e:=e;exact .inl e;exact .inr (.inl e)) (P0:=Q) (P1:=Q.recv W.n W.m W.v W.ce fr l.pk) (by show(W.qS l k)[k]?=_;rw[S7];exact HQ) (gu:=gu) (mk:=mk) (by
    have hu:(Q.recv W.n W.m W.v W.ce fr l.pk).up=Q.up/\(Q.recv W.n W.m W.v W.ce fr l.pk).oB=Q.oB:=by
     unfold Pl.recv
     split
     .split<;>exact⟨rfl,rfl⟩
     .exact⟨rfl,rfl⟩
    rw[hu.1,hu.2]
    show Ib ps Z.n Z.m _ _ _ _ _
    rw[a1,a2]
    exact bC) (by
    show yU w' y Z.n Z.m Z.v Z.ce k gu Z.iN mk _
    rw[a1,a2,a3,a4,a7]
    exact e7)
   rw[Q6 HQ.o (by rw[M.o,b5.2];exact h1) (an.H h2),b5.1];exact this
  clear b0 e0 e1 e2 e3 e4 a8 a9 ad hQ cq;by_cases T:al=tt
  .cases ar with
   |true=>
    have bc:=gP (am T rfl);rw[T]at d0;clear T ag am M;go_upto_region 10 with fail;go_quiet(fail);go_upto_region 11 with fail;go_region_with(go_at_call 101;refine(bc _ ?hb).L ?_;(case hb=>repeat(first|exact jC|refine Bl.drew ?_|refine Bl.drewN ?_ _));rintro en w5⟨rfl,y,k2,hX⟩;let⟨bi,Y⟩:=gO k2 hX;clear k2 hX);all_goals(go_wp2)
    all_goals(refine⟨⟨k+1,y,C,iD,F.step (bi.L λt e=>.inl C),Y,bg.A bi oC (λi t _ _ e=>C) bd⟩,iC⟩)
   |false=>have ai:=gP (ag λe=>absurd e.2 gG);rw[T]at d0;clear T ag am M;go_upto_region 10 with fail;go_quiet(fail);go_wp2;obtain⟨k',y,rfl,rfl,f1,f2,f3⟩:=ai nq;exact⟨⟨k+1,y,C,iD,f1,f2,f3⟩,iC⟩
  have e8:decide (al=tt)=false:=by simpa using T
  have ai:=gP (ag λe=>T e.1);clear ag am M;go_upto_region 10 with fail;go_quiet(fail);go_wp2;obtain⟨k',y,rfl,rfl,f1,f2,f3⟩:=ai nq;exact⟨⟨k+1,y,C,iD,f1,f2,f3⟩,iC⟩
 have cr:¬((k:Int)<(W.pl.length:Int)):=C;have bm:k=W.pl.length:=C;have ct:Hid (jG wr gI g {Z with pl:=W.qS l W.pl.length,ac:=W.sr l 0} ⟨gN pa W.pl.length pc,gN aa W.ac.length ac,lv,cv,hv,mv,ps,aw,ls,cs,tp⟩):=by have:=HX.o;rw[bm]at this;rw[show W.sr l 0=Z.ac from MM.H ba.2.2.2.2.2.1.symm];exact this
 clear HX bg c9;go_wp2;clear c4 bB hk cr bm;go_loopw[8](λi wx=>∃(k:Nat) (y:Nat->Nat),k<=W.ac.length/\i=I k/\Hid (HF w gH wx y w.heap.size (gN gd D.length cap) fr tt (gN da D.length dc) D)/\Hid (jG wx y g {Z with pl:=W.qS l W.pl.length,ac:=W.sr l k} ⟨gN pa W.pl.length pc,gN aa W.ac.length ac,lv,cv,hv,mv,ps,aw,ls,cs,tp⟩)) λi _=>W.ac.length-(Go.RowKit.intOf i).toNat
 case atStart=>exact⟨0,gI,ju,rfl,F,ct⟩
 clear F ct gI;obtain⟨k,gI,hk,rfl,F,HX⟩:=hrel;have c5:=HX.cellAt 5 rfl;have bB:=HX.lt;by_cases ja:k<W.ac.length
 .have cp:(k:Int)<(W.ac.length:Int):=C;let⟨Q,hQ⟩:=mm ja;have a8:=HX.B.row;simp only[Qy]at a8;obtain⟨ab,rfl,_,es,b2,_⟩:=a8.cells C;obtain⟨p,qb,bb,cx⟩:=HX.B.ac k Q (by show(W.sr l k)[k]?=_;rw[De];exact hQ);let⟨bC,e9⟩:=gO bb cx;obtain⟨e0,e1,e2⟩:=bb;have d0:=(b2 (k*3) C).H e0;have d1:=(b2 (k*3+1) C).H e1;have d2:=(b2 (k*3+2) C).H e2;have bD:w.heap.size<wr.heap.size:=(ae.1 F.box).1;let⟨x0,x1⟩:=qJ F.box 0 1 rfl;have HQ:=gP hQ;let⟨al,a9⟩:=gJ (kg k);let⟨ar,ad⟩:=gJ Q.up;rw[a9]at d0;rw[ad]at d2;let⟨M,an⟩:=gO a9 ad;have ag:Hid (¬(al=tt/\ar=true)->∀nq,∃(k':Nat) (y:Nat->Nat),k'=k+1/\y=gI/\HF w gH (wr.drewN nq) y w.heap.size (gN gd D.length cap) fr tt (gN da D.length dc) D/\jG (wr.drewN nq) y g {Z with pl:=W.qS l W.pl.length,ac:=W.sr l k'} ⟨gN pa W.pl.length pc,gN (G ab) W.ac.length ac,lv,cv,hv,mv,ps,aw,ls,cs,tp⟩):=by
   intro bE nq;have hb:=(Bl.refl wr).drewN nq;have bR:¬(kg k=l.tt/\Q.up=true):=by rw[M.o,an.o,b5.2];exact bE
   refine⟨k+1,gI,rfl,rfl,F.step (jB.A hb λ_ _=>rfl),?_⟩;rw[RH hQ bR];exact HX.bl hb λ_ _=>rfl
  have am:Hid (al=tt->ar=true->∀Wm,Bl wr Wm->iB 102 #[O p,I fr,gN gd D.length cap] Wm λen w'=>en=iw/\∃y,jB (λt=>100<=t/\t<356) wr gI w' y/\jG w' y g {Z with pl:=W.qS l W.pl.length,ac:=W.sr l (k+1)} ⟨gN pa W.pl.length pc,gN (G ab) W.ac.length ac,lv,cv,hv,mv,ps,aw,ls,cs,tp⟩):=by
   intro h1 h2 Wm ak;have kb:jB (λ_=>False) wr gI Wm gI:=jB.A ak λ_ _=>rfl;refine(dg k p Q qb Wm gI _ HQ (M.H h1) (e9.bl ak λ_ _=>rfl) ((bn wr gI _ _ F).bl ak) F.data.gH).L ?_;rintro en w'⟨rfl,y,k2,ea⟩;have k3:=k2.L (Q:=λt=>100<=t/\t<356) λt e=>by unfold Mc at e;omega
   refine⟨rfl,y,(jB.A ak λ_ _=>rfl).H k3,?_⟩;have bT:=HX.bl (gI:=gI) ak λ_ _=>rfl;have:=bT.Sr (u:=k) k2 (λt e=>.inl (by unfold Mc at e;omega)) (A:=Q) (by show(W.sr l k)[k]?=_;rw[De];exact HQ) bC ea;rw[Qq HQ.o (by rw[M.o,b5.2];exact h1) (an.H h2),b5.1];exact this
  clear b2 e0 e1 e2 a8 a9 ad hQ cx;by_cases T:al=tt
  .cases ar with
   |true=>
    have bc:=gP (am T rfl);rw[T]at d0;clear T ag am M;go_upto_region 15 with fail;go_quiet(fail);go_upto_region 16 with fail;go_region_with(go_at_call 102;refine(bc _ ?hb).L ?_;(case hb=>repeat(first|exact jC|refine Bl.drew ?_|refine Bl.drewN ?_ _));rintro en w5⟨rfl,y,k2,hX⟩;let⟨bi,Y⟩:=gO k2 hX;clear k2 hX);all_goals(go_wp2)
    all_goals(refine⟨⟨k+1,y,C,iD,F.step (bi.L λt e=>.inr e),Y⟩,iC⟩)
   |false=>have ai:=gP (ag λe=>absurd e.2 gG);rw[T]at d0;clear T ag am M;go_upto_region 15 with fail;go_quiet(fail);go_wp2;obtain⟨k',y,rfl,rfl,f1,f2⟩:=ai nq;exact⟨⟨k+1,y,C,iD,f1,f2⟩,iC⟩
  have e8:decide (al=tt)=false:=by simpa using T
  have ai:=gP (ag λe=>T e.1);clear ag am M;go_upto_region 15 with fail;go_quiet(fail);go_wp2;obtain⟨k',y,rfl,rfl,f1,f2⟩:=ai nq;exact⟨⟨k+1,y,C,iD,f1,f2⟩,iC⟩
 have cr:¬((k:Int)<(W.ac.length:Int)):=C;have bm:k=W.ac.length:=C;have cP:Hid (jG wr gI g (W.ox l) ⟨gN pa W.pl.length pc,gN aa W.ac.length ac,lv,cv,hv,mv,ps,aw,ls,cs,tp⟩):=by have:=HX.o;rwa[bm,e5.o]at this
 have bD:w.heap.size<wr.heap.size:=(ae.1 F.box).1;have x2:wr.cell? (U w.heap.size 2)=some (gN da D.length dc):=ax wr _ 2 _ 138 (0,0) F.box;have v1:=kX _ D wr F.src.bs.sl;have v2:=kX _ D wr (i7 F.data.ie);have bV:=m9 F.k F.data;clear F HX;go_wp2;go_loopw[10](λi wx=>∃(j:Nat) (ds:List Value),j<=D.length/\i=I j/\ds.length=D.length/\Hid (jB Ph w gH wx gI)/\Hid (mC wx gI 9 5 1 (gN gd D.length cap) D.length ds)/\Hid (jG wx gI g (W.ox l) ⟨gN pa W.pl.length pc,gN aa W.ac.length ac,lv,cv,hv,mv,ps,aw,ls,cs,tp⟩)) λi _=>D.length-(Go.RowKit.intOf i).toNat
 case atStart=>exact⟨0,D.map B8,ju,rfl,gG,bV.1,bV.2,cP⟩
 clear bV cP v1 v2 x2 bD c5 bB;obtain⟨j,ds,hj,rfl,eb,cS,bW,cV⟩:=hrel;by_cases eu:j<D.length
 .have ev:(j:Int)<(D.length:Int):=C;obtain⟨ec,rfl,ee,ew,d4,d5⟩:=bW.cells C;have y0:=(d4 j C).H (ah C);have y1:=d5 j;generalize ds[j]=dj at*;clear d4 d5;go_wp2;have bq:jB (λs=>s=9) wr gI (wr.setCell (U ec j) (.int .u8 88)) gI:=kn ee j _;exact⟨⟨j+1,ds.set j (.int .u8 88),C,iD,iU eb,cS.H (bq.L λt e=>.inr (.inr (.inl e))),⟨sV bW.ie j _,bW.gH⟩,cV.A bq λt e=>.inr (.inr (.inl e))⟩,iC⟩
 have ei:¬((j:Int)<(D.length:Int)):=C;have d6:=gP (ot cV dl (by show W.iN+1<=_;omega) (by have:=dO.c;show W.gK.length<=_;omega));go_wp2_with(go_at_call 53;refine d6.L ?_;rintro en w9⟨rfl,d7,k9,h9⟩;let⟨ef,H9⟩:=gO k9 h9;clear k9 h9);go_ret;exact⟨rfl,d7,cS.H (ef.L λt e=>by unfold Ia at e;unfold Ph;omega),by rw[ce.o (by first|rfl|trivial)];exact H9⟩
def Pw(t:Nat):Prop:=t=1\/t=2\/t=4\/t=5\/t=8\/t=9\/t=97\/(10<=t/\t<52)\/(100<=t/\t<356)
theorem xX(h:Wk W)(k):∀d,(W.D k).iN<=(W.D (k+d)).iN
 |0=>jl
 |d+1=>by rw[<-cG,pZ];exact aF (xX h k d) (zG _ _).1.iN
def GU(W:Wd)(y:List Le)(j)(x)(h:y[j]?=some x):W.mJ (y.take (j+1))=(W.mJ (y.take j)).lS x:=by unfold Wd.mJ;rw[cW,h,dN];rfl
theorem EG(h:jG w gH g W V)(hW:Wk W)(hS:Sw W.step)(av:GA W.jT)(bV:0<W.ac.length):iB 68 #[O g] w λen w'=>en=gX (.tuple #[I W.jL.iA.length,.bool true])/\∃gI,jB Pw w gH w' gI/\Wx w' gI g W.step:=by
 have aw:=h.ht;let⟨tp,a0⟩:=gJ V.tp;let⟨tq,aY⟩:=gJ (105-tp);rw[a0]at aw;have bm:tq=8\/tq=97:=C;have bW:tp≠tq:=C;obtain⟨la,lc,ak⟩:=h.po.row.B;have a5:=h.po;rw[ak,a0]at a5;have bX:=h.b;have c0:=h.an;let⟨NN,bn⟩:=gJ (W.pl.length+W.ac.length);let⟨o1,o2,o3,o4⟩:=CW hW;let⟨s1,s2,s3,s4,s5⟩:=uC hW;let⟨g1,g2,g3⟩:=xE hW;have bo:Hid (∀k,k<NN->Wk (W.D k)/\Sw (W.D k)/\(W.D k).pl.length=W.pl.length/\(W.D k).ac.length=W.ac.length):=λk hk=>by
  let⟨a1,a2,a3,a4⟩:=uA hW k;have hm:=xX hW k (NN-k);rw[show k+(NN-k)=NN by omega]at hm;have he:(W.D NN).iN=W.jL.iN:=by rw[Ka,bn]
  have hc:=hS.c;rw[s2.ca]at hc;exact⟨a1,⟨gS hS.a,by rw[a2.ca];exact hc⟩,a2.pl,a2.ac⟩
 let⟨L,hL⟩:=gJ W.jL.iA.length;let⟨T,a6⟩:=gJ (({W.jL with iA:=W.iA}:Wd):Wd);rw[a6]at g1 g2 g3;have bp:Hid (∀j x,W.jL.iA[j]?=some x->Wk (T.mJ (W.jL.iA.take j))/\Sw (T.mJ (W.jL.iA.take j))/\(T.mJ (W.jL.iA.take j)).jT=W.jT/\uH ((T.mJ (W.jL.iA.take j)).A 0) (T.mJ (W.jL.iA.take j)).n (T.mJ (W.jL.iA.take j)).m (T.mJ (W.jL.iA.take j)).v x):=λj x hx=>by
  have al:∀l∈W.jL.iA,uH (T.A 0) T.n T.m T.v l:=by rw[g2.n,g2.m,g2.v];exact g3
  obtain⟨r1,r2,r3,r4⟩:=vV (W.jL.iA.take j) g1 λl hl=>al l (ed _ _|>.subset hl);let⟨_,_,q3,_⟩:=vV W.jL.iA g1 al;have c1:W.step.iN=T.iN+W.jL.iA.length:=by rw[<-q3,<-a6];rfl
  have hc:=hS.c;rw[s2.ca]at hc;refine⟨r1,⟨?_,by rw[r2.ca,g2.ca];exact hc⟩,r2.ms.H g2.ms,r2.le (al x (aR hx))⟩;have:=hS.a;rw[r3];have:(W.jL.iA.take j).length<=W.jL.iA.length:=by rw[bH];omega
  omega
 have a7:W.step=T.mJ W.jL.iA:=by rw[<-a6];rfl
 have c6:=h.cellAt 6 rfl;rw[ak]at c6;have f6:=h.M 6;have lg:=h.lt;have h1:=h.Kq (so.nil (w:=w) (gH:=gH) tq) bm;have k1:jB (λs=>s=1) w gH (w.setCell (U g 6) OO) gH:=kn h.tg 6 _;have a8:=a5.A k1 C C;let⟨W1,am⟩:=gJ (w.setCell (U g 6) OO);rw[am]at h1 k1 a8;let⟨b0,H1,Hh⟩:=iz am (And.intro h1 (And.intro (k1.L (Q:=Pw) λt e=>.inl e) a8)) (And.intro a6 a7);let⟨HL,bq⟩:=gO hL av;have ai:Hid (W.jL.pl.length=W.pl.length/\W.jL.ac.length=W.ac.length):=⟨o2.pl,o2.ac⟩;rw[hL];clear h hW hS h1 k1 a8 am a5 o1 o2 o3 s1 s2 s3 s4 s5 g1 g2 g3 a6 a7 av ak a0 aY;generalize V.ls=bs at*;go_enter func68,ntmps68;go_upto_region 3 with fail;rw[b0.o];clear b0 c6 f6;go_wp2;go_loopw[5](λi wr=>∃(k:Nat) (gI:Nat->Nat) (V':WV),k<=NN/\i=I k/\V'.tp=tq/\Hid (jG wr gI g (W.D k) V')/\Hid (jB Pw w gH wr gI)/\Hid (so wr gI tp W.iA (gN la W.iA.length lc) bs)) λi _=>NN-(Go.RowKit.intOf i).toNat
 case atStart=>exact⟨0,gH,_,ju,rfl,rfl,H1.1,H1.2.1,H1.2.2⟩
 clear H1;obtain⟨k,gI,V',hk,rfl,b1,HX,HK,HP⟩:=hrel;obtain⟨pa,pc,bv⟩:=HX.a.row.B;obtain⟨aa,ac,bw⟩:=HX.B.row.B;let⟨c4,c5⟩:=HX.R 4 5 rfl;rw[bv]at c4;rw[bw]at c5;have c2:=HX.lt;by_cases ja:k<NN
 .let⟨a1,a2,a3,a4⟩:=bo k ja;rw[a3]at c4;rw[a4]at c5;have bR:(k:Int)<(W.pl.length:Int)+(W.ac.length:Int):=C;have HO:Hid (∀Wm,Bl wr Wm->iB 65 #[O g,I k] Wm λen w'=>en=gX (.bool true)/\∃F,jB (Po tq) wr gI w' F/\∃V2,V2.tp=tq/\jG w' F g (W.D (k+1)) V2):=by
   intro Wm hb;rw[pZ];have bx:pk (k:Int) ((W.D k).pl.length+(W.D k).ac.length)=(k:Int):=by unfold pk;rw[az C];exact Int.emod_eq_of_lt C C
   refine(Kg (HX.bl (gI:=gI) hb λ_ _=>rfl) a1 a2 (k:Int) C C k bx C).L ?_;rintro en w'⟨e,F,k2,V2,e2,hX⟩;rw[b1]at k2 e2;exact⟨e,F,(jB.A (gI:=gI) hb λ_ _=>rfl).H k2,V2,e2,hX⟩
  clear a1 a2 a3 a4;go_upto_region 4 with fail;go_quiet(fail);go_wp2_with(go_at_call 65;refine(HO _ (jC.drewN _)).L ?_;rintro en w2⟨rfl,F,k2,V2,e2,Z⟩;let⟨b3,bz,bA⟩:=iz k2 Z e2;clear k2 Z e2);exact⟨⟨k+1,F,V2,C,iD,bA,bz,HK.H (b3.L λt e=>by unfold Po at e;unfold Pw;omega),HP.A b3 (by unfold Po;omega) (by unfold Po;omega)⟩,iC⟩
 have c3:¬((k:Int)<(W.pl.length:Int)+(W.ac.length:Int)):=C;have Z:=HX.o;rw[show k=W.pl.length+W.ac.length by omega]at Z;have y:jG wr gI g W.jL V':=Z;rw[show(W.D k).pl.length=W.pl.length by rw[show k=W.pl.length+W.ac.length by omega];exact ai.1]at c4;rw[show(W.D k).ac.length=W.ac.length by rw[show k=W.pl.length+W.ac.length by omega];exact ai.2]at c5;obtain⟨lb,bB,a9⟩:=y.po.row.B;rw[HL.o]at a9;let⟨b4,b5⟩:=gO y a9;clear HX Z y a9;go_upto_region 4 with fail;go_quiet(fail);let⟨W2,an⟩:=gJ (wr.drewN nq);have b2:Bl wr W2:=by rw[<-an];exact jC.drewN nq
 rw[an];clear an;have y:=b4.bl (gI:=gI) b2 λ_ _=>rfl;have c6:=y.cellAt 6 rfl;rw[b5.o]at c6;have f6:=y.M 6;have c7:=y.lt;have ap:=y.po;rw[b5.o,b1]at ap;have b6:=HP.A (P:=λ_=>False) (jB.A (gI:=gI) b2 λ_ _=>rfl) gG gG;have h4:=y.Kq b6 aw;have k4:jB (λs=>s=1) W2 gI (W2.setCell (U g 6) (gN la W.iA.length lc)) gI:=kn y.tg 6 _;have ab:=ap.A k4 C C;have aq:=(HK.H (jB.A (gI:=gI) b2 λ_ _=>rfl)).H (k4.L (Q:=Pw) λt e=>.inl e);let⟨W3,ar⟩:=gJ (W2.setCell (U g 6) (gN la W.iA.length lc));rw[ar]at h4 ab aq;rw[Hh.1]at h4;let⟨b7,b8,b9,ba⟩:=jR h4 ab aq ar;clear y ap h4 k4 ab aq HK b4 ar b2 b6 HP;go_upto_region 11 with fail;rw[ba.o];clear ba c6 f6 c4 c5;go_wp2;generalize V'.ls=bC at*;go_loopw[8](λi wx=>∃(j:Nat) (M:Nat->Nat) (Vx:WV),j<=L/\i=I j/\Hid (jB Pw w gH wx M)/\Hid (jG wx M g (T.mJ (W.jL.iA.take j)) Vx)/\Hid (so wx M tq W.jL.iA (gN lb L bB) bC)) λi _=>L-(Go.RowKit.intOf i).toNat
 case atStart=>exact⟨0,gI,_,ju,rfl,b9,by rw[eE];exact b7,b8⟩
 clear b9 b7 b8;obtain⟨j,M,Vx,hj,rfl,bb,bc,au⟩:=hrel;by_cases bD:j<L
 .have c8:(j:Int)<(L:Int):=C;have bd:j<W.jL.iA.length:=jk HL.o bD;let⟨x,hx⟩:=mm bd;let⟨a1,a2,a3,a4⟩:=bp j x hx;obtain⟨e0,e1,dv,e2,e3⟩:=au.l j x hx;have ad:=au.row;rw[HL.o]at ad;obtain⟨c9,rfl,_,ca,Y,_⟩:=ad.cells C;have d0:=(Y (j*3) C).H e0;have d1:=(Y (j*3+1) C).H e1;have d2:=(Y (j*3+2) C).H e2;have HH:=gP (vZ bc a1 a2 (jk a3 bq) x dv e3 a4);rw[<-GU T W.jL.iA j x hx]at HH;obtain⟨da,dc,rfl⟩:=e3.B;generalize x.fr=xf at*;generalize x.tt=xt at*;rw[ay]at d2 HH;generalize x.pk.bytes.length=bl at*;clear Y e0 e1 e2 e3 ad a1 a2 a3 a4 hx bd;go_wp2_with(go_at_call 66;refine HH.L ?_;rintro en w5⟨rfl,be,k5,V5,h5⟩;let⟨bg,bE⟩:=gO k5 h5;clear k5 h5);exact⟨⟨j+1,be,V5,C,iD,bb.H (bg.L λt e=>by unfold Ph at e;unfold Pw;omega),bE,au.A bg (by unfold Ph;omega) (by unfold Ph;omega)⟩,iC⟩
 have bT:¬((j:Int)<(L:Int)):=C;have ag:=bc.o;rw[bI (pI HL.o),<-Hh.2]at ag;have bi:=gP ag;clear ag;go_wp2;go_ret2;exact⟨rfl,M,bb,_,bi⟩
def Mr(W:Wd)(k):W.qz (k+1)=if W.jL.iA.length=0 then(W.step,true)else W.step.qz k:=rfl
theorem vY(h:jG w gH g W V)(hW:Wk W)(most)(hm:most<=300)(hS:W.iN+2422*most<=3000000000)(hC:W.gK.length<=9999999)(Z:GA W.jT)(a1:0<W.ac.length):iB 58 #[O g,I most] w λen w'=>en=gX (.bool (W.qz most).2)/\∃gI,jB Pw w gH w' gI/\Wx w' gI g (W.qz most).1:=by
 have H:=my h hW Z;clear h hW Z;go_enter func58,ntmps58;go_wp2_with fail;go_loopw[5](λi wr=>∃(k:Nat) (gI:Nat->Nat) (y:Wd) (Vc:WV),k<=most/\i=I k/\Hid (jB Pw w gH wr gI)/\Hid (jG wr gI g y Vc)/\Hid (Wk y/\y.qz (most-k)=W.qz most/\y.iN+2422*(most-k)<=3000000000/\y.gK.length<=9999999/\GA y.jT/\0<y.ac.length)) λi _=>most-(Go.RowKit.intOf i).toNat
 case atStart=>exact⟨0,gH,W,V,C,rfl,jB.refl,H.1,H.2.1,rfl,hS,hC,H.2.2,a1⟩
 clear H;obtain⟨k,gI,y,Vc,hk,rfl,HK,HX,HI⟩:=hrel;by_cases ja:k<most
 .have a4:(k:Int)<(most:Int):=C;obtain⟨i1,F,i3,i4,i5,i6⟩:=HI.o;let⟨s1,Y,s3,s4,s5⟩:=uC i1;have a0:most-k=(most-(k+1))+1:=C;have M:Sw y.step:=⟨C,by rw[Y.ca];exact i4⟩;have HS:=gP (EG HX i1 M i5 i6);let⟨L,hL⟩:=gJ y.jL.iA.length;rw[hL]at HS;rw[a0,Mr,hL]at F;by_cases h0:L=0
  .rw[aE h0]at F;have a2:=gP F;subst h0;clear i1 F i3 i4 i5 i6 s1 Y s3 s4 s5 M HI;go_wp2_with(go_at_call 68;refine HS.L ?_;rintro en w5⟨rfl,A,k5,h5⟩;let⟨Q,T⟩:=gO k5 h5;clear k5 h5);go_ret;rw[<-a2.o];exact⟨rfl,A,HK.H Q,T⟩
  have a5:¬((L:Int)=0):=C;rw[az h0]at F;have a3:Hid (Wk y.step/\y.step.qz (most-(k+1))=W.qz most/\y.step.iN+2422*(most-(k+1))<=3000000000/\y.step.gK.length<=9999999/\GA y.step.jT/\0<y.step.ac.length):=⟨s1,F,C,by rw[Y.ca];exact i4,by rw[Y.ms];exact i5,by rw[Y.ac];exact i6⟩;clear i1 F i3 i4 i5 i6 s1 Y s3 s4 s5 M HI h0 hL;go_wp2_with(go_at_call 68;refine HS.L ?_;rintro en w5⟨rfl,A,k5,V5,h5⟩;let⟨Q,T⟩:=gO k5 h5;clear k5 h5);exact⟨⟨k+1,A,_,V5,C,iD,HK.H Q,T,a3⟩,iC⟩
 have a6:¬((k:Int)<(most:Int)):=C;have hz:Hid ((y,false)=W.qz most):=by have:=HI.2.1;rwa[show most-k=0 by omega]at this
 go_wp2;go_ret;rw[<-hz.o];exact⟨rfl,gI,HK,_,HX⟩
def Ag(h:jG w gH g W V)(T:Wk W)(Y:Sw W){A:Ac}(Q:W.ac[i]?=some A){p:Nat}(H:Oa V.aw i p A.up)(L:Cl w gH (100+32*i) p qb A.X):iB 57 #[O p] w λZ w'=>Z=iw/\∃gI,jB (Mc (100+32*i)) w gH w' gI/\jG w' gI g (W.qi i A.X.nM) V:=by
 let⟨VC,hK⟩:=L;have F:=(T.ac i A Q).x;have y:=Y.sm i;have ha:=F.pJ;have hk:=y.k;have hr:=F.Ld y;refine gT (O7 _ (SG hK C (F.QT y) (F.xn y) C C F.pl λc M=>by have:=(F.d c M).q.nl;omega)) λw' hs=>?_;obtain⟨gI,k,M⟩:=hs.A;exact⟨rfl,gI,k,h.qi k Q H M⟩
def pB(l:List Int)(t:Nat):Bool:=l.any λx=>x==(t:Int)
def Wd.sq(W:Wd):Nat:=((List.range W.lM).find? λt=> !(pB W.mw t)).getD W.lM
def O9(y:k<W.lM)(h:∀t,t<k->pB W.mw t=true)(A:pB W.mw k=false):W.sq=k:=by unfold Wd.sq;rw[(List.find?_range_eq_some (p:=λt=> !(pB W.mw t)) (i:=k)).2 ⟨nN A,di.2 y,λj F=>by simp[h j F]⟩];rfl
def Ln(h:∀t,t<W.lM->pB W.mw t=true):W.sq=W.lM:=by unfold Wd.sq;rw[bU.2 λt y=>by simp[h t (di.1 y)]];rfl
def NO{m:Nat}{x:Int}(h:l[m]?=some x):pB (l.take (m+1)) t=(pB (l.take m) t||x==(t:Int)):=by obtain⟨y,rfl⟩:=aj.1 h;unfold pB;rw[aM y,fB];simp
theorem MB(h:jG w gH g W V)(hk:Wk W)(hl:W.mw.length<=1000000000000):Calls prog 36 #[O g] w λen w'=>en=.returned (I W.sq)/\Bl w w':=by
 obtain⟨ha,hc,Y⟩:=h.ha.B;have M:=h.ha;rw[Y]at M;have c9:w.cell? (U g 9)=some (gN ha W.mw.length hc):=by rw[<-Y];exact h.cellAt 9 rfl
 have lg:=h.lt;have a4:∀(m:Nat) (x:Int),W.mw[m]?=some x->∃hb,ha=G hb/\hb<w.heap.size/\w.cell? (U hb m)=some (I x):=λm x Z=>by have hm:=(aj.1 Z).1;obtain⟨hb,e1,_,e2,e3,_⟩:=M.cells C;refine⟨hb,e1,e2,(e3 m C).H ?_⟩;rw[aK,Z];rfl
 have T:=Fm hk.n1.2 hk.c1.2;have ec:((W.lM:Nat):Int)=(W.n:Int)*W.ce:=by show((W.n*W.ce:Nat):Int)=_;simp
 have a5:W.lM<=48:=T;have a0:Hid (∀Wm,Bl w Wm->Calls prog 27 #[O g] Wm λen w'=>en=.returned (I (W.lM:Nat))/\Bl Wm w'):=λWm hb=>by have:=uG (h.bl (gI:=gH) hb λ_ _=>rfl) hk;rwa[<-ec]at this
 have ad:=gP a4;have a1:Hid (∀k,k<W.lM->(∀t,t<k->pB W.mw t=true)->pB W.mw k=false->W.sq=k):=λk a b c=>O9 a b c;have a2:Hid ((∀t,t<W.lM->pB W.mw t=true)->W.sq=W.lM):=λa=>Ln a;have a6:Hid (∀t,pB (W.mw.take W.mw.length) t=pB W.mw t):=λt=>by rw[bZ]
 let⟨TT,a7⟩:=gJ W.lM;rw[a7]at a0 a5 a1 a2;let⟨FR,a8⟩:=gJ W.sq;rw[a8]at a1 a2|-;clear h hk M a4 T ec a7 a8 Y;go_enter func36,ntmps36;go_wp2_with fail;go_loopw[3](λt wr=>∃k:Nat,k<=TT/\t=I k/\Hid (Bl w wr/\∀t,t<k->pB W.mw t=true)) λt _=>TT-(Go.RowKit.intOf t).toNat
 case atStart=>exact⟨0,ju,rfl,jC,λt ht=>absurd ht C⟩
 obtain⟨k,hk,rfl,HI⟩:=hrel;have ag:=gP (a0 wr HI.1);by_cases ja:k<TT
 .have aq:(k:Int)<(TT:Int):=C;go_wp2_with(go_at_call 27;refine ag.L ?_;rintro en w2⟨rfl,a9⟩;have A:=gP (HI.1.H a9);clear a9);have av:=(A.cell lg).H c9;have aw:=af lg A.lt;go_loopw[4,5](λb j wx=>∃m:Nat,m<=W.mw.length/\b=.bool (pB (W.mw.take m) k)/\j=I m/\wx=w2) λ_ j _=>W.mw.length-(Go.RowKit.intOf j).toNat
  case atStart=>exact⟨0,ju,by simp[pB],rfl,rfl⟩
  obtain⟨m,hm,rfl,rfl,rfl⟩:=hrel;by_cases ai:m<W.mw.length
  .have ak:(m:Int)<(W.mw.length:Int):=C;let⟨x,Z⟩:=mm ai;obtain⟨hb,rfl,ab,al⟩:=ad m x Z;have ar:=(A.cell ab).H al;have au:=af ab A.lt;have F:=NO (t:=k) Z
   cases y:pB (W.mw.take m) k with
   |true=>rw[y]at F;have Q:=gP F;clear F y Z;go_wp2;exact⟨⟨m+1,C,by rw[Q.o];rfl,iD,by trivial⟩,iC⟩
   |false=>
    rw[y]at F;have Q:=gP F;clear F y Z;by_cases am:x=(k:Int)
    .subst am;go_wp2;exact⟨⟨m+1,C,nG Q.o,iD,by trivial⟩,iC⟩
    go_wp2;exact⟨⟨m+1,C,nG Q.o,iD,by trivial⟩,iC⟩
  have ak:¬((m:Int)<(W.mw.length:Int)):=C;have an:m=W.mw.length:=C;subst an;rw[a6.o k]
  cases y:pB W.mw k with
  |true=>
   have Hb:=gP y;clear y;go_wp2;exact⟨⟨k+1,C,iD,A,λt ht=>by
    by_cases e:t=k
    .rw[e];exact Hb
    .exact HI.2 t C⟩,iC⟩
  |false=>have Hb:=gP y;clear y;go_wp2;go_ret;exact⟨by rw[a1.o k ja HI.2 Hb.o];rfl,A⟩
 have aY:¬((k:Int)<(TT:Int)):=C;have ap:k=TT:=C;subst ap;go_wp2_with(go_at_call 27;refine(a0 _ ?hb).L ?_;(case hb=>first|exact HI.1|exact a3);rintro en w3⟨rfl,ac⟩;have a3:Hid (Bl w w3):=Bl.H (by first|exact HI.1|exact a3) ac;clear ac);go_ret;exact⟨by rw[a2.o HI.2];rfl,a3⟩
namespace Wd
def oP(W:Wd)(i:Nat):Nat->Wd
 |0=>W
 |k+1=>(W.oP i k).ld i 0 (W.oP i k).sq
def nH(W:Wd)(i:Nat):Wd:=match W.ac[i]? with
 |none=>W
 |some A=>if A.up then(W.qi i A.X.nM).oP i A.X.nM.jA.length else W
def j0(W:Wd)(k:Nat):Wd:=(List.range k).foldl nH W
def round(W:Wd):Wd×Bool:=(W.j0 W.ac.length).qz 300
end Wd
structure Kp(d:Nat)(W W':Wd):Prop where
 k:Wk W'
 iN:W'.iN<=W.iN+d
 cl:W'.gK.length=W.gK.length
 ms:W'.jT=W.jT
 a:W'.ac.length=W.ac.length
 s:W'.n=W.n/\W'.m=W.m/\W'.v=W.v/\W'.ce=W.ce
def Kp.refl(h:Wk W):Kp 0 W W:=⟨h,jl,rfl,rfl,rfl,rfl,rfl,rfl,rfl⟩
def Kp.H{d e:Nat}{W2:Wd}(h:Kp d W W')(k:Kp e W' W2):Kp (d+e) W W2:=⟨k.k,by have:=h.iN;have:=k.iN;omega,k.cl.H h.cl,k.ms.H h.ms,k.a.H h.a,k.s.1.H h.s.1,k.s.2.1.H h.s.2.1,k.s.2.2.1.H h.s.2.2.1,k.s.2.2.2.H h.s.2.2.2⟩
def Kp.L{d e:Nat}(h:Kp d W W')(y:d<=e):Kp e W W':=⟨h.k,gS h.iN,h.cl,h.ms,h.a,h.s⟩
def Qd(W:Wd)(a which t):(W.ld a which t).n=W.n/\(W.ld a which t).m=W.m/\(W.ld a which t).v=W.v/\(W.ld a which t).ce=W.ce:=by
 obtain e|⟨A,n,_,_,_,e⟩:=sK W a which t
 .rw[e];exact⟨rfl,rfl,rfl,rfl⟩
 rw[e];exact⟨rfl,rfl,rfl,rfl⟩
def Kp.ld(h:Wk W)(a which t):Kp 2 W (W.ld a which t):=by let⟨y,A,F,H,L,_⟩:=JK h a which t;exact⟨y,A,F,H,L,Qd W a which t⟩
theorem Kp.oP(h:Wk W)(i):∀k,Kp (2*k) W (W.oP i k)
 |0=>Kp.refl h
 |k+1=>(Kp.oP h i k).H (Kp.ld (Kp.oP h i k).k _ _ _)
def Kp.nM(h:Wk W){A:Ac}(y:W.ac[i]?=some A):Kp 1 W (W.qi i A.X.nM):=
 ⟨h.qi y (h.ac i A y).nM,jl,rfl,rfl,cy ..,rfl,rfl,rfl,rfl⟩
def Cw(h:X.a.length<=8):X.jA.length<=8:=by unfold Cx.jA;rw[ay];exact aF (bF _ _) h
def Kj(h:Wk W){A:Ac}(y:W.ac[i]?=some A):A.X.nM.a.length<=8:=((h.ac i A y).nM).1.pl
def Kp.nH(h:Wk W)(i):Kp 17 W (W.nH i):=by
 unfold Wd.nH;split
 .exact(Kp.refl h).L C
 rename_i A y;split
 .have F:=Kp.nM h y;have:=Cw (Kj h y);exact(F.H (Kp.oP F.k i _)).L C
 exact(Kp.refl h).L C
def qy(W:Wd)(k):W.j0 (k+1)=(W.j0 k).nH k:=by unfold Wd.j0;rw[dp,dN];rfl
theorem Kp.j0(h:Wk W):∀k,Kp (17*k) W (W.j0 k)
 |0=>Kp.refl h
 |k+1=>by rw[qy];exact(Kp.j0 h k).H (Kp.nH (Kp.j0 h k).k k)
def Pr(t:Nat):Prop:=Pw t\/Pg t
theorem LU(h:jG w gH g W V)(hW:Wk W)(hS:W.iN+136+2422*300<=3000000000)(hC:W.gK.length<=9999999)(aq:GA W.jT)(ar:0<W.ac.length):iB 37 #[O g] w λen w'=>en=gX (.bool W.round.2)/\∃gI,jB Pr w gH w' gI/\Wx w' gI g W.round.1:=by
 have bv:=h.an;have HT:Hid (∀k,k<=W.ac.length->Kp (17*k) W (W.j0 k)):=λk _=>Kp.j0 hW k;let⟨H,bb⟩:=gO h aq;clear h hW aq;go_enter func37,ntmps37;go_wp2_with fail;go_loopw[3](λi wr=>∃(k:Nat) (gI:Nat->Nat) (V':WV),k<=W.ac.length/\i=I k/\Hid (jB Pr w gH wr gI)/\Hid (jG wr gI g (W.j0 k) V')) λi _=>W.ac.length-(Go.RowKit.intOf i).toNat
 case atStart=>exact⟨0,gH,V,ju,rfl,jB.refl,H⟩
 clear H;obtain⟨k,gI,V',hk,rfl,HK,HX⟩:=hrel;have M:=gP (HT k hk);obtain⟨aa,ac,a9⟩:=HX.B.row.B;have c5:=HX.cellAt 5 rfl;rw[a9,M.a]at c5;have bw:=HX.lt;by_cases ja:k<W.ac.length
 .have bp:(k:Int)<(W.ac.length:Int):=C;obtain⟨A,hA⟩:∃A,(W.j0 k).ac[k]?=some A:=⟨_,ah (by rw[M.a];exact ja)⟩;have Y:=HX.B.row;rw[a9,M.a]at Y;obtain⟨ab,rfl,_,bx,Z,_⟩:=Y.cells C;obtain⟨p,qb,a3,au⟩:=HX.B.ac k A hA;have d1:=(Z (k*3+1) C).H a3.2.1;have d2:=(Z (k*3+2) C).H a3.2.2;have av:Sw (W.j0 k):=⟨gS M.iN,by rw[M.cl];exact hC⟩;have ad:=gP (Ag HX M.k av hA a3 au);have y:W.j0 (k+1)=(W.j0 k).nH k:=qy W k;unfold Wd.nH at y;rw[hA]at y;dsimp only at y;let⟨up,aw⟩:=gJ A.up;rw[aw]at d2 y;have HA:=gP hA;clear Z Y a3 au a9 aw hA av
  cases up with
  |true=>
   rw[aE rfl]at y;let⟨W2,a4⟩:=gJ ((W.j0 k).qi k A.X.nM);have a5:Kp (17*k+1) W W2:=by rw[<-a4];exact M.H (Kp.nM M.k HA)
   have a6:W2.ac[k]?=some {A with X:=A.X.nM}:=by rw[<-a4];show((W.j0 k).ac.modify k _)[k]?=_;rw[bS,HA.o];simp
   have aY:=Cw (Kj M.k HA);rw[a4]at y ad;have ag:=(a5.k.ac k _ a6).x;have ai:Hid (A.X.nM.a.length<=8/\∀c∈A.X.nM.a,c.q.nodes.length<=100):=⟨ag.pl,λc hc=>by have:=(ag.d c hc).q.nl;omega⟩;let⟨XT,b0⟩:=gJ A.X.nM;rw[b0]at y aY a6 ai;have HG:Hid (∀j,j<=XT.jA.length->Kp (17*k+17) W (W2.oP k j)):=λj hj=>(a5.H (Kp.oP a5.k k j)).L C;let⟨ak,bc⟩:=gO y a6;clear y a5 a6 a4 ag b0;go_upto_region 6 with(go_at_call 57;refine ad.L ?_;rintro en w5⟨rfl,a0,k5,h5⟩;let⟨al,Q⟩:=gO k5 h5;clear k5 h5);obtain⟨p5,bz,a7,a8⟩:=Q.B.ac k _ bc;have b1:Hid (iB 24 #[O p5] w5 λen w'=>∃a cap,en=gX (gN a XT.jA.length cap)/\w'.ownsRow w5.heap.size 3 1 (gN a XT.jA.length cap) XT.jA.length (XT.jA.map λ(n:Nat)=>I (n:Int))/\Bl w5 w'):=by let⟨VC,hK⟩:=a8;exact BS hK ai.1 ai.2
   obtain⟨bA,bB,a1⟩:=Q.B.row.B;have am:W2.ac.length=W.ac.length:=(HG 0 ju).a;have bd:=Q.cellAt 5 rfl;rw[a1,am]at bd;have T:=Q.B.row;rw[a1,am]at T;obtain⟨bC,rfl,_,bq,a2,_⟩:=T.cells C;have e1:=(a2 (k*3+1) C).H a7.2.1;have bD:=Q.lt;clear a2 T a7 a8 a1 am ad c5 d1 d2;let⟨nw,b2⟩:=gJ XT.jA.length;rw[b2]at b1 aY HG;go_upto_region 7 with(go_at_call 24;refine b1.L ?_;rintro en w6⟨wa,bs,rfl,_,b3⟩;have b4:=gP b3;clear b3);go_wp2;go_loopw[5](λt wx=>∃(j:Nat) (F:Nat->Nat) (Vj:WV),j<=nw/\t=I j/\Hid (jB Pr w gH wx F)/\Hid (jG wx F g (W2.oP k j) Vj)) λt _=>nw-(Go.RowKit.intOf t).toNat
   case atStart=>exact⟨0,a0,_,ju,rfl,(HK.H (al.L λt e=>.inl (by unfold Mc at e;unfold Pw;omega))).H (jB.A b4 λ_ _=>rfl),Q.bl b4 λ_ _=>rfl⟩
   obtain⟨j,F,Vj,hj,rfl,b5,an⟩:=hrel;by_cases bE:j<nw
   .have be:(j:Int)<(nw:Int):=C;have kj:=HG j hj;have HF:=gP (MB an kj.k (by have:=kj.k.hd;have:=kj.iN;omega));have b6:=kj.iN;have b7:Hid (∀w7,Bl wr w7->iB 29 #[O g,I k,I 0,I (W2.oP k j).sq] w7 λen w'=>en=gX (.bool true)/\∃gI,jB Pg w7 F w' gI/\Wx w' gI g (W2.oP k (j+1))):=λw7 bg=>EX (an.bl (gI:=F) bg λ_ _=>rfl) kj.k C (by rw[kj.cl];exact hC) k 0 _ ⟨C,C⟩ ⟨C,C⟩ (by rw[kj.a];exact ar);let⟨fr,b8⟩:=gJ ((W2.oP k j).sq);rw[b8]at HF b7;clear kj b8;go_wp2_with(first|(go_at_call 36;refine iO HF λw7 b9=>?_)|(go_at_call 29;refine(b7 _ b9).L ?_;rintro en w8⟨rfl,ba,k8,h8⟩;let⟨bi,bl⟩:=gO k8 h8;clear k8 h8));obtain⟨V8,h8⟩:=bl.o;exact⟨⟨j+1,ba,V8,C,iD,(b5.H (jB.A (gI:=F) b9 λ_ _=>rfl)).H (bi.L λt e=>.inr e),h8⟩,iC⟩
   have be:¬((j:Int)<(nw:Int)):=C;have bm:j=nw:=C;subst bm;go_wp2;exact⟨⟨k+1,F,Vj,C,iD,b5,by rw[ak.o,b2];exact an⟩,iC⟩
  |false=>rw[az gG]at y;have ak:=gP y;clear y;go_wp2;exact⟨⟨k+1,gI,V',C,iD,HK,jk ak.o HX⟩,iC⟩
 have bR:¬((k:Int)<(W.ac.length:Int)):=C;have bn:k=W.ac.length:=C;subst bn;have kk:=M.o;have b6:=kk.iN;have HE:=gP (vY (W:=W.j0 W.ac.length) HX kk.k 300 jl C (by rw[kk.cl];exact hC) (by rw[kk.ms];exact bb) (by rw[kk.a];exact ar));have hb:Hid ((W.j0 W.ac.length).qz 300=W.round):=rfl;rw[hb.o]at HE;clear hb kk;let⟨wb,ap⟩:=gJ W.round;rw[ap]at HE;have bo:=gP ap;clear ap;go_wp2_with(go_at_call 58;refine HE.L ?_;rintro en w5⟨rfl,a0,k5,h5⟩;let⟨al,Q⟩:=gO k5 h5;clear k5 h5);go_ret;rw[bo.o];exact⟨rfl,a0,HK.H (al.L λt e=>.inl e),Q⟩
theorem PQ{α:Type}{l h:List α}(s:l.Sublist h):∀x,x<l.length->∃j,j<h.length/\h[j]?=l[x]?/\(l.take (x+1)).Sublist (h.take (j+1)):=by
 induction s with
 |slnil=>intro x y;simp at y
 |cons a s A=>intro x y;let⟨j,L,F,H⟩:=A x y;exact⟨j+1,ig,iU F,by rw[eY];exact H.cons a⟩
 |cons_cons a s A=>
  intro x y
  cases x with
  |zero=>exact⟨0,gG,rfl,gG⟩
  |succ x=>let⟨j,L,F,H⟩:=A x (iU y);exact⟨j+1,ig,iU F,by rw[eY,eY];exact H.cons_cons a⟩
def BO{α:Type}(S:Nat->α){L:Nat}(y:k0<=k)(A:k<=L):(((List.range (L+1)).drop k0).map S).take (k-k0+1)=((List.range (k+1)).drop k0).map S:=by
 rw[<-fS];congr 1;refine bJ λj=>?_;rw[cZ,du,du];by_cases h:j<k-k0+1
 .rw[aE h,cD C,cD C]
 rw[az h,cB ig]
def CB{α:Type}(S:Nat->α){L:Nat}(h:k0<=k)(y:k<=L):(((List.range (L+1)).drop k0).map S)[k-k0]?=some (S k):=by rw[aK,du,show k0+(k-k0)=k by omega,cD C];rfl
def yI{α:Type}{S T:Nat->α}(h:∀j,j<=k->S j=T j):((List.range (k+1)).drop k0).map S=((List.range (k+1)).drop k0).map T:=
 bf λj y=>h j (gS (di.1 (eC y)))
theorem Pn.Va{p:vC}(h:N.ab k0 p)(A:k0<=k)(Z:k<=N.A.length):∃j,j<p.hl/\(N.cut k).ab k0 (p.px j):=by
 cases N with
 |unit ch rs S=>
  cases p with
  |voter s l=>exact h.elim
  |unit F s l=>
   let⟨e1,e2,e3,M⟩:=h;have y:k<=rs.length:=Z;let⟨j,Q,H,L⟩:=PQ M (k-k0) ig;rw[CB S A y]at H;rw[BO S A y]at L;have Y:(rs.take k).length=k:=by rw[bH];omega
   refine⟨j,Q,?_⟩;show F=ch/\k0<=(rs.take k).length/\l.getD j St.first=S (rs.take k).length/\(((List.range ((rs.take k).length+1)).drop k0).map S).Sublist (l.take (j+1));rw[Y];exact⟨e1,A,by rw[aS,H];rfl,L⟩
 |voter rs S=>
  cases p with
  |unit F s l=>exact h.elim
  |voter s l=>
   let⟨e2,e3,M⟩:=h;have y:k<=rs.length:=Z;let⟨j,Q,H,L⟩:=PQ M (k-k0) ig;rw[CB (λk=>VS.mk (S k) (pj (rs.take k))) A y]at H;rw[BO (λk=>VS.mk (S k) (pj (rs.take k))) A y]at L;have Y:(rs.take k).length=k:=by rw[bH];omega
   refine⟨j,Q,?_⟩;show k0<=(rs.take k).length/\l.getD j VS.first=⟨S (rs.take k).length,pj (rs.take k)⟩/\(((List.range ((rs.take k).length+1)).drop k0).map λi=>VS.mk (S i) (pj ((rs.take k).take i))).Sublist (l.take (j+1));rw[Y];refine⟨A,by rw[aS,H];rfl,?_⟩;rw[yI (T:=λi=>VS.mk (S i) (pj (rs.take i))) λi hi=>by rw[eX,eU hi]];exact L
theorem Pn.UJ{a b c d u:Int}(h:N.of a b c d u)(k):(N.cut k).of a b c d u:=by
 cases N with
 |unit ch rs S=>
  let⟨H,L,y⟩:=h;exact⟨H,L,y.zero,λj F=>by
   have A:j<rs.length:=by rw[bH]at F;omega
   have:=y.step j A
   rwa[<-dM (h:=F)]at this,λr M=>y.ok r (cQ M)⟩
 |voter rs S=>
  let⟨H,L,y⟩:=h;exact⟨H,L,y.zero,λj F=>by
   have A:j<rs.length:=by rw[bH]at F;omega
   have:=y.step j A
   rwa[<-dM (h:=F)]at this,λr M=>y.ok r (cQ M)⟩
def Pn.AB(N:Pn)(k):(N.cut k).A=N.A.take k:=by cases N<;>rfl
def Sa(rs)(h:k0<=k):off (rs.take k) k0=off rs k0:=by unfold off;rw[eX,eU h]
def Pn.Q3(h:N.holds n k)(M:k0<=N.A.length)(Q:off N.A k0<=n):k0<=k:=by
 let⟨T,Y,A⟩:=h;by_cases y:k<N.A.length
 .have F:=A y;rw[<-si N.A k y]at F;refine dT λe=>?_;have:off N.A (k+1)<=off N.A k0:=by
   unfold off;have H:N.A.take (k+1)=(N.A.take k0).take (k+1):=by rw[eX,eU C]
   rw[H];have L:=Z5 List.length (lO ((N.A.take k0).take (k+1)) ((N.A.take k0).drop (k+1)));rw[dK,aO]at L;omega
  omega
 omega
def Pn.WA{p:vC}(h:N.ab k0 p):k0<=N.A.length:=by
 cases N<;>cases p
 .exact h.2.1
 .exact h.elim
 .exact h.elim
 exact h.1
def Pn.Te(N:Pn)(k):(N.cut k).jt.length<=N.jt.length:=by rw[Pn.oV,Pn.oV,Pn.AB];exact C9 N.A k
def jG.Uj{pb N pc:Nat}(h:jG w gH g W V)(M:V.pv=gN (G pb) N pc)(Q:W.pl.length=N){o gi mk:Nat}(ho:o<5){p':Pl}(T:W.pl[i]?=some p)(u)(H:Ib (V.ps.set (i*5+o) u) W.n W.m i gi mk p'.up p'.oB)(L:yU w gH W.n W.m W.v W.ce i gi W.iN mk p'):jG (w.setCell (U pb (i*5+o)) u) gH g {W with pl:=W.pl.set i p'} {V with ps:=V.ps.set (i*5+o) u}:=by
 subst Q;have Y:=(aj.1 T).1;have y:=h.a.row;rw[M]at y;have k:jB (λs=>s=2) w gH (w.setCell (U pb (i*5+o)) u) gH:=kn (y.gH pb rfl) _ _;have hl:=y.ie.1;have Z:=h.b;have n2:=h.an;have n3:=h.ht;refine⟨(k.heap h.hg h.tg C).1,(k.heap h.hg h.tg C).2,⟨by show mC _ _ _ _ _ V.pv _ _;rw[M,bK];exact⟨sV y.ie _ _,y.gH⟩,λj q A=>?_⟩,h.B.A k C λt _ _=>C,h.ca.A k C C λi _=>C,h.po.A k C C,h.ha.A k C,h.ms.A k C,by rw[bK];exact Z,n2,n3⟩;have hj:=(aj.1 A).1;rw[bK]at hj;by_cases e:i=j
 .subst e;rw[aQ Y]at A;simp only[aJ]at A;subst A;exact⟨gi,mk,H,L.A k C C C⟩
 rw[aH e]at A;obtain⟨gj,mj,F,nj⟩:=h.a.pl j q A;refine⟨gj,mj,⟨?_,?_,?_,?_,?_⟩,nj.A k C C C⟩
 .rw[aH C];exact F.1
 .rw[aH C];exact F.2.1
 .rw[aH C];exact F.2.2.1
 .rw[aH C];exact F.2.2.2.1
 rw[aH C];exact F.2.2.2.2
def RC{y:Nat}{base:Nat}(A:w.ownsRow base 5 1 (gN ia (iE rs).length y) (iE rs).length ((iE rs).map B8))(F:n<=(iE rs).length):El w ia n y rs:=by
 have H:=A;obtain⟨h,L⟩|⟨b,cap,M,h,L,Q,e4,T,_⟩:=A.2
 .simp only[bO]at h;obtain⟨rfl,_,rfl⟩:=h;exact⟨F,C,C,0,0,λe=>C,λj d Y _=>C⟩
 simp only[bO,ZU]at h;obtain⟨rfl,rfl⟩:=h;unfold maxLen at T;refine⟨F,C,C,b,0,λ_=>⟨rfl,(ae.1 Q).1⟩,λj d Y Z=>?_⟩;have:=H.cellAt j C;rw[aK,Z]at this;rw[bP];exact this
theorem zL(h:jG w gH g W V)(hW:Wk W)(hS:Sw W){P:Pl}(hP:W.pl[i]?=some P)(cut)(hc:nO cut):iB 39 #[O g,I i,I cut] w λen w'=>en=gX (.bool true)/\∃gI j,j<P.part.hl/\jB (λt=>t=2) w gH w' gI/\Wx w' gI g {W with iN:=W.iN+1,pl:=W.pl.set i (P.px j)}:=by
 obtain⟨pa,pc,ak⟩:=h.a.row.B;obtain⟨pv,av,lv,cv,hv,mv,ps,aw,ls,cs,tp⟩:=V;simp only at ak;subst ak;have bA:=h.b;have bB:=(aj.1 hP).1;have bC:(i:Int)<(W.pl.length:Int):=C;obtain⟨pb,rfl,_,a3,Q,_⟩:=h.a.row.cells (by show 0<W.pl.length;omega);obtain⟨gi,mk,A,N,k0,al,T,a0,Z,a4,a5⟩:=h.a.pl i P hP;have d0:=(Q (i*5) (by show i*5<W.pl.length*5;omega)).H A.1;have d1:=(Q (i*5+1) (by show i*5+1<W.pl.length*5;omega)).H A.2.1;have d2:=(Q (i*5+2) (by show i*5+2<W.pl.length*5;omega)).H A.2.2.1;let⟨c0,c1,c2⟩:=h.Km 0 1 2 rfl;let⟨c3,c4⟩:=h.R 3 4 rfl;have lg:=h.lt;have bq:=hS.a;have a8:=hW.nB;have a1:N.jt.length<=1000000000000:=C;have HI:=gP (yA al a1);have am:mk<=N.jt.length:=by rw[Z,Pn.oV];exact C9 _ _
 have ac:N.jt.length=(iE N.A).length:=by rw[Pn.oV]
 let⟨L,hL⟩:=gJ N.jt.length;rw[hL]at am a1 HI ac;have bs:¬((L:Int)<(mk:Int)):=C;let⟨nn,b5⟩:=gJ (mk+iL cut (L-mk+1):Nat);have b6:=kB cut (n:=L-mk+1) C;have b7:nn<=L:=C;have an:mk<=nn:=C;have ad:=gP λWm=>j5 cut ((L-mk+1:Nat):Int) Wm hc.1 hc.2 C C;have ap:pk cut ((L-mk+1:Nat):Int)=((nn-mk:Nat):Int):=by have:=lZ cut ((L-mk+1:Nat):Int) C;have e:iL cut (L-mk+1)=(pk cut ((L-mk+1:Nat):Int)).toNat:=rfl;omega
 rw[ap]at ad;have s1:IntKind.i64.wrap ((L:Int)-mk)=((L-mk:Nat):Int):=vB;have s2:IntKind.i64.wrap (((L-mk:Nat):Int)+1)=((L-mk+1:Nat):Int):=vB;have s3:IntKind.i64.wrap ((mk:Int)+((nn-mk:Nat):Int))=(nn:Int):=vB;let⟨u,hu⟩:=gJ (jZ W.n W.m i);rw[hu]at d0 T;have HO:Hid (∀(Wm:World) (ia:Option Addr) (ic:Nat),El Wm ia nn ic N.A->iB 17 #[.agg #[I W.n,I W.m,I W.v,I W.ce],I u,gN ia nn ic] Wm λe w'=>∃k M gI,e=gX (.tuple #[O M,I 0])/\N.holds nn k/\Wm.heap.size<=M/\(∀b,b<Wm.heap.size->gI b=gH b)/\Nd w' gI (10+3*i) (11+3*i) (12+3*i) M W.n W.m W.v W.ce (N.cut k) []/\Bl Wm w'):=λWm ia ic hcut=>wM T ia nn ic (jk hL a1) hcut gH _ _ _ a8;let⟨H,Hu,aq⟩:=iz (And.intro h (And.intro A (And.intro T (And.intro a0 (And.intro Z (And.intro a4 (And.intro a5 (And.intro hP hL)))))))) hu ac;clear h hW hS A al T a0 Z a4 a5 Q hP ap hu b6 b5 a8 ac hL;go_enter func39,ntmps39;go_upto_region 5 with(go_at_call 70;refine HI.L ?_;rintro en w1⟨ia,ic,rfl,a6,ar⟩;let⟨b8,b9⟩:=gO a6 ar;have au:=(a6.cell a3).H d2;have bv:=af a3 a6.lt;clear a6 ar);go_cut[9]from 9 to 69 λy wx=>y=I nn/\Hid (Bl w1 wx)
 case first=>
  go_region_held3(λW=>W.cell? (U pb (i*5+2))=some (I mk)) (go_keep) (first|(go_at_call 15;refine gT (ad _) λw' ag=>?_;have ag:=ag.symm;subst ag;have z0:w1.cell? (U pb (i*5+2))=some (I mk):=au));all_goals(go_wp2_with fail;go_meet)
  all_goals exact⟨rfl,jg⟩
 obtain⟨rfl,aY⟩:=hcut;have bW:=b8.H aY;have a7:=(iT aY).iX b9 λ_ _ e=>e;have ba:=(bW.cell a3).H d0;have b0:=af a3 bW.lt;have bb:=af lg bW.lt;let⟨bc,bd,be,bg⟩:=bW.M lg c0 c1 c2 c3;have bw:nn<=ic:=by
  obtain⟨e1,e2⟩|⟨b,cap,bi,e1,e2,e3,e4,e5,_⟩:=a7.2
  .omega
  simp only[bO,ZU]at e1;omega
 have bl:ic<=9223372036854775807:=by
  obtain⟨e1,e2⟩|⟨b,cap,bi,e1,e2,e3,e4,e5,_⟩:=a7.2
  .simp only[bO]at e1;omega
  simp only[bO,ZU]at e1;unfold maxLen at e5;omega
 have HR:=gP a7;have bm:(nn:Int)<=(ic:Int):=C;have bx:¬((nn:Int)<0):=C;have bn:Hid (∀Wm,Bl wc Wm->iB 17 #[.agg #[I W.n,I W.m,I W.v,I W.ce],I u,gN ia nn ic] Wm λe w'=>∃k M gI,e=gX (.tuple #[O M,I 0])/\N.holds nn k/\wc.heap.size<=M/\(∀b,b<wc.heap.size->gI b=gH b)/\Nd w' gI (10+3*i) (11+3*i) (12+3*i) M W.n W.m W.v W.ce (N.cut k) []/\Bl wc w'):=λWm hb=>by have ho:=(iT hb).iX HR λ_ _ e=>e;rw[aq.o]at ho;have bo:N.jt=iE N.A:=Pn.oV N;rw[bo]at ho;refine(HO Wm ia ic (RC ho (jJ aq.o b7))).L ?_;rintro e w'⟨k,M,gI,q1,q2,q3,q4,q5,q6⟩;have:=hb.lt;exact⟨k,M,gI,q1,q2,C,λb hb=>q4 b C,q5,hb.H q6⟩
 have b1:=gP bW;clear bW a7 ad HI s1 s2 s3 d0 d1 d2 au c0 c1 c2 c3 HO;obtain⟨wz,bp⟩:∃wz,wz=wc:=⟨_,rfl⟩;subst bp;go_upto_region 6 with fail;go_cut[10,11]from 10 to 69 λx y wx=>∃k M gI,x= O M/\y=I 0/\Hid (N.holds nn k/\wz.heap.size<=M/\(∀b,b<wz.heap.size->gI b=gH b)/\Nd wx gI (10+3*i) (11+3*i) (12+3*i) M W.n W.m W.v W.ce (N.cut k) []/\Bl wz wx)
 case first=>
  go_region_held3(λY=>Y.cell? (U pb (i*5))=some (I u)/\Y.cell? (U g 0)=some (I W.n)/\Y.cell? (U g 1)=some (I W.m)/\Y.cell? (U g 2)=some (I W.v)/\Y.cell? (U g 3)=some (I W.ce)) (go_keep) (first|(go_at_call 17;refine(bn _ ?hb).L ?_;(case hb=>exact jg);rintro en w2⟨k,M,F,rfl,q2,q3,q4,q5,q6⟩;have z0:=(q6.cell b0).H ba;let⟨z1,z2,z3,z4⟩:=q6.M bb bc bd be bg;have HQ:=KV q2 q3 q4 q5 q6;clear q2 q3 q4 q5 q6));all_goals(go_wp2_with fail;go_meet)
  all_goals exact⟨k,M,F,rfl,rfl,HQ⟩
 obtain⟨k,M,F,rfl,rfl,HQ⟩:=hcut;obtain⟨q2,q3,q4,q5,q6⟩:=HQ.o;obtain⟨h,A,T,a0,Z,a4,a5,hP,hL⟩:=H.o;have bT:=b1.H q6;have a2:∀b,b<w.heap.size->F b=gH b:=λb hb=>q4 b (af hb b1.lt);have hX:=(h.bl (gI:=F) bT a2).D (a:=W.iN+1) oC;have ai:k0<=k:=Pn.Q3 q2 (Pn.WA a0) (jJ Z an);let⟨j,hj,a9⟩:=Pn.Va a0 ai q2.1;obtain⟨bD,b2,b3,bz,Q,b4⟩:=hX.a.row.cells (by show 0<W.pl.length;omega);simp only[aJ,Z0,ZS]at b2;subst b2;have z1:=(Q (i*5+1) (by show i*5+1<W.pl.length*5;omega)).H A.2.1;have zf:=b4 (i*5+1);have hl:ps.length=W.pl.length*5:=h.a.row.ie.1;have hN:yU wc F W.n W.m W.v W.ce i M (W.iN+1) mk (P.px j):=⟨N.cut k,k0,q5,by rw[Hu.o];exact Pn.UJ T k,a9,by rw[Pn.AB,Sa _ ai];exact Z,gS (Pn.Te N k),by rw[Pn.AB,bH];omega⟩;have ab:Ib (ps.set (i*5+1) (O M)) W.n W.m i M mk (P.px j).up (P.px j).oB:=by
  refine⟨?_,?_,?_,?_,?_⟩
  .rw[aH C];exact A.1
  .rw[aQ C]
  .rw[aH C];exact A.2.2.1
  .rw[aH C];exact A.2.2.2.1
  rw[aH C];exact A.2.2.2.2
 have HE:=my ((jB.A (P:=λt=>t=2) (gI:=F) bT a2).H (kn b3 (i*5+1) (O M))) (hX.Uj rfl rfl C hP (O M) ab hN) hj;clear q2 q3 q4 q5 q6 h A T a0 Z a4 a5 hP hL hX Q b4 b3 bT a2 ai a9 hN ab hl;go_wp2;go_ret;exact⟨rfl,F,j,HE.2.2,HE.1,⟨_,HE.2.1⟩⟩
def L0(S:ByteArray):ByteArray:=S.extract 0 (min (S.size:Int) 3).toNat
def vL(S:ByteArray):List Int:=(L0 S).data.toList.map λb=>(b.toNat:Int)
namespace Wd
def E4(W:Wd)(k:Nat):Int:=if k<W.pl.length then jZ W.n W.m k else kg (k-W.pl.length)
def vm(W:Wd)(a b:Int)(S:ByteArray):Wd:=W.lS ⟨b,W.E4 (iL a (W.pl.length+W.ac.length)),.noi (vL S)⟩
end Wd
def il.Ss:(prog.info? 129).map (λi=>(i.zero,i.size,i.bytes))=some (some (.agg #[I 0,.pointer none,.bool false]),3,24):=ix
def jG.U6{ac:Nat}(h:jG w gH g W {V with av:=gN aa W.ac.length ac})(h8:W.ac.length<8){p:Nat}(hC:Cl w gH (100+32*W.ac.length) p qb X){W1 M:World}(T:Bl w W1){gg cp:Nat}(Q:M.ownsRow 0 129 3 (gN (G gg) (W.ac.length+1) cp) (W.ac.length+1) (V.aw++[I (kg W.ac.length),O p,.bool true]))(A:W1.grownBy M (gN aa W.ac.length ac).ownBlock)(a2:(gN aa W.ac.length ac).ownBlock=some gg\/w.heap.size<=gg):∃tag2,jB (λs=>s=1\/s=3) w gH (M.setCell (U g 5) (gN (G gg) (W.ac.length+1) cp)) tag2/\jG (M.setCell (U g 5) (gN (G gg) (W.ac.length+1) cp)) tag2 g {W with ac:=W.ac++[⟨X,true⟩]} {V with av:=gN (G gg) (W.ac.length+1) cp,aw:=V.aw++[I (kg W.ac.length),O p,.bool true]}:=by
 have lw:=h.lt;have l2:=T.lt;have l3:=A.size;have n1:=h.b;have n2:=h.an;have n3:V.tp=8\/V.tp=97:=h.ht;have tl:∀b,(gN aa W.ac.length ac).ownBlock=some b->gH b=3:=h.B.row.gH;have ll:=λb Y=>(h.B.row.ie.lt b Y).2;obtain⟨tag2,a0⟩:∃tag2:Nat->Nat,tag2=λb=>if b<w.heap.size then gH b else if b=gg then 3 else 9:=⟨_,rfl⟩
 have F:∀b,b<w.heap.size->tag2 b=gH b:=λb Y=>by rw[a0];simp[Y]
 have a3:tag2 gg=3:=by
  obtain e|e:=a2
  .rw[F gg (ll gg e)];exact tl gg e
  rw[a0];dsimp only;rw[az C,aE rfl]
 have oQ:gL (λb=>gH b=1\/gH b=3) w (M.setCell (U g 5) (gN (G gg) (W.ac.length+1) cp)):=((gL.B T).H ((gL.A A).L λb _ e=>.inr (tl b e.symm))).setCell (U g 5) (.inl (.inl h.tg)) _;have k:jB (λs=>s=1\/s=3) w gH (M.setCell (U g 5) (gN (G gg) (W.ac.length+1) cp)) tag2:=⟨oQ,F⟩;have a1:M.heap[g]?=some (im (D6 W {V with av:=gN aa W.ac.length ac}).toArray 66 (0,0)):=by rw[A.block g C λe=>by have:=tl g e.symm;rw[h.tg]at this;omega,T.heap lw];exact h.hg
 have Z:V.aw.length=W.ac.length*3:=h.B.row.ie.1;refine⟨tag2,k,jx 5 _ M _ a1,(F g lw).H h.tg,h.a.A k C λi _ _=>C,⟨⟨?_,λb Y=>?_⟩,λj B hB=>?_⟩,h.ca.A k C C λi _=>C,h.po.A k (show¬(V.tp=1\/V.tp=3) by omega) C,h.ha.A k C,h.ms.A k C,n1,ig,n3⟩
 .simp only[aO,df,dA];exact lY Q λb Y=>Z8 _ _ _ _ λe=>gY Q a1 gF (jS Y e)
 .have e:gg=b:=by simpa [Value.ownBlock]using Y
  rw[<-e];exact a3
 by_cases hj:j<W.ac.length
 .rw[aB hj]at hB;obtain⟨p',a4,e1,e2⟩:=h.B.ac j B hB;have y:=λo (ho:o<3)=>aB (l₁:=V.aw) (l₂:=[I (kg W.ac.length),O p,.bool true]) (show j*3+o<V.aw.length by omega);exact⟨p',a4,⟨(y 0 C).H e1.1,(y 1 C).H e1.2.1,(y 2 C).H e1.2.2⟩,e2.A k λs _ _=>C⟩
 have a5:=(aj.1 hB).1;simp at a5;have a6:j=W.ac.length:=C;subst a6;rw[aC jl]at hB;simp at hB;subst hB;refine⟨p,qb,⟨?_,?_,?_⟩,hC.A k λs _ _=>C⟩
 .rw[aC C,Z];simp
 .rw[aC C,Z];simp
 rw[aC C,Z];simp
theorem zi(h:jG w gH g W V)(hW:Wk W):iB 38 #[O g] w λen w'=>en=gX (.bool true)/\∃gI,jB (λt=>t=1\/t=3) w gH w' gI/\Wx w' gI g W.kS:=by
 obtain⟨a2,a3,r0,r1,r2⟩:=fx il.Ss;obtain⟨aa,ac,a4⟩:=h.B.row.B;obtain⟨pv,av,lv,cv,hv,mv,ps,aw,ls,cs,tp⟩:=V;simp only at a4;subst a4;have c5:=h.cellAt 5 rfl;have lg:=h.lt;have al:=h.an;by_cases h8:8<=W.ac.length
 .have a9:(8:Int)<=(W.ac.length:Int):=C;have Q:W.kS=W:=by unfold Wd.kS;rw[aE h8]
  rw[Q];have H:=gP h;clear h hW Q;go_enter func38,ntmps38;go_wp2;go_ret;exact⟨rfl,gH,jB.refl,⟨_,H⟩⟩
 have a9:¬((8:Int)<=(W.ac.length:Int)):=C;let⟨c0,c1,c2,c3⟩:=h.T 0 1 2 3 rfl;let⟨x,hx⟩:=gJ (1000+7*(W.ac.length:Int):Int);have am:IntKind.i64.wrap (7*(W.ac.length:Int))=7*(W.ac.length:Int):=vB;have an:IntKind.i64.wrap (1000+7*(W.ac.length:Int))=x:=vB;have HN:=gP (DQ W.n W.m W.v W.ce x w hW.nB C C gH (100+32*W.ac.length));have Q:W.kS={W with iN:=W.iN+1,ac:=W.ac++[⟨Cx.new W.n W.m W.v W.ce x,true⟩]}:=by unfold Wd.kS;rw[az h8,<-hx];rfl
 rw[Q];have H:=gP h;have Hx:Hid (x=kg W.ac.length):=by unfold Hid kg;exact hx.symm
 clear h hW Q hx;go_enter func38,ntmps38;go_upto_region 5 with(go_at_call 16;refine HN.L ?_;rintro en w1⟨p,rfl,ap,T,a1,Y,a5,Z⟩;have a0:=my T Y Z;clear T Y a5 Z);obtain⟨T,Y,Z⟩:=a0.o;have F:=H.bl (gI:=a1) T Y;have ab:=F.cellAt 5 rfl;have ad:=F.M 5;have a6:=F.lt;have HR:=gP F.B.row;have ng:Hid ((gN aa W.ac.length ac).ownBlock≠some g):=gY F.B.row.ie F.hg gF;have ag:Hid (W.ac.length+1<=maxLen):=mV;have ai:Hid ((W.ac.length+1)*24<=140737488355328):=lT;have ak:=gP F;clear F T Y Z c0 c1 c2 c3 c5;go_upto_region 6 with(at_builtin;refine fm _ rfl _ _ 62 rfl 0 129 a2 _ 3 24 underlying62 a3 r0 r1 r2 rfl gF _ W.ac.length aw rfl (HR.ie.alloc _) (U w1.heap.size 0) 1 1 [I x,O p,.bool true] rfl rfl (fW (cs:=#[I x,O p,.bool true]) (t:=129) (fr:=(0,0)) (ao w1 _)) rS gF ag ai gG (w1.heap.size+1) gG ?_;intro gg cp w6 A y L M;have aq:=(AN ((Bl.refl w1).alloc _) y (o:=5) a6 ng).1.H ab;have ar:=(AN ((Bl.refl w1).alloc _) y (o:=5) a6 ng).2.H ad;have au:g<w6.heap.size:=(by have:=y.size;simp at this;omega);have a7:=nK A y L M;clear A y L M);obtain⟨A,y,L,M⟩:=a7.o;obtain⟨a8,k7,h7⟩:=jG.U6 (V:=⟨pv,gN aa W.ac.length ac,lv,cv,hv,mv,ps,aw,ls,cs,tp⟩) ak C (a0.2.2 λ_=>0) ((Bl.refl w1).alloc (im #[I x,O p,.bool true] 129)) (gg:=gg) (cp:=cp) (jJ Hx.o A) y (L.imp (λe=>e) λe=>C);have h8:=h7.D (a:=W.iN+1) oC;have HE:=m9 ((jB.A (P:=λt=>t=1\/t=3) (gI:=a1) a0.1 a0.2.1).H k7) h8;clear A y L M k7 h7 h8 a7;go_wp2;go_ret;exact⟨rfl,a8,HE.1,⟨_,HE.2⟩⟩
structure Dd where
 kd:Int
 a:Int
 b:Int
 c:Int
 S:ByteArray
def Dd.v(d:Dd):Value:= .agg #[I d.kd,I d.a,I d.b,I d.c,.string d.S]
namespace Wd
def tok(W:Wd)(c:Int):Int:=if c.tmod 8=0 then c else iL c (W.lM+1)
def ni(W:Wd):Wd:={W with iN:=W.iN+1}
def oZ(W:Wd):Nat->Wd
 |0=>W
 |k+1=>(W.oZ k).step
def kY(W:Wd)(a:Int):Wd:={W with iA:=W.iA.eraseIdx (iL a W.iA.length)}
def nh(W:Wd)(a:Int):Option Le:=W.iA[iL a W.iA.length]?
def oz(W:Wd)(i:Nat)(P:Pl)(j:Nat):Wd:={W with iN:=W.iN+1,pl:=W.pl.set i (P.px j)}
def lD(W:Wd)(i:Nat)(up:Bool):Wd:={W with pl:=W.pl.modify i λP=>{P with up:=up}}
def left(W:Wd)(i:Nat):Wd:={W with ac:=W.ac.modify i λA=>{A with up:=i==0}}
def Gt(W:Wd)(d:Dd)(j:Nat):Wd:=
 if 1<=d.kd/\d.kd<=5 then W.call d.kd d.a d.b
 else if d.kd=6 then W.ld d.a d.b (W.tok d.c)
 else if d.kd=7 then W.kU (iL d.a (W.pl.length+W.ac.length))
 else if d.kd=8 then(match W.nh d.a with
  |none=>W
  |some l=>(W.kY d.a).lS l)
 else if d.kd=9 then(match W.nh d.a with
  |none=>W
  |some l=>W.lS l)
 else if d.kd=10 then W.kY d.a
 else if d.kd=11 then(W.ni.kO (iL d.a W.ac.length)).js
 else if d.kd=12 then(match W.pl[iL d.a W.pl.length]? with
  |none=>W
  |some P=>if P.up then W.oz (iL d.a W.pl.length) P j else W)
 else if d.kd=13 then(W.ni.lD (iL d.a W.pl.length) false).js
 else if d.kd=14 then(match W.pl[iL d.a W.pl.length]? with
  |none=>W
  |some P=>if P.up then W.ni.js else W.oz (iL d.a W.pl.length) {P with up:=true} j)
 else if d.kd=15 then(W.ni.left (iL d.a W.ac.length)).js
 else if d.kd=16 then W.kS
 else if d.kd=17 then W.vm d.a d.b d.S
 else if d.kd=18 then W.oZ (1+iL d.a 6)
 else W.ni.js
end Wd
def Dz(w:World)(gH:Nat->Nat)(g:Nat)(W':Wd)(en:Ending)(w':World):Prop:=en=gX (.bool true)/\∃gI,jB (λt=>t≠0) w gH w' gI/\Wx w' gI g W'
structure Bx(w:World)(gH:Nat->Nat)(g:Nat)(W:Wd)(V:WV)(d:Dd)(W0:World)(q:Nat)(tag0:Nat->Nat):Prop where
 hx:jG W0 tag0 g W V
 k:jB (λt=>t≠0) w gH W0 tag0
 t:tag0 q=0
 l:q<W0.heap.size
 c:W0.heap[q]?=some (.cells #[I d.kd,I d.a,I d.b,I d.c,.string d.S] 56 (0,0))
def rJ(h:jG w gH g W V)(d):∃y q tag0,w.alloc (im #[I d.kd,I d.a,I d.b,I d.c,.string d.S] 56)=y/\w.heap.size=q/\Bx w gH g W V d y q tag0:=by have A:Bl w (w.alloc (im #[I d.kd,I d.a,I d.b,I d.c,.string d.S] 56)):=(Bl.refl w).alloc _;have F:=ao w (im #[I d.kd,I d.a,I d.b,I d.c,.string d.S] 56);exact⟨_,_,iq gH w.heap.size 0,rfl,rfl,h.bl A λb H=>gV _ _ _ _ H,jB.B A 0,iJ _ _ _ _ jl,(ae.1 F).1,F⟩
end Go.Proofs.YtbghhbpacijmmaaGreat
