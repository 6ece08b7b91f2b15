import Derived.BigQuiet
import Derived.Deep.DeepCutAuto
import Derived.Deep.CutRange
import Derived.Deep.RegionHeld3
import Derived.Laws.IdiomStrings
import Derived.Laws.BitsLemmas
import Derived.Deep.CutBlock
import Derived.Deep.RegionLaw
import Derived.Test.YtbghhbpacijmmaaGreatL13
open Go.Proofs.Tryz
namespace Go.Proofs.YtbghhbpacijmmaaGreat
set_option maxRecDepth 99999
set_option maxHeartbeats 0
set_option linter.defProp false
set_option linter.unusedVariables false
open Go.RowKit Go.Maps
attribute [local go_sem ↓] Go.wp_at_zero Go.wp_at_succ
variable {gH qb gI:Nat->Nat} {w w' w5 W1:World} {W:Wd} {k g i p t n u gl gg cp cc:Nat} {V:WV} {P:Nat->Prop} {cv dv:Value} {c d:Kl} {X' X:Cx} {l:Le} {e:TypeId} {ta ha ca:Option Addr} {xs ls cs ps:List Value} {b:Bd} {po:List Le} {gK:List Kl}
def GC{α:Type}(p:α->Bool)(l:List α)(k:Nat):Nat:=((l.take k).filter p).length
def ET{α:Type}(p)(l:List α):GC p l 0=0:=rfl
def KU{α:Type}(p)(l:List α):GC p l l.length=(l.filter p).length:=by simp[GC]
def Oe{α:Type}(p)(l:List α)(k):GC p l k<=k:=aF (bF _ _) ig
def KJ{α:Type}{p:α->Bool}{l:List α}{x:α}(h:l[k]?=some x)(j:p x=true):GC p l (k+1)=GC p l k+1:=by unfold GC;rw[cW,h];simp[j]
def Il{α:Type}{p:α->Bool}{l:List α}{x:α}(h:l[k]?=some x)(j:p x=false):GC p l (k+1)=GC p l k:=by unfold GC;rw[cW,h];simp[j]
def Wk.nB(h:Wk W):nB W.n W.m W.v W.ce=true:=by have j:=h.n1;have y:=h.m1;have A:=h.v1;have F:=h.c1;have H:=h.v2;simp[Go.Proofs.YtbghhbpacijmmaaGreat.nB];omega
theorem uG(h:jG w gH g W V)(j:Wk W):iB 27 #[O g] w λy w'=>y=gX (I (W.n*W.ce))/\Bl w w':=by
 let⟨A,F,H,L⟩:=vN j.nB;let⟨M,Q⟩:=h.R 0 3 rfl;have T:=h.lt;have Y:=tG A F H L;have Z:IntKind.i64.wrap ((W.n:Int)*W.ce)=W.n*W.ce:=vB;clear h j;go_enter func27,ntmps27;go_wp2_with fail;go_quiet(fail);go_wp2;go_ret;exact⟨rfl,jg⟩
theorem C7(h:jG w gH g W V)(a:Nat)(hl:W.gK.length<=1000000000):iB 54 #[O g,I a] w λen w'=>en=gX (I (W.nQ a))/\w'=w:=by
 obtain⟨ca,cc,j⟩:=h.ca.row.B;have c7:=h.cellAt 7 rfl;rw[j]at c7;have lg:=h.lt;have y:=h.ca;rw[j]at y;have y:=gP y;have Z:=KU (λc:Kl=>c.a==a) W.gK;have A:W.nQ a=(W.gK.filter λc=>c.a==a).length:=rfl;rw[A,<-Z];clear h j Z A;go_enter func54,ntmps54;go_wp2_with fail;go_loopw[5,6](λs i wr=>∃k:Nat,k<=W.gK.length/\s=I (GC (λc:Kl=>c.a==a) W.gK k)/\i=I k/\wr=w) λ_ i _=>W.gK.length-(Go.RowKit.intOf i).toNat
 case atStart=>exact⟨0,ju,by rw[ET];rfl,rfl,rfl⟩
 obtain⟨k,hk,rfl,rfl,rfl⟩:=hrel;by_cases ja:k<W.gK.length
 .have a0:(k:Int)<(W.gK.length:Int):=C;obtain⟨cb,rfl,_,a1,F,_⟩:=y.row.cells C;let⟨c,L⟩:=mm ja;obtain⟨tv,rv,e0,_⟩:=y.c k c L;have d0:=(F (k*11) C).H e0;have a2:=Oe (λc:Kl=>c.a==a) W.gK k;have hn:0<=(GC (λc:Kl=>c.a==a) W.gK k:Int):=eG _;clear F e0;by_cases M:c.a=a
  .have Q:=KJ (p:=λc:Kl=>c.a==a) L (nN M);rw[M]at d0;have T:=gP Q;clear Q M L;go_wp2;go_roundw
   case rel=>exact⟨k+1,C,by rw[T.o];go_num,iD,trivial⟩
   exact iC
  have Q:=Il (p:=λc:Kl=>c.a==a) L (nN M);have a3:¬((c.a:Int)=(a:Int)):=C;have T:=gP Q;clear Q M L;go_wp2;go_roundw
  case rel=>exact⟨k+1,C,mf T.o,iD,trivial⟩
  exact iC
 have a4:¬((k:Int)<(W.gK.length:Int)):=C;have Y:k=W.gK.length:=C;subst Y;go_wp2;go_ret;exact⟨rfl,rfl⟩
theorem Fe(h:jG w gH g W V)(a:Nat)(hl:W.gK.length<=1000000000):iB 55 #[O g,I a] w λen w'=>en=gX (I (W.uB a))/\w'=w:=by
 obtain⟨ca,cc,y⟩:=h.ca.row.B;have c7:=h.cellAt 7 rfl;rw[y]at c7;have lg:=h.lt;have M:=h.ca;rw[y]at M;have M:=gP M;have hN:=KU (λc:Kl=>c.a==a&&decide (c.fin=0)) W.gK;have Q:W.uB a=(W.gK.filter λc=>c.a==a&&decide (c.fin=0)).length:=rfl;rw[Q,<-hN];clear h y hN Q;go_enter func55,ntmps55;go_wp2_with fail;go_loopw[5,6](λs i wr=>∃k:Nat,k<=W.gK.length/\s=I (GC (λc:Kl=>c.a==a&&decide (c.fin=0)) W.gK k)/\i=I k/\wr=w) λ_ i _=>W.gK.length-(Go.RowKit.intOf i).toNat
 case atStart=>exact⟨0,ju,by rw[ET];rfl,rfl,rfl⟩
 obtain⟨k,hk,rfl,rfl,rfl⟩:=hrel;by_cases ja:k<W.gK.length
 .have a0:(k:Int)<(W.gK.length:Int):=C;obtain⟨cb,rfl,_,a1,A,_⟩:=M.row.cells C;let⟨c,F⟩:=mm ja;obtain⟨tv,rv,e0,e1,e2,e3,e4,e5,e6,e7,_⟩:=M.c k c F;have d0:=(A (k*11) C).H e0;have d7:=(A (k*11+7) C).H e7;have a2:=Oe (λc:Kl=>c.a==a&&decide (c.fin=0)) W.gK k;have hn:0<=(GC (λc:Kl=>c.a==a&&decide (c.fin=0)) W.gK k:Int):=eG _;clear A e0 e1 e2 e3 e4 e5 e6 e7;by_cases L:c.a=a
  .rw[L]at d0;by_cases Y:c.fin=0
   .have j:=KJ (p:=λc:Kl=>c.a==a&&decide (c.fin=0)) F (by simp[L,Y]);rw[Y]at d7;have T:=gP j;clear j L Y F;go_wp2;go_roundw
    case rel=>exact⟨k+1,C,by rw[T.o];go_num,iD,trivial⟩
    exact iC
   have j:=Il (p:=λc:Kl=>c.a==a&&decide (c.fin=0)) F (nN Y);have T:=gP j;generalize c.fin=fi at*;clear j L F;go_wp2;go_roundw
   case rel=>exact⟨k+1,C,mf T.o,iD,trivial⟩
   exact iC
  have j:=Il (p:=λc:Kl=>c.a==a&&decide (c.fin=0)) F (nN L);have a3:¬((c.a:Int)=(a:Int)):=C;have T:=gP j;clear j L F;go_wp2;go_roundw
  case rel=>exact⟨k+1,C,mf T.o,iD,trivial⟩
  exact iC
 have a4:¬((k:Int)<(W.gK.length:Int)):=C;have Z:k=W.gK.length:=C;subst Z;go_wp2;go_ret;exact⟨rfl,rfl⟩
theorem wK:∀(y:List Value) (l:List Value) (o j:Nat),(j<o\/o+y.length<=j)->(yE l o y)[j]?=l[j]?
 |[],_,_,_,_=>rfl
 |v::y,l,o,j,h=>by unfold yE;rw[wK y _ _ _ (by simp at h;omega),aH (by simp at h;omega)]
theorem JM:∀(j:List Value) (l:List Value) (o k:Nat),k<j.length->o+j.length<=l.length->(yE l o j)[o+k]?=j[k]?
 |[],_,_,_,h,_=>mi h
 |v::j,l,o,0,_,y=>by unfold yE;rw[wK j _ _ _ C,fj,aQ (by simp at y;omega)];rfl
 |v::j,l,o,k+1,A,y=>by unfold yE;rw[show o+(k+1)=(o+1)+k by omega,JM j _ _ _ (iU A) (by simp at y|-;omega)];simp
def sV{base A cap:Nat}(h:w.ownsRow base e A (gN (G g) n cap) n xs)(j)(u):(w.setCell (U g j) u).ownsRow base e A (gN (G g) n cap) n (xs.set j u):=by
 refine⟨by rw[bK];exact h.1,?_⟩;obtain⟨e,_⟩|⟨Z,F,y,e,H,L,M,Q,T,Y⟩:=h.2
 .simp_all
 simp at e;obtain⟨rfl,rfl⟩:=e;refine .inr ⟨g,cap,y.setIfInBounds j u,rfl,H,fy w g j y _ u L,M,Q,iU T,?_⟩;rw[<-Y,Array.toList_setIfInBounds,List.take_set]
theorem FO{base y cap:Nat}:∀(j:List Value) (o:Nat) (w:World) (xs:List Value),w.ownsRow base e y (gN (G g) n cap) n xs->(ku w g o j).ownsRow base e y (gN (G g) n cap) n (yE xs o j)
 |[],_,_,_,h=>h
 |v::j,o,_,_,h=>FO j (o+1) _ _ (sV h o v)
section
variable{Q:Nat->Prop}{w2:World}{tag2:Nat->Nat}
def kn{b:Nat}(h:gH b=t)(o)(u):jB (λs=>s=t) w gH (w.setCell (U b o) u) gH:=⟨(gL.refl _ w).setCell (U b o) (.inl h) _,λ_ _=>rfl⟩
def Gz{b:Nat}(h:gH b=t)(o)(vs):jB (λs=>s=t) w gH (ku w b o vs) gH:=⟨jO (S:=λb=>gH b=t) (.inl h) vs o w (gL.refl _ w),λ_ _=>rfl⟩
def jG.D(h:jG w gH g W V){a:Nat}(ha:W.iN<=a):jG w gH g {W with iN:=a} V:=⟨h.hg,h.tg,h.a.later ha,h.B,h.ca,h.po,h.ha,h.ms,h.b,h.an,h.ht⟩
def jG.QB(h:jG w gH g W V)(t):jG (w.setCell (U g 8) (I t)) gH g {W with a:=t} V:=by have k:jB _ w gH (w.setCell (U g 8) (I t)) gH:=kn h.tg 8 _;have j:=h.ht;exact⟨jx 8 _ w _ h.hg,h.tg,h.a.A k C λi _ _=>C,h.B.A k C λi _ _=>C,h.ca.A k C C λi _=>C,h.po.A k C C,h.ha.A k C,h.ms.A k C,h.b,h.an,h.ht⟩
def jG.Kq(h:jG w gH g W V){tp:Nat}{lv:Value}(j:so w gH tp po lv ls)(y:tp=8\/tp=97):jG (w.setCell (U g 6) lv) gH g {W with iA:=po} {V with lv:=lv,ls:=ls,tp:=tp}:=by have k:jB _ w gH (w.setCell (U g 6) lv) gH:=kn h.tg 6 _;exact⟨jx 6 _ w _ h.hg,h.tg,h.a.A k C λi _ _=>C,h.B.A k C λi _ _=>C,h.ca.A k C C λi _=>C,j.A k C C,h.ha.A k C,h.ms.A k C,h.b,h.an,y⟩
def jG.TB(h:jG w gH g W V)(k:jB (λt=>t=4\/t=99\/1000<=t) w gH w' gI){j:List Kl}{y:List Value}(A:qm w' gI j V.cv y):jG w' gI g {W with gK:=j} {V with cs:=y}:=by have F:=h.b;have H:=h.an;have L:=h.ht;exact⟨(k.heap h.hg h.tg C).1,(k.heap h.hg h.tg C).2,h.a.A k C λi _ _=>C,h.B.A k C λi _ _=>C,A,h.po.A k C C,h.ha.A k C,h.ms.A k C,h.b,h.an,h.ht⟩
def jG.Wo(h:jG w gH g W V)(k:jB (λt=>t=10+3*u\/t=11+3*u\/t=12+3*u) w gH w' gI){P0 P1:Pl}(A:W.pl[u]?=some P0){gu mk:Nat}(y:Ib V.ps W.n W.m u gu mk P1.up P1.oB)(F:yU w' gI W.n W.m W.v W.ce u gu W.iN mk P1):jG w' gI g {W with pl:=W.pl.set u P1} V:=by
 have Y:=h.b;have Z:=h.an;have h3:=h.ht;have H:=(aj.1 A).1;refine⟨(k.heap h.hg h.tg C).1,(k.heap h.hg h.tg C).2,⟨?_,λi P j=>?_⟩,h.B.A k C λi _ _=>C,h.ca.A k C C λi _=>C,h.po.A k C C,h.ha.A k C,h.ms.A k C,by rw[bK];exact h.b,h.an,h.ht⟩
 .have:=h.a.row.A k C;rw[bK];exact this
 by_cases e:u=i
 .subst e;rw[aQ H]at j;simp only[aJ]at j;subst j;exact⟨gu,mk,y,F⟩
 rw[aH e]at j;obtain⟨L,mk',M,T⟩:=h.a.pl i P j;exact⟨L,mk',M,T.A k C C C⟩
def jG.Sr(h:jG w gH g W V)(k:jB P w gH w' gI)(T:∀t,P t->(100+32*u<=t/\t<132+32*u)\/PM t){A:Ac}(M:W.ac[u]?=some A)(H:Oa V.aw u p A.up)(Y:Cl w' gI (100+32*u) p qb X'):jG w' gI g {W with ac:=W.ac.modify u λA=>{A with X:=X'}} V:=by
 have h1:=h.b;have h2:=h.an;have h3:=h.ht;have hu:=(aj.1 M).1;have j:∀t,¬(100+32*u<=t/\t<132+32*u)->¬PM t->¬P t:=λt Z g2 g3=>by obtain e|e:=T t g3;exact Z e;exact g2 e
 unfold PM at j;refine⟨(k.heap h.hg h.tg (j _ C C)).1,(k.heap h.hg h.tg (j _ C C)).2,h.a.A k (j _ C C) λi _ _=>j _ C C,⟨?_,λi B y=>?_⟩,h.ca.A k (j _ C C) (j _ C C) λi _=>j _ C C,h.po.A k (j _ C C) (j _ C C),h.ha.A k (j _ C C),h.ms.A k (j _ C C),h.b,by rw[cy];exact h.an,h.ht⟩
 .have:=h.B.row.A k (j _ C C);rw[cy];exact this
 rw[bS]at y;by_cases e:u=i
 .subst e;rw[M]at y;simp only[if_true,dL,bG,aJ]at y;subst y;exact⟨p,qb,H,Y⟩
 simp only[az e,dL]at y;obtain⟨B',F,rfl⟩:=bN.1 y;have:=(aj.1 F).1;obtain⟨p',L,e1,e2⟩:=h.B.ac i B' F;exact⟨p',L,e1,e2.A k λs _ _=>j _ C C⟩
def qm.B{cb len cap:Nat}(h:qm w gH gK (gN (G cb) len cap) cs)(F:gK.length=len)(hc:gK[i]?=some c)(t)(r)(rv)(hr:Rd w gH 99 5 rv (r.val.map B8)):qm (ku w cb (i*11+7) [I t,I r.wh,I r.ad,rv]) gH (gK.set i {c with fin:=t,r:=r}) (gN (G cb) len cap) (yE cs (i*11+7) [I t,I r.wh,I r.ad,rv]):=by
 subst F;have a1:=h.row.gH cb rfl;have k:jB (λs=>s=4) w gH (ku w cb (i*11+7) [I t,I r.wh,I r.ad,rv]) gH:=Gz a1 _ _;have hl:=h.row.ie.1;have a2:=(aj.1 hc).1;have L:i*11+7+4<=cs.length:=C;refine⟨⟨by rw[bK];exact FO _ _ _ _ h.row.ie,h.row.gH⟩,λj c' M=>?_⟩;by_cases T:j=i
 .subst T;rw[aQ a2]at M;simp only[aJ]at M;subst M;obtain⟨tv,Y,e0,e1,e2,e3,e4,e5,e6,e7,e8,e9,Z,A,a0⟩:=h.c j c hc;have z:=λkk hk=>JM [I t,I r.wh,I r.ad,rv] cs (j*11+7) kk hk L;have y:=λo (ho:o<7)=>wK [I t,I r.wh,I r.ad,rv] cs (j*11+7) (j*11+o) (.inl C);exact⟨tv,rv,(y 0 C).H e0,(y 1 C).H e1,(y 2 C).H e2,(y 3 C).H e3,(y 4 C).H e4,(y 5 C).H e5,(y 6 C).H e6,z 0 gG,z 1 gG,z 2 gG,z 3 gG,A.A k C,hr.A k C⟩
 rw[aH (Ne.symm T)]at M;obtain⟨tv,Y,e0,e1,e2,e3,e4,e5,e6,e7,e8,e9,Z,A,a0⟩:=h.c j c' M;have y:=λo (ho:o<11)=>wK [I t,I r.wh,I r.ad,rv] cs (i*11+7) (j*11+o) ig;exact⟨tv,Y,(y 0 C).H e0,(y 1 C).H e1,(y 2 C).H e2,(y 3 C).H e3,(y 4 C).H e4,(y 5 C).H e5,(y 6 C).H e6,(y 7 C).H e7,(y 8 C).H e8,(y 9 C).H e9,(y 10 C).H Z,A.A k C,a0.A k C⟩
end
def Ia(t:Nat):Prop:=t=1\/t=4
def Wd.vS(W:Wd)(c:Kl):Kl:=c.B (W.a+1) W.ac[c.a]?
def Wd.pG(W:Wd)(k:Nat):List Kl:=(W.gK.map W.vS).take k++W.gK.drop k
def EK(W:Wd):W.pG 0=W.gK:=rfl
def GO(W:Wd):W.pG W.gK.length=W.gK.map W.vS:=by unfold Wd.pG;rw[eQ,cF,bI gG]
def Iu(W:Wd)(k)(h:k<=W.gK.length):(W.pG k).length=W.gK.length:=by simp[Wd.pG];omega
def BK(W:Wd)(k)(j:k<W.gK.length):(W.pG k)[k]?=W.gK[k]?:=by unfold Wd.pG;have h:(List.take k (W.gK.map W.vS)).length=k:=ig;rw[aC C,h];simp
def xO(W:Wd)(h:W.gK[k]?=some c):W.pG (k+1)=(W.pG k).set k (W.vS c):=by
 have j:=(aj.1 h).1;have y:(W.gK.map W.vS)[k]?=some (W.vS c):=by rw[aK,h];rfl
 unfold Wd.pG;have A:(List.take k (W.gK.map W.vS)).length=k:=ig;rw[eA _ _ C,A];have F:List.drop k W.gK=c::List.drop (k+1) W.gK:=by rw[cm j];simp_all
 rw[F,cW,y];simp
def xG(W:Wd)(j:W.gK[k]?=some c)(h:W.vS c=c):W.pG (k+1)=W.pG k:=by
 rw[xO W j,h];have y:=BK W k (aj.1 j).1;rw[j]at y;apply bJ;intro i;by_cases e:k=i
 .subst e;rw[aQ (aj.1 y).1,y]
 simp_all
theorem ot(h:jG w gH g W V)(hW:Wk W)(em:W.iN<=100000000000)(bs:W.gK.length<=1000000000):Calls prog 53 #[O g] w λen w'=>en=.returned (.bool true)/\∃gI,jB Ia w gH w' gI/\Wx w' gI g W.js:=by
 obtain⟨ca,cc,bv⟩:=h.ca.row.B;obtain⟨aa,ac,bw⟩:=h.B.row.B;obtain⟨pv,av,lv,cv,hv,mv,ps,aw,ls,cs,tp⟩:=V;simp only at bv bw;subst bv bw;have c8:=h.cellAt 8 rfl;have f8:=h.M 8;have lg:=h.lt;have h1:=h.QB (W.a+1);have k1:jB Ia w gH (w.setCell (U g 8) (I (W.a+1))) gH:=(kn h.tg 8 _).L λt e=>.inl e;let⟨Wa,b7⟩:=gJ (w.setCell (U g 8) (I (W.a+1)));rw[b7]at h1 k1;have dd:IntKind.i64.wrap (W.a+1)=W.a+1:=by have:=hW.nw;rw[IntKind.wrap_i64];omega
 let⟨HW,H1,bx,bz⟩:=jR hW h1 k1 b7;clear h h1 k1 hW b7;go_enter func53,ntmps53;go_upto_region 2 with fail;rw[bz.o];clear bz c8 f8;go_wp2;go_loopw[3](λi wr=>∃(k:Nat) (gI:Nat->Nat) (a9:List Value),k<=W.gK.length/\i=I k/\Hid (jB Ia w gH wr gI)/\Hid (jG wr gI g {W with a:=W.a+1,gK:=W.pG k} ⟨pv,.slice aa W.ac.length ac,lv,.slice ca W.gK.length cc,hv,mv,ps,aw,ls,a9,tp⟩)) λi _=>W.gK.length-(Go.RowKit.intOf i).toNat
 case atStart=>exact⟨0,gH,cs,ju,rfl,bx,by rw[EK];exact H1⟩
 clear H1 bx;obtain⟨k,gI,a9,hk,rfl,HK,HD⟩:=hrel;have d7:=HD.cellAt 7 rfl;have bB:=HD.lt;by_cases ja:k<W.gK.length
 .have ea:(k:Int)<(W.gK.length:Int):=C;have bC:=BK W k ja;let⟨c,hc⟩:=mm ja;have bD:=HW.ca c (aR hc);obtain⟨A,hA,dg,bE⟩:=bD.ac;let⟨r,hr⟩:=mm dg;have dj:=(aj.1 hA).1;have eb:(c.a:Int)<(W.ac.length:Int):=C;let⟨bR,bT,Hc⟩:=iz (Iu W k hk) (bC.H hc) hc;let⟨Hr,HA,dk⟩:=iz hr hA bE;have ad:=HD.ca.row;simp only[bR.o]at ad;obtain⟨cb,rfl,ep,am,T,bV⟩:=ad.cells C;obtain⟨tv,rv,e0,e1,e2,e3,e4,e5,e6,e7,e8,e9,bW,bX,an⟩:=HD.ca.c k c bT;have d0:=(T (k*11) C).H e0;have d1:=(T (k*11+1) C).H e1;have d2:=(T (k*11+2) C).H e2;have d3:=(T (k*11+3) C).H e3;have d4:=(T (k*11+4) C).H e4;have d5:=(T (k*11+5) C).H e5;have d6:=(T (k*11+6) C).H e6;have b8:=(T (k*11+7) C).H e7;have d8:=(T (k*11+8) C).H e8;have d9:=(T (k*11+9) C).H e9;have ap:=(T (k*11+10) C).H bW;obtain⟨ta,tc,rfl⟩:=bX.B;obtain⟨ra,rc,rfl⟩:=an.B;rw[ay]at ap an;have c0:=gP an;clear e0 e1 e2 e3 e4 e5 e6 e7 e8 e9 bW bX an bC hc hr ad bD hA bE;have c1:=gP bV;have c2:=HD.cellAt 5 rfl;have ag:=HD.B.row;obtain⟨ab,rfl,_,c3,a6,_⟩:=ag.cells (Nat.lt_of_le_of_lt ju dj);obtain⟨p,qb,⟨c4,c5,c6⟩,c7⟩:=HD.B.ac c.a A HA;have a0:=(a6 (c.a*3) (by show c.a*3<W.ac.length*3;omega)).H c4;have a1:=(a6 (c.a*3+1) (by show c.a*3+1<W.ac.length*3;omega)).H c5;have a2:=(a6 (c.a*3+2) (by show c.a*3+2<W.ac.length*3;omega)).H c6;have c9:=gP c7;let⟨oQ,hO⟩:=gJ (Obj.cells #[I c.a,I c.b,I c.kind,I c.pos,.string (jq c.value),.slice ta c.c.length tc,I c.d,I c.fin,I c.r.wh,I c.r.ad,.slice ra c.r.val.length rc] 60);let⟨W5,ba⟩:=gJ (wr.alloc oQ);have bA:=(Bl.refl wr).alloc oQ;have Z:=ao wr oQ;rw[ba]at bA Z;have x5:=(bA.cell bB).H c2;let⟨x0,x1,x2⟩:=bA.D c3 a0 a1 a2;have ec:=af c3 bA.lt;have eq:=af bB bA.lt;have cd:wr.heap.size<W5.heap.size:=(ae.1 Z).1;rw[<-hO]at Z;have y0:W5.cell? (U wr.heap.size 0)=some (I c.a):=ax W5 _ 0 _ 60 (0,0) Z;let⟨bb,ce,HO,cf⟩:=jR Z bA hO ba;clear bA Z a0 a1 a2 c4 c5 c6 a6 c2 ba hO ag c7 T;go_upto_region 6 with fail;rw[HO.o,cf.o];clear cf;let⟨up,bc⟩:=gJ A.up;rw[bc]at x2;have aq:=gP bc;clear bc;go_cut[5]from 15 to 107 λy wx=>∃g5,y= O g5/\Hid (Bl W5 wx/\W5.heap.size<=g5/\wx.heap[g5]?=some (.cells #[I (kg c.a),O p,.bool up] 129 (0,0)))
  case first=>
   go_region;all_goals(go_wp2_with fail;go_meet)
   all_goals(refine⟨_,rfl,?_,jl,?_⟩;(first|exact(jC.alloc _).drew|exact(jC.drew).alloc _|exact jC.alloc _);exact ao _ _)
  case rest=>
   obtain⟨g5,rfl,a4⟩:=hcut;have a7:=ce.H a4.1;have ee:g5<wc.heap.size:=(ae.1 a4.2.2).1;let⟨z1,z2⟩:=qJ a4.2.2 1 2 rfl;have ar:=(a4.1.heap cd).H bb;have cg:wr.heap.size<wc.heap.size:=af cd a4.1.lt;have y1:wc.cell? (U wr.heap.size 1)=some (I c.b):=ax wc _ 1 _ 60 (0,0) ar;let⟨b3,au⟩:=gO ar a7
   cases up with
   |false=>
    have M:Hid (W.vS c=c):=by unfold Hid Wd.vS Kl.B;rw[HA.o];simp only[aq.o];rfl
    have Y:=HD.bl (gI:=iq gI wr.heap.size 99) a7 λb hb=>gV _ _ _ _ hb;have a8:jB Ia w gH wc (iq gI wr.heap.size 99):=HK.H (jB.B a7 99);let⟨HE,hs⟩:=gO (And.intro Y a8) (xG W Hc M);clear a7 ar bb a4 y0 x0 x1 x2 x5 d0 d1 d2 d3 d4 d5 d6 d8 d9 ap b8 d7 Y a8;go_wp2;refine⟨⟨k+1,_,a9,C,iD,HE.2,jk hs.o HE.1⟩,iC⟩
   |true=>
   have hx:=(HW.ac _ A HA).x;have er:r.val.length<=255:=by have:=(hx.rv r (aR Hr)).vl;omega
   have ch:A.X.c.length<=1000000000:=by have:=hx.g;have:(A.X.c.length:Int)<=W.gK.length:=this;omega
   have ci:Hid (Calls prog 23 #[O p,I c.b] wc λen w'=>∃va vc,en=.returned (.tuple #[.agg #[I r.wh,I r.ad,.slice va r.val.length vc],I 0])/\Bl wc w'/\w'.ownsRow wc.heap.size 5 1 (.slice va r.val.length vc) r.val.length (r.val.map B8)):=by obtain⟨Vc,bs⟩:=c9.bl a7 (gI:=gI) λb hb=>rfl;exact Im bs c.b r Hr ch C
   have aY:=nK b8 d8 d9 ap;clear a7 ar bb a4 y0 x0 x1 x2 x5 d0 d1 d2 d3 d4 d5 d6 d8 d9 ap b8 d7 hx ch c9;go_upto_region 11 with(go_at_call 23;refine ci.L ?_;rintro en w8⟨va,vc,rfl,ck,cl⟩;let⟨b0,bd⟩:=gO ck cl;clear ck cl);let⟨W9,cn⟩:=gJ (w8.alloc (.cells #[I r.wh,I r.ad,.slice va r.val.length vc] 43));have b9:=(Bl.refl w8).alloc (.cells #[I r.wh,I r.ad,.slice va r.val.length vc] 43);have b1:=ao w8 (.cells #[I r.wh,I r.ad,.slice va r.val.length vc] 43);rw[cn]at b9 b1|-;have a5:=au.H (b0.H b9);have D9:=HD.bl (gI:=iq gI wr.heap.size 99) a5 λb hb=>gV _ _ _ _ hb;have K9:jB Ia w gH W9 (iq gI wr.heap.size 99):=HK.H (jB.B a5 99);have b2:w8.heap.size<W9.heap.size:=(ae.1 b1).1;have ai:=((b0.H b9).heap cg).H b3;have ef:wr.heap.size<W9.heap.size:=(ae.1 ai).1;let⟨y7,y8,y9,co⟩:=lV ai 7 8 9 10 rfl;let⟨q0,q1,q2⟩:=oR b1 0 1 2 rfl;have cq:Rd W9 (iq gI wr.heap.size 99) 99 5 (.slice va r.val.length vc) (r.val.map B8):=(Rd.qj bd λb hb=>iJ _ _ _ _ (aF au.lt (bd.lt b hb).1)).bl b9 λ_ _ e=>e;have b4:Rd W9 (iq gI wr.heap.size 99) 99 5 (.slice ra c.r.val.length rc) (c.r.val.map B8):=c0.bl a5 (λb hb e=>by rw[gV _ _ _ _ hb];exact e);have be:w8.heap.size≠cb:=by have:=af am (aF au.lt b0.lt);omega
   have cr:=D9.lt;let⟨g7,g8⟩:=D9.R 7 8 rfl;have ct:cb<W9.heap.size:=af am a5.lt;have bg:∀j,W9.frozen? (U cb j)=false:=λj=>(a5.frozen am).H (c1 j);have dl:=bg (k*11+7);let⟨w7,bi,bm,bn⟩:=a5.M am aY.1 aY.2.1 aY.2.2.1 aY.2.2.2;let⟨cx,b5,Y⟩:=iz cq b4 D9;let⟨a8,ak⟩:=gO K9 bg;clear b9 b1 a5 D9 K9 ai cq b4 bg cn au b0 bd ci b3 ce HD HK c0 c1 bV z1 z2 y1;have al:Hid (¬(c.fin=0/\r.wh≠0)->W.vS c=c):=by intro dn;unfold Wd.vS Kl.B;rw[HA.o];simp only[aq.o,Hr.o,if_true,az dn]
   by_cases Q:c.fin=0
   .by_cases bo:r.wh=0
    .have M:=gP (xG W Hc (al λe=>e.2 bo));rw[Q]at y7;rw[bo]at q0;go_wp2;go_roundw
     case rel=>exact⟨k+1,_,a9,C,iD,a8,jk M.o Y⟩
     exact iC
    have M:=gP (xO W Hc);rw[Q]at y7;have cP:=ak (k*11+8);have cS:=ak (k*11+9);have b6:=ak (k*11+10);go_upto_region 12 with fail;go_region;all_goals(go_wp2_with fail)
    let⟨W10,F⟩:=gJ ((W9.setCell (U cb (k*11+7)) (I (W.a+1))).drew);have a3:gL (λb=>b=cb) W9 W10:=by rw[<-F];exact((gL.refl (λb=>b=cb) W9).setCell (U cb (k*11+7)) (.inl rfl) _).H (gL.B jC.drew)
    have cV:g≠cb:=λe=>gY Y.ca.row.ie Y.hg gF (by rw[e];rfl);have es:=(a3.cell cr cV (o:=7)).H g7;have eu:=(a3.cell b2 be (o:=0)).H q0;have ev:=(a3.cell b2 be (o:=1)).H q1;have ew:=(a3.cell b2 be (o:=2)).H q2;have eg:W10.cell? (U cb (k*11+8))=some (I c.r.wh):=by rw[<-F];exact(World.cell?_setCell_other _ _ _ _ gG).H bi
    have ei:W10.cell? (U cb (k*11+9))=some (I c.r.ad):=by rw[<-F];exact(World.cell?_setCell_other _ _ _ _ gG).H bm
    have ej:W10.cell? (U cb (k*11+10))=some (.slice ra c.r.val.length rc):=by rw[<-F];exact(World.cell?_setCell_other _ _ _ _ gG).H bn
    have ex:W10.frozen? (U cb (k*11+8))=false:=by rw[<-F];exact(World.frozen?_setCell _ _ _ _).H cP
    have ez:W10.frozen? (U cb (k*11+9))=false:=by rw[<-F];exact(World.frozen?_setCell _ _ _ _).H cS
    have ek:W10.frozen? (U cb (k*11+10))=false:=by rw[<-F];exact(World.frozen?_setCell _ _ _ _).H b6
    have el:=af cr a3.size;have ds:=af ct a3.size;have dt:=af b2 a3.size;rw[F];have da:=gP F;clear F a3 g7 g8 q0 q1 q2 w7 bi bm bn y7 y8 y9 co dl cP cS b6;go_region;all_goals(go_wp2_with fail)
    have dw:(((W10.setCell (U cb (k*11+8)) (I r.wh)).setCell (U cb (k*11+8+1)) (I r.ad)).setCell (U cb (k*11+8+2)) (.slice va r.val.length vc)).drew=(ku W9 cb (k*11+7) [I (W.a+1),I r.wh,I r.ad,.slice va r.val.length vc]).drew.drew:=by rw[<-da.o];rfl
    rw[dw];have hC:=Y.ca.B bR bT (W.a+1) r _ cx;have db:iq gI wr.heap.size 99 cb=4:=Y.ca.row.gH cb rfl;have hP:jB (λs=>s=4) W9 (iq gI wr.heap.size 99) (ku W9 cb (k*11+7) [I (W.a+1),I r.wh,I r.ad,.slice va r.val.length vc]) (iq gI wr.heap.size 99):=Gz db _ _;have hD:=Y.TB (hP.L λt e=>.inl e) hC;have bp:=hD.bl (gI:=iq gI wr.heap.size 99) (jC.drew.drew) λ_ _=>rfl;have dO:W.vS c={c with fin:=W.a+1,r:=r}:=by unfold Wd.vS Kl.B;rw[HA.o];simp only[aq.o,Hr.o,if_true,aE (And.intro Q bo)]
    rw[dO]at M;have bq:=M.o;simp only at bp;rw[<-bq]at bp;exact⟨⟨k+1,_,_,C,iD,(a8.H (hP.L λt e=>.inr e)).H (jB.A (jC.drew.drew) λ_ _=>rfl),bp⟩,iC⟩
   have dc:c.r=r:=by have h1:=dk aq Q;have h2:=Hr.o;rw[h1]at h2;simpa using h2
   have M:=gP (xG W Hc (al λe=>Q e.1));rw[dc]at y8 y9 co b5;clear w7 bi bm bn dc;have v1:=kX _ r.val W9 cx.bs.sl;have v2:=kX _ r.val W9 b5.bs.sl;go_wp2;refine⟨⟨k+1,_,a9,C,iD,a8,jk M.o Y⟩,iC⟩
 have f0:¬((k:Int)<(W.gK.length:Int)):=C;have dS:k=W.gK.length:=C;subst dS;go_wp2;go_ret;have Q:=HD.o;rw[GO W]at Q;exact⟨rfl,gI,HK,⟨_,Q⟩⟩
theorem Gb(h:jG w gH g W V)(F:W.jT=[])(fr tt)(da)(dn dc):iB 100 #[O g,.agg #[I fr,I tt,gN da dn dc]] w λQ w'=>Q=gX (.bool (W.rR fr tt))/\Bl w w':=by
 have M:W.rR fr tt=false:=by simp[Wd.rR,F]
 rw[M];have j:=h.ms;rw[F]at j;obtain⟨Y,Z,y⟩:=j.B;have A:=(Bl.refl w).alloc (im #[I fr,I tt,gN da dn dc] 138);have L:=(A.cell h.lt).H (h.cellAt 10 rfl);rw[y]at L;have lg:=af h.lt A.lt;have T:=gP A;clear h A j y M F;go_enter func100,ntmps100;go_wp2_with fail;go_loopw[5](λi wr=>i=I 0/\wr=w.alloc (im #[I fr,I tt,gN da dn dc] 138)) λ_ _=>0
 case atStart=>exact⟨rfl,rfl⟩
 obtain⟨rfl,rfl⟩:=hrel;go_wp2;go_ret;exact⟨rfl,T⟩
structure GA(jT:List Int):Prop where
 c:∀{w:World} {gH:Nat->Nat} {g:Nat} {W:Wd} {V:WV},jG w gH g W V->W.jT=jT->∀(fr tt:Int) (da:Option Addr) (dn dc:Nat),Calls prog 100 #[O g,.agg #[I fr,I tt,.slice da dn dc]] w λen w'=>en=.returned (.bool (W.rR fr tt))/\Bl w w'
def Ev:GA []:=⟨λh j fr tt y A F=>Gb h j fr tt y A F⟩
structure Sw(W:Wd):Prop where
 a:W.iN<=3000000000
 c:W.gK.length<=9999999
def Sw.sm(h:Sw W)(i):Sm (W.A i):=by have j:=h.a;have y:=h.c;exact⟨by show(W.iN:Int)<=100000000000000;omega,by show 20*_<=100000000000000;omega,by show(W.gK.length:Int)<=10000000;omega,by show 200*(W.iN:Int)<=100000000000000;omega⟩
def Sw.k1(h:Sw W)(i):(W.A i).K+1<=100000000000000:=by have j:=h.a;show 20*_+1<=100000000000000;omega
def Ph(t:Nat):Prop:=t=1\/t=4\/t=9\/(10<=t/\t<52)\/(100<=t/\t<356)
structure HF(w:World)(gH:Nat->Nat)(wr:World)(gI:Nat->Nat)(gl:Nat)(cv:Value)(fr tt:Int)(dv:Value)(D:List Int):Prop where
 k:jB Ph w gH wr gI
 box:wr.heap[gl]?=some (.cells #[I fr,I tt,dv] 138 (0,0))
 tb:gI gl=9
 data:mC wr gI 9 5 1 cv D.length (D.map B8)
 src:Rd wr gI 98 5 dv (D.map B8)
def HF.step{wr y:World}{j:Nat->Nat}{fr tt:Int}{D:List Int}(h:HF w gH wr gI gl cv fr tt dv D)(A:jB (λt=>(10<=t/\t<52)\/(100<=t/\t<356)) wr gI y j):HF w gH y j gl cv fr tt dv D:=
 ⟨h.k.H (A.L λt e=>by unfold Ph;omega),(A.heap h.box h.tb C).1,(A.heap h.box h.tb C).2,h.data.A A C,h.src.A A C⟩
def mC.Xh{D:List Int}(h:mC w gH t 5 1 cv D.length (D.map B8))(F:0<D.length):sP w cv D:=by obtain⟨H,y,L,M,_,Q,_,T,Y⟩:=h.block F;subst M;refine⟨H,0,y,rfl,Q,T,by unfold maxLen at Y;omega,λj d A=>?_⟩;have Z:=(aj.1 A).1;rw[bP,h.ie.cellAt j C,aK,A];rfl
theorem uH.len{m v:Nat}(h:uH b n m v l)(s:Sm b):l.pk.bytes.length<=600/\mR l.pk.bytes/\((∃ds,l.pk=.noi ds)\/3<=l.pk.bytes.length):=by
 let⟨fr,tt,p⟩:=l;have j:∀{lG:List (Int×Int×Int)} {kd:Int} {y val:List Int},Rc.Ok lG ⟨kd,y,val⟩->y.length<=7->(iV kd y val).length<=600/\mR (iV kd y val)/\3<=(iV kd y val).length:=λQ hn=>by
  refine⟨?_,λd T=>Rc.range Q d T,?_⟩
  .have:=Q.v1;rw[oH];simp at this|-;omega
  rw[oH];omega
 cases p with
 |noi ds=>exact⟨by have:=h.1;show ds.length<=600;omega,h.2,.inl ⟨ds,rfl⟩⟩
 |req r=>
  have Y:Rc.Ok nV ⟨r.kd,[r.ln,r.nr,r.ep,r.pl,r.ct.kd,r.ct.cl,r.ct.ca],r.ct.val⟩:=by
   obtain⟨_,M⟩|⟨_,M⟩:=h.2
   .exact M.ok s
   exact M.ok s
  let⟨F,H,L⟩:=j Y gG;exact⟨F,H,.inr L⟩
 |rep Z A=>let⟨F,H,L⟩:=j (h.2.2.ok s h.2.1) gG;exact⟨F,H,.inr L⟩
 |vot Z lt u=>let⟨F,H,L⟩:=j (h.2.2.2.ok s h.2.1 h.2.2.1) gG;exact⟨F,H,.inr L⟩
theorem HF.Yk{wr:World}{fr tt:Int}{m v:Nat}(h:HF w gH wr gI gl cv fr tt dv l.pk.bytes)(j:uH b n m v l)(s:Sm b):Ds wr cv l.pk:=by
 obtain⟨_,Y,h3⟩:=j.len s;let⟨Z,H,p⟩:=l
 cases p with
 |noi ds=>
  refine⟨by have:=j.1;show ds.length<=3;omega,λe=>?_,λL=>h.data.Xh L,j.2⟩;have F:=h.data.ie.2;have e':(Pk.noi ds).bytes=[]:=e;simp only[e']at F;obtain⟨y,_⟩|⟨g,cap,M,y,_,_,e3,Q,_⟩:=F
  .exact⟨none,0,y,gF⟩
  exact⟨_,_,y,by unfold maxLen at Q;omega⟩
 |req r=>obtain⟨_,e⟩|h3:=h3;exact absurd e gG;exact h.data.Xh C
 |rep T A=>obtain⟨_,e⟩|h3:=h3;exact absurd e gG;exact h.data.Xh C
 |vot T H u=>obtain⟨_,e⟩|h3:=h3;exact absurd e gG;exact h.data.Xh C
def Lv:W.qS l 0=W.pl:=by
 apply bJ;intro i;rw[pf]
 cases W.pl[i]?<;>simp
def S7:(W.qS l k)[k]?=W.pl[k]?:=by
 rw[pf]
 cases W.pl[k]?<;>simp
def F6:(W.qS l k).length=W.pl.length:=dJ ..
theorem Q6{P:Pl}(h:W.pl[k]?=some P)(j:jZ W.n W.m k=l.tt)(y:P.up=true):W.qS l (k+1)=(W.qS l k).set k (P.recv W.n W.m W.v W.ce l.fr l.pk):=by
 apply bJ;intro i;by_cases e:k=i
 .subst e;rw[aQ (by rw[F6];exact(aj.1 h).1),pf,h];simp_all
 rw[aH e,pf,pf]
 cases W.pl[i]? with
 |none=>rfl
 |some Q=>have:i<k+1↔i<k:=C;simp_all
theorem TN{P:Pl}(h:W.pl[k]?=some P)(j:¬(jZ W.n W.m k=l.tt/\P.up=true)):W.qS l (k+1)=W.qS l k:=by
 apply bJ;intro i;rw[pf,pf];by_cases e:k=i
 .simp_all
 cases W.pl[i]? with
 |none=>rfl
 |some Q=>have:i<k+1↔i<k:=C;simp_all
def MM:W.sr l 0=W.ac:=by
 apply bJ;intro i;rw[oJ]
 cases W.ac[i]?<;>simp
def De:(W.sr l k)[k]?=W.ac[k]?:=by
 rw[oJ]
 cases W.ac[k]?<;>simp
def Qy:(W.sr l k).length=W.ac.length:=dJ ..
theorem Qq{A:Ac}(h:W.ac[k]?=some A)(j:kg k=l.tt)(y:A.up=true):W.sr l (k+1)=(W.sr l k).modify k λB=>{B with X:=A.X.recv l.fr l.pk}:=by
 apply bJ;intro i;rw[bS];by_cases e:k=i
 .subst e;rw[De,oJ];simp_all
 rw[oJ,oJ]
 cases W.ac[i]? with
 |none=>rfl
 |some Q=>have:i<k+1↔i<k:=C;simp_all
theorem RH{A:Ac}(h:W.ac[k]?=some A)(j:¬(kg k=l.tt/\A.up=true)):W.sr l (k+1)=W.sr l k:=by
 apply bJ;intro i;rw[oJ,oJ];by_cases e:k=i
 .simp_all
 cases W.ac[i]? with
 |none=>rfl
 |some Q=>have:i<k+1↔i<k:=C;simp_all
def Old(W:Wd)(ps:List Value)(k:Nat)(w:World)(gH:Nat->Nat):Prop:=∀(i:Nat) (P:Pl),k<=i->W.pl[i]?=some P->∃gi mk,Ib ps W.n W.m i gi mk P.up P.oB/\yU w gH W.n W.m W.v W.ce i gi W.iN mk P
def Old.A(h:Old W ps k w gH)(H:jB P w gH w' gI){j:Nat}(Y:k<=j)(y:∀i t,j<=i->i<14->(t=10+3*i\/t=11+3*i\/t=12+3*i)->¬P t)(L:W.pl.length<=14):Old W ps j w' gI:=λi Q A F=>by let⟨gi,mk,M,T⟩:=h i Q C F;have:=(aj.1 F).1;exact⟨gi,mk,M,T.A H (y i _ A C (.inl rfl)) (y i _ A C (.inr (.inl rfl))) (y i _ A C (.inr (.inr rfl)))⟩
def LB(w)(bm clk)(l)(j:w.heap[bm]?=some (.map (iu l) clk))(k)(h:∀e∈l,e.k≠k):(Instr.lookup 98 (.map (some bm)) (I k) true).run prog w=.ok (.tuple #[.pointer none,.bool false]) w:=by
 have y:=fa (w:=w) underlying3 (pM l k h);have A:=eW (P:=prog) (w:=w) (k:= I k) underlying3 um (iu l).isEmpty 9999;have F:(Sem.run prog (zeroValue 163) w)=.ok (.pointer none) w:=ix;simp[Instr.lookup,Sem.run_bind,aI j,A,y,F]
section
variable{w1:World}{V V':CV}{c c':jz}{cv cv':kM}
theorem Lb(h:jf w gH t p qb X V)(F:∀c∈X.a,c.q.nodes.length<=100)(n)(H:n∉X.jA)(a):iB 52 #[O p,I n,I a] w λT w'=>T=gX (I 7)/\w'=w:=by
 have c8:=h.cellAt 8 rfl;have lp:=h.A;by_cases j:∃c∈X.a,c.gU=n
 .obtain⟨c,j,rfl⟩:=j;obtain⟨cv,L⟩:=h.r.d c j;have Y:Cx.ml c=false:=by
   cases e:Cx.ml c with
   |false=>rfl
   |true=>exact absurd (aD.2 ⟨c,aU.2 ⟨j,e⟩,rfl⟩) H
  have M:=gP (qV L (F c j));rw[Y]at M;have y:=h.qq j;have Z:=L.lt;clear h L H F;let⟨q,A⟩:=gJ (qb c.gU);rw[A]at M y Z;clear A;go_enter func52,ntmps52;go_wp2_with(first|(go_at_call 94;refine M.L ?_;rintro T w1⟨rfl,rfl⟩));go_ret;exact⟨rfl,rfl⟩
 have y:=LB w V.bm V.clk _ h.r.mp (n:Int) (λe he=>by
  obtain⟨c,Q,rfl⟩:=aD.1 he
  intro e
  have e':(c.gU:Int)=n:=e
  exact j ⟨c,Q,C⟩)
 clear h H F j;go_enter func52,ntmps52;go_wp2;go_ret;exact⟨rfl,rfl⟩
end
def jG.qi(h:jG w gH g W V)(k:jB (Mc (100+32*u)) w gH w' gI){A:Ac}(y:W.ac[u]?=some A)(j:Oa V.aw u p A.up)(F:Cl w' gI (100+32*u) p qb X'):jG w' gI g (W.qi u X') V:=
 (h.Sr k (λt e=>.inl (by unfold Mc at e;omega)) y j F).D oC
def pz{α:Type}(f:α->α)(l:List α)(k:Nat):List α:=(l.map f).take k++l.drop k
def Ix{α:Type}(f)(l:List α):pz f l 0=l:=rfl
def Nh{α:Type}(f)(l:List α):pz f l l.length=l.map f:=by unfold pz;rw[eQ,cF,bI gG]
def CC{α:Type}(f)(l:List α)(k)(h:k<=l.length):(pz f l k).length=l.length:=by simp[pz];omega
def FN{α:Type}(f)(l:List α)(k)(j:k<l.length):(pz f l k)[k]?=l[k]?:=by unfold pz;have h:(List.take k (l.map f)).length=k:=ig;rw[aC C,h];simp
def Av{α:Type}{f:α->α}{l:List α}{c:α}(h:l[k]?=some c):pz f l (k+1)=(pz f l k).set k (f c):=by
 have j:=(aj.1 h).1;have y:(l.map f)[k]?=some (f c):=by rw[aK,h];rfl
 unfold pz;have A:(List.take k (l.map f)).length=k:=ig;rw[eA _ _ C,A];have F:List.drop k l=c::List.drop (k+1) l:=by rw[cm j];simp_all
 rw[F,cW,y];simp
def NM{α:Type}{f:α->α}{l:List α}{c:α}(j:l[k]?=some c)(h:f c=c):pz f l (k+1)=pz f l k:=by
 rw[Av j,h];have y:=FN f l k (aj.1 j).1;rw[j]at y;apply bJ;intro i;by_cases e:k=i
 .subst e;rw[aQ (aj.1 y).1,y]
 simp_all
def Bh(h:Wk W){A:Ac}(H:W.ac[i]?=some A)(hu:A.up=true)(hn:n∈A.X.jA):∃q d,W.gK[q]?=some d/\d.a=i/\d.b=n/\d.kind=1/\d.fin=0/\∀(k:Nat) c,k<q->W.gK[k]?=some c->¬(c.a=i/\c.b=n):=by
 obtain⟨c,hc,rfl⟩:=aD.1 hn;let⟨m1,L⟩:=aU.1 hc;have k1:c.kind=1:=by unfold Cx.ml at L;simp only[bL,ZT]at L;exact L.1
 have hx:=(h.ac i A H).x;obtain⟨d,M,Q,T,h3,_⟩:=((hx.d c m1).st:W.J i c.gU c.kind c.ie c.unit c.ij);obtain⟨q,j⟩:=List.mem_iff_getElem?.1 M;refine⟨q,d,j,Q,T,h3.H k1,?_,λk e hk he hb=>?_⟩
 .by_cases Y:d.fin=0
  .exact Y
  exfalso;obtain⟨A',Z,a2,a3⟩:=(h.ca _ M).ac;rw[Q,H]at Z;simp only[aJ]at Z;subst Z;have r1:=a3 hu Y;rw[T]at r1;exact(h.ca _ M).fw Y ((hx.f _ _ r1).2 ⟨c,m1,rfl⟩)
 have a0:((W.gK.filter λc=>c.a==i).map (·.b)).Nodup:=by rw[(h.ac i A H).nm];exact dU
 have y:[e,d].Sublist W.gK:=by
  obtain⟨hq,a4⟩:=aj.1 j;have h5:W.gK.drop q=d::W.gK.drop (q+1):=by rw[cm hq,a4]
  have h6:e∈W.gK.take q:=by obtain⟨a6,a5⟩:=aj.1 he;exact fM.2 ⟨k,C,a5⟩
  have F:([e]++[d]).Sublist (W.gK.take q++W.gK.drop q):=by refine gD (List.singleton_sublist.2 h6) ?_;rw[h5];exact List.Sublist.cons_cons _ (fp _)
  rwa[dK]at F
 have F:=((y.filter λc=>c.a==i).map (·.b));have h8:=a0.sublist F;simp[hb.1,Q,hb.2,T]at h8
theorem M5(h:jG w gH g W V)(hl:W.gK.length<=1000000000){q:Nat}(hd:W.gK[q]?=some d)(ha:d.a=i)(hn:d.b=n)(hk:d.kind=1)(hf:d.fin=0)(M:∀(k:Nat) c,k<q->W.gK[k]?=some c->¬(c.a=i/\c.b=n)):iB 56 #[O g,I i,I n] w λen w'=>en=gX (.bool true)/\Bl w w':=by
 obtain⟨ca,cc,Q⟩:=h.ca.row.B;have H:=gP h;have a8:=(aj.1 hd).1;let⟨Hd,a2,T⟩:=iz hd M Q;clear h hd M Q;go_enter func56,ntmps56;go_wp2_with fail;go_loopw[7](λj wr=>∃k:Nat,k<=q/\j=I k/\Hid (Bl w wr)) λj _=>W.gK.length-(Go.RowKit.intOf j).toNat
 case atStart=>exact⟨0,ju,rfl,jC⟩
 obtain⟨k,a9,rfl,HB⟩:=hrel;have Y:=H.bl (gI:=gH) HB λ_ _=>rfl;have ja:k<W.gK.length:=C;have a7:(k:Int)<(W.gK.length:Int):=C;have c7:=Y.cellAt 7 rfl;rw[T.o]at c7;have aa:=Y.lt;let⟨c,hc⟩:=mm ja;have A:=Y.ca.row;rw[T.o]at A;obtain⟨cb,rfl,_,ab,y,_⟩:=A.cells C;obtain⟨tv,rv,e0,e1,e2,e3,e4,e5,e6,e7,e8,e9,Z,a0,a1⟩:=Y.ca.c k c hc;have d0:=(y (k*11) C).H e0;have d1:=(y (k*11+1) C).H e1;have d2:=(y (k*11+2) C).H e2;have d3:=(y (k*11+3) C).H e3;have d4:=(y (k*11+4) C).H e4;have d5:=(y (k*11+5) C).H e5;have d6:=(y (k*11+6) C).H e6;have d7:=(y (k*11+7) C).H e7;have d8:=(y (k*11+8) C).H e8;have d9:=(y (k*11+9) C).H e9;have a3:=(y (k*11+10) C).H Z;obtain⟨ta,tc,rfl⟩:=a0.B;obtain⟨ra,rc,rfl⟩:=a1.B;rw[ay]at a3;have Hc:=gP hc;clear Y y e0 e1 e2 e3 e4 e5 e6 e7 e8 e9 Z a0 a1 hc A;by_cases a4:k=q
 .subst a4;have a5:c=d:=by have:=Hc.symm.H Hd;simpa using this
  subst a5;rw[hk]at d2;rw[hf]at d7;rw[ha]at d0;rw[hn]at d1;clear ha hn hk hf;go_wp2;go_ret;exact⟨rfl,HB.alloc _⟩
 have F:=a2 k c C Hc;by_cases L:c.a=i
 .have a6:¬((c.b:Int)=(n:Int)):=λe=>F ⟨L,C⟩;rw[L]at d0;clear L F ha hn hk hf;go_wp2;exact⟨⟨k+1,C,iD,HB.alloc _⟩,iC⟩
 have a6:¬((c.a:Int)=(i:Int)):=C;clear L F ha hn hk hf;go_wp2;exact⟨⟨k+1,C,iD,HB.alloc _⟩,iC⟩
def jG.Tm{cb len:Nat}(h:jG w gH g W V)(a1:V.cv=gN (G cb) len cc)(a4:W.gK.length=len)(hd:W.gK[i]?=some d){tc:Nat}(a9:V.cs[i*11+5]?=some (gN ta d.c.length tc))(a2:Bl w W1){t:Int}(a0:w5.ownsRow 0 3 1 (gN (G gg) (d.c.length+1) cp) (d.c.length+1) (d.c.map I++[I t]))(F:W1.grownBy w5 (gN ta d.c.length tc).ownBlock)(aa:(gN ta d.c.length tc).ownBlock=some gg\/w.heap.size<=gg):∃tag2,jB (λs=>s=4\/s=1000+i) w gH (w5.setCell (U cb (i*11+5)) (gN (G gg) (d.c.length+1) cp)) tag2/\jG (w5.setCell (U cb (i*11+5)) (gN (G gg) (d.c.length+1) cp)) tag2 g {W with gK:=W.gK.set i {d with c:=d.c++[t]}} {V with cs:=V.cs.set (i*11+5) (gN (G gg) (d.c.length+1) cp)}:=by
 subst a4;have l2:=a2.lt;have l3:=F.size;have n1:=h.b;have n2:=h.an;have n3:=h.ht;have ab:=(aj.1 hd).1;have au:V.cs.length=W.gK.length*11:=h.ca.row.ie.1;have M:=h.ca.row;rw[a1]at M;obtain⟨tv,rv,e0,e1,e2,e3,e4,e5,e6,e7,e8,e9,ac,a5,ad⟩:=h.ca.c i d hd;have ag:tv=gN ta d.c.length tc:=by have:=e5.symm.H a9;simpa using this
 subst ag;have tl:=a5.gH;have ll:=λb Q=>(a5.ie.lt b Q).2;have a3:=M.gH cb rfl;have a6:=(M.ie.lt cb rfl).2;obtain⟨tag2,a7⟩:∃tag2:Nat->Nat,tag2=λb=>if b<w.heap.size then gH b else if b=gg then 1000+i else 9:=⟨_,rfl⟩
 have T:∀b,b<w.heap.size->tag2 b=gH b:=λb Q=>by rw[a7];simp[Q]
 have ai:tag2 gg=1000+i:=by
  obtain e|e:=aa
  .rw[T gg (ll gg e)];exact tl gg e
  rw[a7];dsimp only;rw[az C,aE rfl]
 have O5:gL (λb=>gH b=4\/gH b=1000+i) w w5:=(gL.B a2).H ((gL.A F).L λb _ e=>.inr (tl b e.symm));have oQ:gL (λb=>gH b=4\/gH b=1000+i) w (w5.setCell (U cb (i*11+5)) (gN (G gg) (d.c.length+1) cp)):=O5.setCell (U cb (i*11+5)) (.inl (.inl a3)) _;have k:jB (λs=>s=4\/s=1000+i) w gH (w5.setCell (U cb (i*11+5)) (gN (G gg) (d.c.length+1) cp)) tag2:=⟨oQ,T⟩;have Y:w5.ownsRow 0 60 11 (gN (G cb) W.gK.length cc) W.gK.length V.cs:=by
  refine lY M.ie λb Q=>?_;have e:cb=b:=by simpa [Value.ownBlock]using Q
  subst e;rw[F.block cb C λe=>by have:=tl cb e.symm;rw[a3]at this;omega,a2.heap a6]
 refine⟨tag2,k,(k.heap h.hg h.tg C).1,(k.heap h.hg h.tg C).2,h.a.A k C λj _ _=>C,h.B.A k C λj _ _=>C,⟨⟨by show World.ownsRow _ _ _ _ V.cv _ _;rw[a1,bK];exact sV Y _ _,λb Q=>?_⟩,λj y hy=>?_⟩,h.po.A k C C,h.ha.A k C,h.ms.A k C,n1,n2,n3⟩
 .have a8:V.cv.ownBlock=some b:=Q;rw[a1]at a8;have e:cb=b:=by simpa [Value.ownBlock]using a8
  rw[<-e,T cb a6];exact a3
 by_cases hj:j=i
 .subst hj;rw[aQ ab]at hy;simp only[aJ]at hy;subst hy;have y:=λo (ho:o<11) (h5:o≠5)=>aH (l:=V.cs) (a:=gN (G gg) (d.c.length+1) cp) (show j*11+5≠j*11+o by omega);refine⟨gN (G gg) (d.c.length+1) cp,rv,(y 0 C C).H e0,(y 1 C C).H e1,(y 2 C C).H e2,(y 3 C C).H e3,(y 4 C C).H e4,aQ C,(y 6 C C).H e6,(y 7 C C).H e7,(y 8 C C).H e8,(y 9 C C).H e9,(y 10 C C).H ac,⟨?_,λb Q=>?_⟩,ad.A k C⟩
  .simp only[aO,df,dA,aZ,bj,eT];refine lY a0 λb Q=>Z8 _ _ _ _ λe=>?_;obtain⟨g',aq,ar,k1,_,k3,k4,_⟩:=(show mC w5 (λ_=>0) 0 60 11 (gN (G cb) W.gK.length cc) W.gK.length V.cs from⟨Y,λ_ _=>rfl⟩).block C;simp only[bO,aJ,Z0,ZS,ZU]at k1;rw[<-k1.1]at k4;exact gY a0 k4 gF (jS Q e)
  have e:gg=b:=by simpa [Value.ownBlock]using Q
  rw[<-e];exact ai
 rw[aH (Ne.symm hj)]at hy;obtain⟨ak,al,z0,z1,z2,z3,z4,z5,z6,z7,z8,z9,am,an,ap⟩:=(h.ca.c j y hy).A k C C;have Z:=λo (ho:o<11)=>aH (l:=V.cs) (a:=gN (G gg) (d.c.length+1) cp) (show i*11+5≠j*11+o by omega);exact⟨ak,al,(Z 0 C).H z0,(Z 1 C).H z1,(Z 2 C).H z2,(Z 3 C).H z3,(Z 4 C).H z4,(Z 5 C).H z5,(Z 6 C).H z6,(Z 7 C).H z7,(Z 8 C).H z8,(Z 9 C).H z9,(Z 10 C).H am,an,ap⟩
def jG.RA{Q:Nat}(h:jG w gH g W {V with hv:=gN ha W.mw.length Q})(F:Bl w W1){t:Int}(A:w5.ownsRow 0 3 1 (gN (G gg) (W.mw.length+1) cp) (W.mw.length+1) (W.mw.map I++[I t]))(j:W1.grownBy w5 (gN ha W.mw.length Q).ownBlock)(Z:(gN ha W.mw.length Q).ownBlock=some gg\/w.heap.size<=gg):∃tag2,jB (λs=>s=1\/s=7) w gH (w5.setCell (U g 9) (gN (G gg) (W.mw.length+1) cp)) tag2/\jG (w5.setCell (U g 9) (gN (G gg) (W.mw.length+1) cp)) tag2 g {W with mw:=W.mw++[t]} {V with hv:=gN (G gg) (W.mw.length+1) cp}:=by
 have lw:=h.lt;have l2:=F.lt;have l3:=j.size;have n1:=h.b;have n2:=h.an;have n3:V.tp=8\/V.tp=97:=h.ht;have tl:∀b,(gN ha W.mw.length Q).ownBlock=some b->gH b=7:=h.ha.gH;have ll:=λb M=>(h.ha.ie.lt b M).2;obtain⟨tag2,T⟩:∃tag2:Nat->Nat,tag2=λb=>if b<w.heap.size then gH b else if b=gg then 7 else 9:=⟨_,rfl⟩
 have y:∀b,b<w.heap.size->tag2 b=gH b:=λb M=>by rw[T];simp[M]
 have a0:tag2 gg=7:=by
  obtain e|e:=Z
  .rw[y gg (ll gg e)];exact tl gg e
  rw[T];dsimp only;rw[az C,aE rfl]
 have oQ:gL (λb=>gH b=1\/gH b=7) w (w5.setCell (U g 9) (gN (G gg) (W.mw.length+1) cp)):=((gL.B F).H ((gL.A j).L λb _ e=>.inr (tl b e.symm))).setCell (U g 9) (.inl (.inl h.tg)) _;have k:jB (λs=>s=1\/s=7) w gH (w5.setCell (U g 9) (gN (G gg) (W.mw.length+1) cp)) tag2:=⟨oQ,y⟩;have Y:w5.heap[g]?=some (im (D6 W {V with hv:=gN ha W.mw.length Q}).toArray 66 (0,0)):=by rw[j.block g C λe=>by have:=tl g e.symm;rw[h.tg]at this;omega,F.heap lw];exact h.hg
 refine⟨tag2,k,jx 9 _ w5 _ Y,(y g lw).H h.tg,h.a.A k C λi _ _=>C,h.B.A k C λi _ _=>C,h.ca.A k C C λi _=>C,h.po.A k (show¬(V.tp=1\/V.tp=7) by omega) C,⟨?_,λb M=>?_⟩,h.ms.A k C,n1,n2,n3⟩
 .simp only[aO,df,dA,aZ,bj,eT];exact lY A λb M=>Z8 _ _ _ _ λe=>gY A Y gF (jS M e)
 have e:gg=b:=by simpa [Value.ownBlock]using M
 rw[<-e];exact a0
def Pg(t:Nat):Prop:=t=1\/t=4\/t=7\/(100<=t/\t<356)\/1000<=t
def Sx(w:World)(x)(t):∀j u,[x][j]?=some u->(w.alloc (im #[x] t)).cell? (((U w.heap.size 0):Addr).add j)=some u:=fW (cs:=#[x]) (t:=t) (fr:=(0,0)) (ao w _)
def Bq(h:tP X):X.jA.Pairwise (·<·):=by unfold Cx.jA;exact cj.2 ((h.gU.sublist cE).imp λe=>e)
def Ke{A:Ac}(M:Wk W)(Q:Sw W)(T:W.ac[i]?=some A)(Y:n∈A.X.jA)(t)(Z:Cl w gH (100+32*i) p qb A.X):iB 25 #[O p,I n,I t] w λen w'=>en=gX (I 0)/\CS w gH (100+32*i) p qb (A.X.ld n t) w':=by
 let⟨VC,H⟩:=Z;have y:=(M.ac i A T).x;have h:=Q.sm i;obtain⟨c,hc,rfl⟩:=aD.1 Y;let⟨F,L⟩:=aU.1 hc;have j:c.q.nodes.length<=100:=by have:=(y.d c F).q.nl;omega
 by_cases ha:A.X.D t
 .exact AH _ _ _ _ (Sk H C (y.QT h) F L j t ha)
 refine AH _ _ _ _ (Fo H (y.QT h) F L j t ?_);unfold Cx.D at ha;omega
theorem EX(h:jG w gH g W V)(hW:Wk W)(hS:W.iN+2<=3000000000)(hC:W.gK.length<=9999999)(a which t)(bE:nO a)(bR:nO which)(dc:0<W.ac.length):iB 29 #[O g,I a,I which,I t] w λen w'=>en=gX (.bool true)/\∃gI,jB Pg w gH w' gI/\Wx w' gI g (W.ld a which t):=by
 obtain⟨i3,j3,r0,r1,r2⟩:=fx il.tY;obtain⟨aa,ac,bT⟩:=h.B.row.B;obtain⟨ca,cc,bV⟩:=h.ca.row.B;obtain⟨ha,hc,bX⟩:=h.ha.B;obtain⟨pv,av,lv,cv,hv,mv,ps,aw,ls,cs,tp⟩:=V;simp only at bT bV bX;subst bT bV bX;have fv:=h.b;have fw:=h.an;let⟨i,hi⟩:=gJ (iL a W.ac.length);have dd:i<W.ac.length:=by rw[<-hi];exact kB a dc
 have fz:(i:Int)<(W.ac.length:Int):=C;have an:pk a W.ac.length=(i:Int):=by have:=lZ a W.ac.length C;rw[<-hi];unfold iL;omega
 let⟨A,hA⟩:=mm dd;have b5:=gP λWm=>j5 a W.ac.length Wm bE.1 bE.2 C C;rw[an]at b5;obtain⟨ab,rfl,KA,c0,a2,_⟩:=h.B.row.cells (by show 0<W.ac.length;omega);obtain⟨p,qb,ak,bm⟩:=h.B.ac i A hA;have d1:=(a2 (i*3+1) (by show i*3+1<W.ac.length*3;omega)).H ak.2.1;have d2:=(a2 (i*3+2) (by show i*3+2<W.ac.length*3;omega)).H ak.2.2;have c5:=h.cellAt 5 rfl;have lg:=h.lt;have hx:=(hW.ac i A hA).x;have a8:∀c∈A.X.a,c.q.nodes.length<=100:=λc hc=>by have:=(hx.d c hc).q.nl;omega
 have bn:Hid (iB 24 #[O p] w λen w'=>∃a cap,en=gX (gN a A.X.jA.length cap)/\w'.ownsRow w.heap.size 3 1 (gN a A.X.jA.length cap) A.X.jA.length (A.X.jA.map λ(n:Nat)=>I (n:Int))/\Bl w w'):=by let⟨VC,hK⟩:=bm;exact BS hK hx.pl a8
 have b6:Hid (A.X.jA=[]->∀Wm,Bl w Wm->iB 25 #[O p,I 0,I 0] Wm λen w'=>en=gX (I 7)/\w'=Wm):=by intro he Wm hb;obtain⟨VC,hK⟩:=bm.bl hb (gI:=gH) λ_ _=>rfl;have:=AH 0 0 7 (λw'=>w'=Wm) (Lb hK a8 0 (nG he) 0);exact this
 have ap:=Bq hx.a;let⟨L,Z⟩:=gJ A.X.jA;have bo:Hid (A.up=true->∀n∈L,∃q d,W.gK[q]?=some d/\d.a=i/\d.b=n/\d.kind=1/\d.fin=0/\∀(k:Nat) c,k<q->W.gK[k]?=some c->¬(c.a=i/\c.b=n)):=λhu n hn=>Bh hW hA hu (jk Z hn);have f4:L.length<=8:=by rw[<-Z];unfold Cx.jA;rw[ay];exact aF (bF _ _) hx.pl
 have bg:Hid (∀n∈L,n<=1000000000):=λn hn=>by rw[<-Z]at hn;obtain⟨c,dg,rfl⟩:=aD.1 hn;have e1:=hx.a.lt c (aU.1 dg).1;have e2:(A.X.c.length:Int)<=W.gK.length:=hx.g;omega
 rw[Z]at bn b6 ap;have a9:W.ld a which t=if A.up=true/\L≠[]then(W.oy i A (L.getD (iL which L.length) 0) t).js else W:=by unfold Wd.ld;rw[hi,hA];dsimp only;rw[Z]
 let⟨up,bp⟩:=gJ A.up;rw[bp]at d2 a9 bo;let⟨H,g0,Hs⟩:=iz (And.intro h (And.intro hW (And.intro hA (And.intro ak Z)))) bp ap;clear h hW hA ak bm hx a8 bp ap Z a2 an hi;rw[a9];clear a9
 cases up with
 |false=>rw[az (λe=>mi e)];go_enter func29,ntmps29;go_wp2_with(first|(go_at_call 15;refine gT (b5 _) λw' T=>?_;have T:=T.symm;subst T));go_ret;exact⟨rfl,gH,jB.refl,⟨_,H.1⟩⟩
 |true=>
 generalize c1:(if true=true/\L≠[]then(W.oy i A (L.getD (iL which L.length) 0) t).js else W)=WR;have c2:=gP c1;clear c1;go_enter func29,ntmps29;go_upto_region 5 with(first|(go_at_call 15;refine gT (b5 _) λw' T=>?_;have T:=T.symm;subst T)|(go_at_call 24;refine bn.L ?_;rintro en w1⟨wa,bi,rfl,c3,c4⟩;let⟨dj,dk⟩:=gO c4 c3;clear c4 c3));clear bn b5;go_wp2;go_loopw[11](λj wr=>∃k:Nat,k<=L.length/\j=I k/\Hid (Bl w1 wr)) λj _=>L.length-(Go.RowKit.intOf j).toNat
 case atStart=>exact⟨0,ju,rfl,jC⟩
 obtain⟨k,hk,rfl,HB⟩:=hrel;have bW:=dj.H HB;have ad:=(iT HB).iX dk λ_ _ e=>e;by_cases ja:k<L.length
 .have f6:(k:Int)<(L.length:Int):=C;let⟨nk,b7⟩:=mm ja;let⟨q,d,q1,q2,q3,q4,q5,q6⟩:=bo (by first|rfl|trivial) nk (aR b7);have c6:=gP (M5 (H.1.bl (gI:=gH) bW λ_ _=>rfl) (by show W.gK.length<=_;omega) q1 q2 q3 q4 q5 q6);obtain⟨gl,c8,dl,e1,_,b8,e4,_⟩:=(show mC wr (λ_=>0) 0 3 1 (lF wa L bi) L.length (L.map λ(n:Nat)=>I (n:Int))from⟨gZ ad λ_ _=>ju,λ_ _=>rfl⟩).block C;simp only[bO,ZU]at e1;obtain⟨rfl,rfl⟩:=e1;have ag:∀(jj n:Nat),L[jj]?=some n->wr.cell? (U gl jj)=some (I (n:Int)):=λjj n hn=>by have g1:=(aj.1 hn).1;have:=ad.cellAt jj C;rwa[aK,hn]at this
  have x0:=ag k nk b7;have bq:=gP ag;have dn:=bg nk (aR b7);clear q1 q2 q3 q4 q5 q6 ad bW e4 ag;by_cases ds:k=0
  .subst ds;go_upto_region 9 with(go_at_call 56;refine iO c6 λw2 bs=>?_);go_quiet(fail);go_wp2;exact⟨⟨1,C,iD,(HB.H bs).drewN _⟩,iC⟩
  obtain⟨nl,bv⟩:∃nl,L[k-1]?=some nl:=⟨_,ah C⟩;have dt:nl<nk:=by obtain⟨b1,f1⟩:=aj.1 bv;obtain⟨b2,f2⟩:=aj.1 b7;have:=dE.1 Hs (k-1) k b1 b2 C;rwa[f1,f2]at this
  have x1:=bq (k-1) nl bv;have f7:0<k:=C;have cd:(0:Int)<(k:Int):=C;have g2:decide ((0:Int)<(k:Int))=true:=iU cd;have bw:IntKind.i64.wrap ((k:Int)-1)=((k-1:Nat):Int):=vB;have ce:((k-1:Nat):Int)<(L.length:Int):=C;have dw:¬((nk:Int)<=(nl:Int)):=C;have f8:decide ((nk:Int)<=(nl:Int))=false:=iU dw;let⟨km,cf⟩:=gJ (k-1);rw[cf]at x1 bw ce;clear cf bv dt;go_upto_region 9 with(go_at_call 56;refine gT c6 λw2 a3=>?_;have bs:=gP a3;let⟨g3,g4⟩:=a3.B b8 x0 x1;have fd:=af b8 a3.lt;clear a3);go_quiet(fail);go_wp2;exact⟨⟨k+1,C,iD,(HB.H bs).drewN _⟩,iC⟩
 have cg:¬((k:Int)<(L.length:Int)):=C;have HX:Hid (jG wr (uv gH w) g W ⟨pv,gN (G ab) W.ac.length ac,lv,gN ca W.gK.length cc,gN ha W.mw.length hc,mv,ps,aw,ls,cs,tp⟩):=H.1.bl (gI:=iq gH w.heap.size 9) bW λb hb=>gV _ _ _ _ hb;have bx:Hid (jB Pg w gH wr (uv gH w)):=jB.B bW 9;have dO:=(bW.cell c0).H d1;have dS:=(bW.cell lg).H c5;have ch:=af c0 bW.lt;have aq:=HX.lt;by_cases bz:L.length=0
 .have ar:L=[]:=aW.1 bz;have HG:=gP (b6 ar wr bW);have ci:(L.length:Int)=0:=C;have HR:Hid (W=WR):=by unfold Hid;rw[<-c2.o,az (λe=>e.2 ar)]
  clear bW ad ar b6 cg;rw[bz];go_wp2_with(first|(go_at_call 25;refine gT HG λw' T=>?_;have T:=T.symm;subst T));go_ret;rw[<-HR.o];exact⟨rfl,_,bx,⟨_,HX⟩⟩
 have ea:0<L.length:=C;have ci:¬((L.length:Int)=0):=C;let⟨kk,b9⟩:=gJ (iL which L.length);have eb:kk<L.length:=by rw[<-b9];exact kB which ea
 have an:pk which L.length=(kk:Int):=by have:=lZ which L.length C;rw[<-b9];unfold iL;omega
 have bA:=gP λWm=>j5 which L.length Wm bR.1 bR.2 C C;rw[an]at bA;let⟨nn,ba⟩:=mm eb;have ck:L.getD (iL which L.length) 0=nn:=by rw[b9,aS,ba];rfl
 have HR:Hid ((W.oy i A nn t).js=WR):=by unfold Hid;rw[<-c2.o,aE ⟨by first|trivial|rfl,λe=>bz (by rw[e];rfl)⟩,ck]
 have a4:=aR ba;have dn:=bg nn a4;have cl:=gP a4;obtain⟨gl,c8,dl,e1,_,b8,e4,_⟩:=(show mC wr (λ_=>0) 0 3 1 (lF wa L bi) L.length (L.map λ(n:Nat)=>I (n:Int))from⟨gZ ad λ_ _=>ju,λ_ _=>rfl⟩).block C;simp only[bO,ZU]at e1;obtain⟨rfl,rfl⟩:=e1;have x0:wr.cell? (U gl kk)=some (I (nn:Int)):=by have:=ad.cellAt kk C;rwa[aK,ba]at this
 have g5:(kk:Int)<(L.length:Int):=C;obtain⟨ec,au,hA,ak,Z⟩:=H.o;have cn:=CP au hA (n:=nn) (jk Z a4) t;let⟨f,hf⟩:=gJ ((λc=>if c.a=i/\c.b=nn then{c with c:=c.c++[t]}else c):Kl->Kl);have co:∀c:Kl,(c.a=i/\c.b=nn)->f c={c with c:=c.c++[t]}:=λc hc=>by rw[<-hf];simp only[aE hc]
 have cq:∀c:Kl,¬(c.a=i/\c.b=nn)->f c=c:=λc hc=>by rw[<-hf];simp only[az hc]
 have Hf:=my hf co cq;have ee:Hid (∀c∈W.gK,c.c.length<=3000000000):=λc hc=>by have:=(au.ca c hc).tk;omega
 have g6:Hid (∀(Wm:World) (aY:Nat->Nat),Cl Wm aY (100+32*i) p qb A.X->iB 25 #[O p,I nn,I t] Wm λen w'=>en=gX (I 0)/\CS Wm aY (100+32*i) p qb (A.X.ld nn t) w'):=λWm aY ef=>Ke au ⟨C,hC⟩ hA (jk Z a4) t ef;have eg:=gP cn;have g7:=au.hd;let⟨g8,ff⟩:=gJ W.gK.length;clear bW ad b6 cg an ck a4 ba hf co cq cn ec au ak Z e4 bo b9;go_upto_region 14 with(go_at_call 15;refine gT (bA _) λw' T=>?_;have T:=T.symm;subst T);clear bA x0 b8;go_wp2;go_loopw[14](λj wx=>∃(k:Nat) (gI:Nat->Nat) (b0:List Value),k<=W.gK.length/\j=I k/\Hid (jB Pg w gH wx gI)/\Hid (jG wx gI g {W with gK:=pz f W.gK k} ⟨pv,gN (G ab) W.ac.length ac,lv,gN ca W.gK.length cc,gN ha W.mw.length hc,mv,ps,aw,ls,b0,tp⟩)) λj _=>W.gK.length-(Go.RowKit.intOf j).toNat
 case atStart=>exact⟨0,_,cs,ju,rfl,bx,by rw[Ix];exact HX⟩
 clear HX bx dS dO ch aq;obtain⟨j,gI,b0,hj,rfl,b3,a0⟩:=hrel;let⟨c7,c9⟩:=a0.R 7 9 rfl;have aq:=a0.lt;by_cases cr:j<W.gK.length
 .have g9:(j:Int)<(W.gK.length:Int):=C;let⟨x,a5⟩:=mm cr;have hx:(pz f W.gK j)[j]?=some x:=by rw[FN f W.gK j cr];exact a5
  have a6:=a0.ca.row;simp only[CC f W.gK j hj]at a6;obtain⟨cb,rfl,_,ct,al,bb⟩:=a6.cells C;obtain⟨tv,rv,e0,e1,e2,e3,e4,e5,e6,e7,e8,e9,bB,ai,bC⟩:=a0.ca.c j x hx;have d0:=(al (j*11) C).H e0;have ei:=(al (j*11+1) C).H e1;have d5:=(al (j*11+5) C).H e5;have f5:=bb (j*11+5);have ga:=gP a5;by_cases a7:x.a=i/\x.b=nn
  .obtain⟨ta,tc,rfl⟩:=ai.B;let⟨HT,ej⟩:=gO ai e5;have cx:Hid ((gN ta x.c.length tc).ownBlock≠some cb):=λe=>by have t1:=ai.gH cb e;have t2:=a0.ca.row.gH cb rfl;omega
   have ek:Hid ((gN ta x.c.length tc).ownBlock≠some g):=λe=>by have t1:=ai.gH g e;have t2:=a0.tg;omega
   have gb:=ee x (aR a5);have bD:Hid (x.c.length+1<=maxLen):=mV;have a3:Hid ((x.c.length+1)*8<=140737488355328):=lT;have el:Hid (pz f W.gK (j+1)=(pz f W.gK j).set j {x with c:=x.c++[t]}):=by unfold Hid;rw[Av a5,Hf.2.1 x a7]
   have Hx:=gP hx;rw[a7.1]at d0;rw[a7.2]at ei;clear al bb e0 e1 e2 e3 e4 e5 e6 e7 e8 e9 bB ai bC a6 hx a5 a7;go_upto_region 18 with fail;go_region_law
    ((refine step_append_lies _ jQ _ _ _ jQ 0 3 i3 _ 1 8 underlying24 j3 r0 r1 r2 rfl C _ x.c.length (x.c.map I) jQ ((HT.ie.alloc _).drew) (U wr.heap.size 0) 1 1 [I t] jQ jQ (fW (cs:=#[I t]) (t:=3) (fr:=(0,0)) (ao wr _)) rS C bD a3 gG (wr.heap.size+1) gG ?_;intro gg cp w6 F y M Y;have gc:=(AN (((Bl.refl wr).alloc _).drew) y (o:=j*11+5) ct cx).1.H d5;have gd:=(AN (((Bl.refl wr).alloc _).drew) y (o:=j*11+5) ct cx).2.H f5;have ge:=(AN (((Bl.refl wr).alloc _).drew) y (o:=7) aq ek).1.H c7;have em:g<w6.heap.size:=(by have:=y.size;simp at this;omega);have fi:cb<w6.heap.size:=(by have:=y.size;simp at this;omega);have bc:=nK F y M Y;clear F y M Y))
   all_goals(go_wp2_with fail)
   all_goals
    obtain⟨F,y,M,Y⟩:=bc.o;let⟨cP,p1,p2⟩:=a0.Tm (cb:=cb) (len:=W.gK.length) (cc:=cc) rfl (CC f W.gK j hj) Hx ej (((Bl.refl wr).alloc (im #[I t] 3)).drew) (gg:=gg) (cp:=cp) F y (M.imp (λe=>e) λe=>C);simp only at p2;rw[<-el.o]at p2;exact⟨⟨j+1,cP,_,C,iD,b3.H (p1.L λs e=>by unfold Pg;omega),p2⟩,iC⟩
  have cS:Hid (pz f W.gK (j+1)=pz f W.gK j):=NM a5 (Hf.2.2 x a7);by_cases bd:x.a=i
  .have ep:¬((x.b:Int)=(nn:Int)):=λe=>a7 ⟨bd,C⟩;rw[bd]at d0;clear al bb e0 e1 e2 e3 e4 e5 e6 e7 e8 e9 bB ai bC a6 hx a5 a7 bd;go_wp2;exact⟨⟨j+1,gI,b0,C,iD,b3,jk cS.o a0⟩,iC⟩
  have ep:¬((x.a:Int)=(i:Int)):=C;clear al bb e0 e1 e2 e3 e4 e5 e6 e7 e8 e9 bB ai bC a6 hx a5 a7 bd;go_wp2;exact⟨⟨j+1,gI,b0,C,iD,b3,jk cS.o a0⟩,iC⟩
 have fl:¬((j:Int)<(W.gK.length:Int)):=C;have cV:j=W.gK.length:=C;have am:=a0.o;rw[cV,Nh]at am;have d3:=gP am;have hh:=am.ha;have d4:Hid ((gN ha W.mw.length hc).ownBlock≠some g):=gY hh.ie am.hg gF;have f9:=am.M 9;have HH:=gP hh;have bD:Hid (W.mw.length+1<=maxLen):=mV;have a3:Hid ((W.mw.length+1)*8<=140737488355328):=lT;clear hh a0 am cV;go_upto_region 19 with fail;go_upto_region 20 with(at_builtin;refine fm _ rfl _ _ 24 rfl 0 3 i3 (I 0) 1 8 underlying24 j3 r0 r1 r2 rfl gF _ W.mw.length (W.mw.map I) rfl (HH.ie.alloc _) (U wr.heap.size 0) 1 1 [I t] rfl rfl (Sx _ _ _) rS gF bD a3 gG (wr.heap.size+1) gG ?_;intro gg cp w6 F y M Y;have eq:=(AN ((Bl.refl wr).alloc _) y (o:=9) aq d4).1.H c9;have er:=(AN ((Bl.refl wr).alloc _) y (o:=9) aq d4).2.H f9;have em:g<w6.heap.size:=(by have:=y.size;simp at this;omega);have bc:=nK F y M Y;clear F y M Y);obtain⟨F,y,M,Y⟩:=bc.o;let⟨d6,k7,h7⟩:=jG.RA (V:=⟨pv,gN (G ab) W.ac.length ac,lv,gN ca W.gK.length cc,gN ha W.mw.length hc,mv,ps,aw,ls,b0,tp⟩) d3 ((Bl.refl wr).alloc (im #[I t] 3)) (gg:=gg) (cp:=cp) F y (M.imp (λe=>e) λe=>C);let⟨W7,be⟩:=gJ (w6.setCell (U g 9) (gN (G gg) (W.mw.length+1) cp));rw[be]at k7;simp only at h7;rw[be]at h7;rw[be];have h8:=h7.D (a:=W.iN+1) oC;have es:({W with iN:=W.iN+1,gK:=W.gK.map f,mw:=W.mw++[t]}:Wd)=({W with iN:=W.iN+1}:Wd).Cg i nn t:=by unfold Wd.Cg;rw[<-Hf.1]
 simp only at h8;rw[es]at h8;have c5:=h8.cellAt 5 rfl;have gi:=h8.lt;obtain⟨gj,d7,_,fn,a2,_⟩:=h8.B.row.cells (by show 0<W.ac.length;omega);simp only[aJ,Z0,ZS]at d7;subst d7;have a1:=(a2 (i*3+1) (by show i*3+1<W.ac.length*3;omega)).H H.2.2.2.1.2.1;obtain⟨p7,gm,b4,bl⟩:=h8.B.ac i A H.2.2.1;have eu:p7=p:=by have e1:=b4.2.1.symm.H H.2.2.2.1.2.1;simpa using e1
 subst eu;have ev:=gP (Ke (w:=W7) (gH:=d6) H.2.1 ⟨C,hC⟩ H.2.2.1 (n:=nn) (jk H.2.2.2.2 cl) t bl);have H7:=m9 h8 b4;have ew:=gP (b3.H (k7.L (Q:=Pg) λs e=>by unfold Pg;omega));clear F y M Y bc k7 h7 h8 be a2 eq er c7 c9 f9 d3 b3 HH bl b4;go_wp2_with(first|(go_at_call 25;refine gT ev λw8 d8=>?_;obtain⟨fu,k8,d9⟩:=d8.A;have da:=H7.1.qi k8 H.2.2.1 H7.2 d9;have ex:=gP (ot da eg (by show W.iN+1+1<=_;omega) (by show(W.gK.map _).length<=_;rw[ay];omega));have ez:=gP (ew.H (k8.L (Q:=Pg) λs e=>by unfold Mc at e;unfold Pg;omega));clear d8 da k8 d9)|(go_at_call 53;refine ex.L ?_;rintro en w9⟨rfl,db,k9,h9⟩;let⟨f0,f3⟩:=gO k9 h9;clear k9 h9));go_ret;rw[<-HR.o];exact⟨rfl,db,ez.H (f0.L λs e=>by unfold Ia at e;unfold Pg;omega),f3⟩
def il.UY:(prog.info? 60).map (λi=>(i.zero,i.size,i.bytes))=some (some (.agg #[I 0,I 0,I 0,I 0,.string {data:=#[]},OO,I 0,I 0,I 0,I 0,OO]),11,128):=rfl
def Aa(ys):(jq ys).size=ys.length:=by have:=Z5 List.length (pL ys);simp_all
def tT(ys):(jq ys).data.size=ys.length:=Aa ys
def N4(w:World)(ys)(y:∀d∈ys,0<=d/\d<=255)(cap)(f):Bs (w.alloc (im (bytesRow (jq ys) cap) 5 f)) (gN (G w.heap.size) ys.length cap) (ys.map B8):=by
 refine .inr ⟨(U w.heap.size 0),cap,gG,λj u A=>?_⟩;rw[mK,bP,ax _ _ j _ 5 f (ao w _)];obtain⟨h,rfl⟩:=aj.1 A;rw[ay]at h;rw[bytesRow_at _ _ _ (by rw[tT];exact h)];have F:(jq ys).data[j]'(by rw[tT];exact h)=UInt8.ofNat (ys[j]).toNat:=by
  have:=pL ys;have H:(jq ys).data.toList[j]?=(ys.map λn=>UInt8.ofNat n.toNat)[j]?:=by rw[this]
  rw[aK,ah h,gw,dW (by rw[tT];exact h)]at H;simp_all
 have L:=y ys[j] (aL h);rw[F,dC];simp only[B8,UInt8.toNat_ofNat',aJ,Value.int.injEq,ZU];omega
def GI(w:World)(ys)(h:∀d∈ys,0<=d/\d<=255)(cap)(f)(y:ys.length<=cap)(A:cap<=maxLen):sP (w.alloc (im (bytesRow (jq ys) cap) 5 f)) (gN (G w.heap.size) ys.length cap) ys:=by
 refine⟨w.heap.size,0,cap,rfl,gG,y,by unfold maxLen at A;omega,λj d F=>?_⟩;obtain⟨e,_⟩|⟨M,c,e,H⟩:=N4 w ys h cap f
 .simp_all
 simp at e;let⟨L,_⟩:=e;have:=H j _ (by rw[aK,F];rfl);rw[<-L,mK]at this;omega
theorem Ca(w)(n:Nat):iB 40 #[I n] w λh w'=>h=gX (.string (jq (j4 n)))/\Bl w w':=by
 have A:IntKind.u8.wrap (n:Int)=(n:Int)%256:=IntKind.wrap_u8 _;have F:IntKind.u8.wrap ((n:Int)/256)=(n:Int)/256%256:=IntKind.wrap_u8 _;have H:=kX (gN (G w.heap.size) 5 5) (j4 n) (w.alloc (im #[.int .u8 ((n:Int)%256),.int .u8 ((n:Int)/256%256),.int .u8 ((n:Int)/65536%256),.int .u8 ((n:Int)/16777216%256),.int .u8 118] 5)) (by
  refine Bs.sl (.inr ⟨(U w.heap.size 0),5,by simp[j4],λj u y=>?_⟩)
  rw[mK,bP,ax _ _ j _ 5 (0,0) (ao w _)]
  simpa [j4,B8]using y)
 go_enter func40,ntmps40;go_wp2;go_ret;exact⟨rfl,jC.alloc _⟩
def Dn(X:Cx)(kind pos:Int)(val:List Int)(rn er:Int)(X2:Cx):Prop:=(X.a.length=8/\rn=0/\er=7/\X2=X)\/(X.a.length<8/\rn=X.c.length/\er=0/\X2=X.nT kind pos val)
def Wk.cx(h:Wk W){A:Ac}(j:W.ac[i]?=some A):A.X.n=W.n/\A.X.m=W.m/\A.X.ce=W.ce:=by obtain⟨⟨c1,c2⟩,_,y,_⟩:=(h.ac i A j).x.c;exact⟨c1,c2,y⟩
def yW{A:Ac}(hW:Wk W)(hS:Sw W)(hA:W.ac[i]?=some A)(kind b)(f:Nat)(hk:(kind=2/\f=19)\/(kind=3/\f=20)\/(kind=4/\f=21)\/(kind=5/\f=22))(hC:Cl w gH (100+32*i) p qb A.X):∃rn er X2,Dn A.X kind (W.j6 kind b) [] rn er X2/\iB f #[O p,I (W.j6 kind b)] w λy w'=>y=gX (.tuple #[I rn,I er])/\∃gI h,jB (Mc (100+32*i)) w gH w' gI/\Cl w' gI (100+32*i) p h X2:=by
 let⟨VC,F⟩:=hC;have hx:=(hW.ac i A hA).x;have Q:=hS.sm i;have j:=hx.QT Q;have hr:=hx.Ld Q;let⟨c1,c2,c3⟩:=hW.cx hA;let⟨H,p2,T,p4,p5⟩:=zF hW kind b C;rw[<-c1,<-c3]at T p4;rw[<-c1,<-c2]at p5;let⟨pos,Y⟩:=gJ (W.j6 kind b);rw[Y]at H p2 T p4 p5|-;have h8:=hx.pl;by_cases Z:A.X.a.length=8
 .refine⟨0,7,A.X,.inl ⟨Z,rfl,rfl,rfl⟩,?_⟩;have fin:∀w',Bl w w'->∃gI h,jB (Mc (100+32*i)) w gH w' gI/\Cl w' gI (100+32*i) p h A.X:=λw' hb=>⟨gH,qb,jB.A hb λ_ _=>rfl,Cl.bl ⟨VC,F⟩ hb λ_ _=>rfl⟩;obtain⟨rfl,rfl⟩|⟨rfl,rfl⟩|⟨rfl,rfl⟩|⟨rfl,rfl⟩:=hk
  .exact(Ch _ _ _ _ (MW F j Z pos ⟨H,T (.inl rfl)⟩)).L λy w' e=>⟨e.1,fin w' e.2⟩
  .exact(B4 _ _ _ _ (Ma F j Z pos ⟨H,T (.inr rfl)⟩)).L λy w' e=>⟨e.1,fin w' e.2⟩
  .exact(Cn _ _ _ _ (Nc F j Z pos H (p4 rfl))).L λy w' e=>⟨e.1,fin w' e.2⟩
  exact(Cv _ _ _ _ (Eh F j Z C pos ⟨H,p5 rfl⟩)).L λy w' e=>⟨e.1,fin w' e.2⟩
 refine⟨A.X.c.length,0,A.X.nT kind pos [],.inr ⟨C,rfl,rfl,rfl⟩,?_⟩;have fin:∀w' X' h,CS w gH (100+32*i) p h X' w'->∃gI h,jB (Mc (100+32*i)) w gH w' gI/\Cl w' gI (100+32*i) p h X':=λw' X' h M=>by obtain⟨gI,k,hc⟩:=M.A;exact⟨gI,h,k,hc⟩
 obtain⟨rfl,rfl⟩|⟨rfl,rfl⟩|⟨rfl,rfl⟩|⟨rfl,rfl⟩:=hk
 .exact(Ch _ _ _ _ (S8 F C j C C pos ⟨H,T (.inl rfl)⟩)).L λy w'⟨e,q,_,M⟩=>⟨e,fin w' _ _ M⟩
 .exact(B4 _ _ _ _ (Sq F C j C C pos ⟨H,T (.inr rfl)⟩)).L λy w'⟨e,q,_,M⟩=>⟨e,fin w' _ _ M⟩
 .exact(Cn _ _ _ _ (Rk F C j C C pos H (p4 rfl))).L λy w'⟨e,q,_,M⟩=>⟨e,fin w' _ _ M⟩
 exact(Cv _ _ _ _ (M0 F C j (hx.xn Q) C C pos ⟨H,p5 rfl⟩)).L λy w'⟨e,q,_,M⟩=>⟨e,fin w' _ _ M⟩
def OY{A:Ac}(Y:Wk W)(Z:Sw W)(hA:W.ac[i]?=some A)(pos)(a)(cap)(val)(h0:val.length=5)(hv:sP w (gN a 5 cap) val)(h:∀b,(gN a 5 cap).ownBlock=some b->¬Mc (100+32*i) (gH b))(hC:Cl w gH (100+32*i) p qb A.X):∃H M X2,Dn A.X 1 pos val H M X2/\iB 18 #[O p,gN a 5 cap] w λj w'=>j=gX (.tuple #[I H,I M])/\∃gI y,jB (Mc (100+32*i)) w gH w' gI/\Cl w' gI (100+32*i) p y X2:=by
 let⟨VC,F⟩:=hC;have Q:=(Y.ac i A hA).x;have hr:=Q.Ld (Z.sm i);have h8:=Q.pl;by_cases T:A.X.a.length=8
 .refine⟨0,7,A.X,.inl ⟨T,rfl,rfl,rfl⟩,?_⟩;exact(AD _ _ _ _ ⟨_,_,_,rfl⟩ (Ec F T a 5 cap C C)).L λj w' e=>⟨e.1,gH,qb,jB.A e.2 λ_ _=>rfl,Cl.bl ⟨VC,F⟩ e.2 λ_ _=>rfl⟩
 refine⟨A.X.c.length,0,A.X.nT 1 pos val,.inr ⟨C,rfl,rfl,rfl⟩,?_⟩;refine(AD _ _ _ _ ⟨_,_,_,rfl⟩ (Mw F C C _ val C C hv h)).L λj w'⟨e,q,_,hs⟩=>⟨e,?_⟩;obtain⟨gI,k,hc⟩:=hs.A;exact⟨gI,_,k,hc⟩
def IQ(h:Wk W){A:Ac}(T:W.ac[i]?=some A)(hu:A.up=true):W.js.uB i=A.X.a.length:=by
 have H:=h.ac i A T;have hn:=h.nw;have j:∀c∈W.gK,c.a=i->((c.B (W.a+1) W.ac[c.a]?).fin=0↔∃d∈A.X.a,d.gU=c.b):=λc y ha=>by
  obtain⟨B,b1,b2,b3⟩:=(h.ca c y).ac;rw[ha,T]at b1;obtain rfl:A=B:=iU b1;let⟨r,Y⟩:=mm b2;rw[<-H.x.f c.b r Y,ha,T];have e:c.B (W.a+1) (some A)=if c.fin=0/\r.wh≠0 then{c with fin:=W.a+1,r:=r}else c:=by unfold Kl.B;dsimp only;rw[aE hu,Y]
  rw[e];by_cases F:c.fin=0
  .by_cases Q:r.wh=0
   .rw[az (λe=>e.2 Q)];exact⟨λ_=>Q,λ_=>F⟩
   rw[aE ⟨F,Q⟩];exact⟨λe=>absurd e (by show¬W.a+1=0;omega),λe=>absurd e Q⟩
  rw[az (λe=>F e.1)];have h2:=b3 hu F;rw[Y]at h2;obtain rfl:r=c.r:=iU h2;exact⟨λe=>absurd e F,λe=>absurd e ((h.ca c y).fw F)⟩
 have Z:((W.gK.filter λc=>c.a==i).map (·.b)).Nodup:=by rw[H.nm];exact dU
 have hp:(A.X.a.map (·.gU)).Nodup:=(cj.2 H.x.a.gU).imp λe=>Nat.ne_of_lt e;have e1:W.js.uB i=(((W.gK.filter λc=>c.a==i).filter λc=>decide ((c.B (W.a+1) W.ac[c.a]?).fin=0)).map (·.b)).length:=by show((W.gK.map λc=>c.B (W.a+1) W.ac[c.a]?).filter λc=>c.a==i&&decide (c.fin=0)).length=_;rw[dZ,ay,ay,List.filter_filter];congr 1;refine dH λc _=>?_;simp only[Function.comp,(qc _ c _).1];rw[Bool.and_comm]
 have e2:(((W.gK.filter λc=>c.a==i).filter λc=>decide ((c.B (W.a+1) W.ac[c.a]?).fin=0)).map (·.b)).Perm (A.X.a.map (·.gU)):=by
  refine(fG (Z.sublist (List.filter_sublist.map _)) hp).2 λk=>⟨λL=>?_,λL=>?_⟩
  .obtain⟨c,y,rfl⟩:=aD.1 L;let⟨m1,m2⟩:=aU.1 y;let⟨m3,m4⟩:=aU.1 m1;obtain⟨d,d1,d2⟩:=(j c m3 (iU m4)).1 (iU m2);exact aD.2 ⟨d,d1,d2⟩
  obtain⟨d,hd,rfl⟩:=aD.1 L;have hl:=H.x.a.lt d hd;have L:d.gU∈(W.gK.filter λc=>c.a==i).map (·.b):=by rw[H.nm];exact di.2 C
  let⟨c,y,M⟩:=aD.1 L;let⟨m3,m4⟩:=aU.1 y;exact aD.2 ⟨c,aU.2 ⟨y,by simpa using(j c m3 (iU m4)).2 ⟨d,hd,M.symm⟩⟩,M⟩
 rw[e1,e2.length_eq,ay]
section
variable{K:Wd}
def BV(c:Kl):List Value:=[I c.a,I c.b,I c.kind,I c.pos,.string (jq c.value),OO,I c.d,I c.fin,I c.r.wh,I c.r.ad,OO]
def jG.PS(h:jG w gH g K {V with cv:=gN ca K.gK.length cc})(T:Bl w W1)(hc:c.c=[])(hr:c.r.val=[])(Q:w5.ownsRow 0 60 11 (gN (G gg) (K.gK.length+1) cp) (K.gK.length+1) (V.cs++BV c))(F:W1.grownBy w5 (gN ca K.gK.length cc).ownBlock)(a2:(gN ca K.gK.length cc).ownBlock=some gg\/w.heap.size<=gg):∃tag2,jB (λt=>t=1\/t=4) w gH (w5.setCell (U g 7) (gN (G gg) (K.gK.length+1) cp)) tag2/\jG (w5.setCell (U g 7) (gN (G gg) (K.gK.length+1) cp)) tag2 g {K with gK:=K.gK++[c]} {V with cv:=gN (G gg) (K.gK.length+1) cp,cs:=V.cs++BV c}:=by
 have lw:=h.lt;have l2:=T.lt;have l3:=F.size;have n3:V.tp=8\/V.tp=97:=h.ht;have tl:∀b,(gN ca K.gK.length cc).ownBlock=some b->gH b=4:=h.ca.row.gH;have ll:=λb Y=>(h.ca.row.ie.lt b Y).2;obtain⟨tag2,a0⟩:∃tag2:Nat->Nat,tag2=λb=>if b<w.heap.size then gH b else if b=gg then 4 else 9:=⟨_,rfl⟩
 have M:∀b,b<w.heap.size->tag2 b=gH b:=λb Y=>by rw[a0];simp[Y]
 have a3:tag2 gg=4:=by
  obtain e|e:=a2
  .rw[M gg (ll gg e)];exact tl gg e
  rw[a0];dsimp only;rw[az C,aE rfl]
 have oQ:gL (λb=>gH b=1\/gH b=4) w (w5.setCell (U g 7) (gN (G gg) (K.gK.length+1) cp)):=((gL.B T).H ((gL.A F).L λb _ e=>.inr (tl b e.symm))).setCell (U g 7) (.inl (.inl h.tg)) _;have k:jB (λt=>t=1\/t=4) w gH (w5.setCell (U g 7) (gN (G gg) (K.gK.length+1) cp)) tag2:=⟨oQ,M⟩;have a1:w5.heap[g]?=some (im (D6 K {V with cv:=gN ca K.gK.length cc}).toArray 66 (0,0)):=by rw[F.block g C λe=>by have:=tl g e.symm;rw[h.tg]at this;omega,T.heap lw];exact h.hg
 refine⟨tag2,k,jx 7 _ w5 _ a1,(M g lw).H h.tg,h.a.A k C λi _ _=>C,h.B.A k C λi _ _=>C,⟨⟨?_,λb Y=>?_⟩,λj y Z=>?_⟩,h.po.A k (show¬(V.tp=1\/V.tp=4) by omega) C,h.ha.A k C,h.ms.A k C,h.b,h.an,n3⟩
 .simp only[aO,df,dA];exact lY Q λb Y=>Z8 _ _ _ _ λe=>gY Q a1 gF (jS Y e)
 .have e:gg=b:=by simpa [Value.ownBlock]using Y
  rw[<-e];exact a3
 have hl:V.cs.length=K.gK.length*11:=h.ca.row.ie.1;by_cases hj:j<K.gK.length
 .rw[aB hj]at Z;obtain⟨tv,rv,e0,e1,e2,e3,e4,e5,e6,e7,e8,e9,a4,a5,a6⟩:=(h.ca.c j y Z).A k C C;have L:=λo (ho:o<11)=>aB (l₁:=V.cs) (l₂:=BV c) (show j*11+o<V.cs.length by omega);exact⟨tv,rv,(L 0 C).H e0,(L 1 C).H e1,(L 2 C).H e2,(L 3 C).H e3,(L 4 C).H e4,(L 5 C).H e5,(L 6 C).H e6,(L 7 C).H e7,(L 8 C).H e8,(L 9 C).H e9,(L 10 C).H a4,a5,a6⟩
 have a7:=(aj.1 Z).1;simp at a7;have a8:j=K.gK.length:=C;subst a8;rw[aC jl]at Z;simp at Z;subst Z;have R:=λo (ho:o<11)=>show(V.cs++BV c)[K.gK.length*11+o]?=(BV c)[o]? by rw[aC C,hl];congr 1;omega
 exact⟨OO,OO,R 0 C,R 1 C,R 2 C,R 3 C,R 4 C,R 5 C,R 6 C,R 7 C,R 8 C,R 9 C,R 10 C,by rw[hc];exact mC.nil _ _ _,by rw[hr];exact Rd.nil⟩
end
def Pc(t:Nat):Prop:=Pg t\/t=9
def Wk.D(h:Wk W):Wk {W with iN:=W.iN+1}:=by have A:=sW W {W with iN:=W.iN+1} 0 0 oC jl;have Y:=h.b;have H:=h.nw;have Z:=h.cl;have a4:=h.hd;refine⟨h.n1,h.m1,h.v1,h.v2,h.c1,h.pl,λj P M=>(h.pk j P M).L A,h.a,λj B F=>⟨(h.ac j B F).x.L (FP W {W with iN:=W.iN+1} j oC jl rfl rfl rfl rfl λ_ _ _ _ _ e=>e),(h.ac j B F).nm⟩,λl Q=>(h.po l Q).L A,by show W.iA.length<=200*(W.iN+1);omega,⟨H.1,by show W.a<=4*((W.iN+1:Nat):Int);omega⟩,by show W.gK.length<=W.iN+1;omega,λc T=>?_,by show W.mw.length<=W.iN+1;omega,h.ms⟩;have y:=h.ca c T;have:=y.tk;exact⟨y.ac,y.kd,y.po,y.vl,by show c.c.length<=W.iN+1;omega,y.bg,y.fi,y.r,y.fw⟩
def Nr{l:List Ac}{A:Ac}(h:l[i]?=some A):(l.modify i λB=>{B with X:=A.X})=l:=by
 refine bJ λj=>?_;rw[bS];by_cases e:i=j
 .subst e;rw[h];simp
 cases l[j]?<;>simp[e]
def kz(b)(n:Nat)(h:0<n):pk b n=(iL b n:Int):=by have:=lZ b n C;unfold iL;omega
def WL(h:Wk W)(b):pk b ((W.n:Int)*W.ce)=W.j6 2 b/\pk b ((W.n:Int)*W.ce)=W.j6 3 b/\pk b ((W.n:Int)*W.ce+1)=W.j6 4 b/\pk b ((W.n:Int)*W.m)=W.j6 5 b:=by have F:0<W.n*W.ce:=dQ h.n1.1 h.c1.1;have H:0<W.n*W.m:=dQ h.n1.1 h.m1.1;have j:=kz b (W.n*W.ce) F;have y:=kz b (W.n*W.ce+1) (Nat.succ_pos _);have A:=kz b (W.n*W.m) H;have c1:((W.n*W.ce:Nat):Int)=(W.n:Int)*W.ce:=gG;have c2:((W.n*W.ce+1:Nat):Int)=(W.n:Int)*W.ce+1:=gG;have L:((W.n*W.m:Nat):Int)=(W.n:Int)*W.m:=gG;rw[c1]at j;rw[c2]at y;rw[L]at A;exact⟨by rw[j];simp[Wd.j6,Wd.lM],by rw[j];simp[Wd.j6,Wd.lM],by rw[y];simp[Wd.j6,Wd.lM],by rw[A];simp[Wd.j6]⟩
def tW{wc Y:World}{F h j:Nat->Nat}{Z:Nat}{W1:Wd}{A:Ac}{X2:Cx}{L:Array Value}{kind pos rn er:Int}{val:List Int}(k:jB Pc w gH wc F)(k4:jB (λs=>s=9) wc F Y h)(h4:jG Y h g W1 V)(a0:Oa V.aw i p A.up)(hA:W1.ac[i]?=some A)(a1:h Z=9)(a2:Y.heap[Z]?=some (im L 60 (0,0)))(k5:jB (Mc (100+32*i)) Y h w5 j)(hC:Cl w5 j (100+32*i) p qb X2)(hD:Dn A.X kind pos val rn er X2):∃M Q T y,I rn=I M/\I er=I Q/\Hid (Dn A.X kind pos val M Q T)/\Hid (jB Pc w gH w5 y)/\Hid (jG w5 y g {W1 with ac:=W1.ac.modify i λB=>{B with X:=T}} V)/\Hid (y Z=9/\w5.heap[Z]?=some (im L 60 (0,0))):=by
 have hi:i<8:=by have:=(aj.1 hA).1;have:=h4.an;omega
 have e:=k5.heap a2 a1 (by unfold Mc;omega);exact⟨rn,er,X2,j,rfl,rfl,hD,(k.H (k4.L λs e=>.inr e)).H (k5.L λs e=>.inl (by unfold Mc at e;unfold Pg;omega)),h4.Sr k5 (λt e=>.inl (by unfold Mc at e;omega)) hA a0 hC,e.2,e.1⟩
theorem zy(h:jG w gH g W V)(hW:Wk W)(hS:W.iN+3<=3000000000)(hC:W.gK.length+1<=9999999)(kind a b)(hk:kind=1\/kind=2\/kind=3\/kind=4\/kind=5)(dO:nO a)(bq:nO b)(cV:0<W.ac.length):Calls prog 28 #[.pointer (some ⟨g,0,none⟩),.int .i64 kind,.int .i64 a,.int .i64 b] w λen w'=>en=.returned (.bool true)/\∃gI,jB Pc w gH w' gI/\Wx w' gI g (W.call kind a b):=by
 obtain⟨f6,f8,r0,r1,r2⟩:=fx il.UY;have g6:=h.b;have g7:=h.an;have f9:=hW.nw;let⟨i,hi⟩:=gJ (iL a W.ac.length);have dS:i<W.ac.length:=by rw[<-hi];exact kB a cV
 have g8:(i:Int)<(W.ac.length:Int):=C;have e0:pk a W.ac.length=(i:Int):=by rw[kz a _ cV,hi]
 let⟨A,hA⟩:=mm dS;have ce:=gP λWm=>j5 a W.ac.length Wm dO.1 dO.2 C C;rw[e0]at ce;let⟨W0,bW⟩:=gJ (({W with iN:=W.iN+1}:Wd):Wd);have h0:jG w gH g W0 V:=by rw[<-bW];exact h.D oC
 have bA:Wk W0:=by rw[<-bW];exact hW.D
 have bw:W.call kind a b=if A.up then(if A.X.a.length=8 then W0.js else((W0.js).nF kind b i A).js)else W:=by subst bW;unfold Wd.call;rw[hi,hA]
 have q0:W0.a=W.a/\W0.iN=W.iN+1/\W0.ac=W.ac/\W0.gK=W.gK:=by rw[<-bW];exact⟨rfl,rfl,rfl,rfl⟩
 have d0:=gP (ot h0 bA C (pI q0.2.2.2));have a3:=bA.js (by rw[q0.1,q0.2.1];omega);have d5:A.up=true->W0.js.uB i=A.X.a.length:=λhu=>IQ bA (jk q0.2.2.1 hA) hu;have q1:W0.js.ac=W.ac/\W0.js.iN=W.iN+1/\W0.js.gK.length=W.gK.length/\W0.js.a=W.a+1:=by refine⟨q0.2.2.1,q0.2.1,?_,by show W0.a+1=_;rw[q0.1]⟩;show(W0.gK.map _).length=_;rw[ay,q0.2.2.2]
 let⟨W1,e2⟩:=gJ W0.js;rw[e2]at bw d0 a3 d5 q1;obtain⟨d6,e3,e4,e5⟩:=q1;have cf:W1.ac[i]?=some A:=jk d6 hA;have cq:Sw W1:=⟨C,C⟩;have cr:W1.nQ i=A.X.c.length:=sF a3 cf;obtain⟨aa,ac,d7⟩:=h.B.row.B;obtain⟨ab,_,e6,a2,c5⟩:∃ab,aa=some ⟨ab,0,none⟩/\ab<w.heap.size/\w.cell? ⟨ab,i*3+2,none⟩=some (.bool A.up)/\w.cell? ⟨g,5,none⟩=some (gN (some ⟨ab,0,none⟩) W.ac.length ac):=by have hr:=h.B.row;rw[d7]at hr;obtain⟨ab,rfl,_,e6,bB,_⟩:=hr.cells cV;obtain⟨p,qb,bX,_⟩:=h.B.ac i A hA;exact⟨ab,rfl,e6,(bB (i*3+2) C).H bX.2.2,by rw[<-d7];exact h.cellAt 5 rfl⟩
 have lg:=h.lt;have bx:=WL a3 b;have d8:=Fm a3.n1.2 a3.c1.2;have d9:=uP a3.n1.2 a3.m1.2;have da:0<W1.n*W1.ce:=dQ a3.n1.1 a3.c1.1;have db:0<W1.n*W1.m:=dQ a3.n1.1 a3.m1.1;have e7:((W1.n*W1.ce:Nat):Int)=(W1.n:Int)*W1.ce:=gG;have e8:((W1.n*W1.m:Nat):Int)=(W1.n:Int)*W1.m:=gG;let⟨nc,cg⟩:=gJ ((W1.n:Int)*W1.ce:Int);let⟨nu,ch⟩:=gJ ((W1.n:Int)*W1.m:Int);rw[cg,ch]at bx;rw[cg]at e7;rw[ch]at e8;have ct:=xM a3 cf;let⟨up,ci⟩:=gJ A.up;rw[ci]at a2;let⟨H,Hn,Hq⟩:=iz (And.intro h (And.intro a3 (And.intro cf (And.intro cq (And.intro cr (And.intro bx (And.intro d5 (And.intro ct ci)))))))) (And.intro cg ch) (And.intro d6 (And.intro e3 (And.intro e4 e5)));have b1:0<nc/\nc<=48:=C;have b2:0<nu/\nu<=9:=C;have b3:-2<=W1.a/\W1.a<=100000000000:=C;have b4:W1.gK.length<=9999998:=C;rw[bw,ci];clear h hW hA e0 hi a3 cf cq cr bx d5 ct ci cg ch d6 e3 e4 e5 bw h0 bA e2 q0 bW d8 d9 da db e7 e8 d7 f9
 cases up with
 |false=>rw[az gG];go_enter func28,ntmps28;go_wp2_with(first|(go_at_call 15;refine gT (ce _) λw' F=>?_;have F:=F.symm;subst F));go_ret;exact⟨rfl,gH,jB.refl,⟨_,H.1⟩⟩
 |true=>
 rw[aE rfl];generalize e9:(if A.X.a.length=8 then W1 else(W1.nF kind b i A).js)=WR;have ea:=gP e9;clear e9;go_enter func28,ntmps28;go_upto_region 7 with(first|(go_at_call 15;refine gT (ce _) λw' F=>?_;have F:=F.symm;subst F)|(go_at_call 53;refine d0.L ?_;rintro en w1⟨rfl,bs,k1,h1⟩;let⟨eb,ec⟩:=gO k1 h1;clear k1 h1));obtain⟨V1,h1⟩:=ec.o;obtain⟨ca,cc,ee⟩:=h1.ca.row.B;obtain⟨g9,ef,cx⟩:=h1.B.row.B;obtain⟨pv,av,lv,cv,hv,mv,ps,aw,ls,cs,tp⟩:=V1;simp only at ee cx;subst ee cx;obtain⟨p,qb,bX,_⟩:=h1.B.ac i A H.2.2.1;have g1:i<W1.ac.length:=jk Hq.1 dS;obtain⟨eg,rfl,_,g2,bB,_⟩:=h1.B.row.cells (by show 0<W1.ac.length;omega);have a1:=(bB (i*3+1) (by show i*3+1<W1.ac.length*3;omega)).H bX.2.1;let⟨fd,c8⟩:=h1.R 5 8 rfl;have ga:=h1.lt;have g3:(i:Int)<(W1.ac.length:Int):=C;let⟨nm,dc⟩:=gJ (W1.nQ i);have ei:Hid (∀Wm,Bl w1 Wm->Calls prog 54 #[.pointer (some ⟨g,0,none⟩),.int .i64 i] Wm λen w'=>en=.returned (.int .i64 nm)/\w'=Wm):=λWm hb=>by have:=C7 (h1.bl (gI:=bs) hb λ_ _=>rfl) i C;rwa[dc]at this
 let⟨ej,bT⟩:=gO dc (And.intro h1 bX);clear h1 bX bB ec d0 ce a2 dc c5;go_upto_region 8 with fail;go_cut[12]from 12 to 162 λy wx=>∃T,y=.pointer (some ⟨T,0,none⟩)/\Hid (Bl w1 wx/\w1.heap.size<=T/\wx.heap[T]?=some (.cells #[.int .i64 i,.int .i64 nm,.int .i64 kind,.int .i64 0,.string {data:=#[]},gN none 0 0,.int .i64 W1.a,.int .i64 0,.int .i64 0,.int .i64 0,gN none 0 0] 60 (0,0)))
 case first=>
  go_region_with(go_at_call 54;refine(ei _ ?hb).L ?_;(case hb=>exact m8);rintro en w2⟨rfl,rfl⟩);all_goals(go_wp2_with fail;go_meet)
  all_goals(refine⟨_,rfl,?_,jl,ao _ _⟩;(first|exact(jC.alloc _).drew|exact(jC.drew).alloc _|exact jC.alloc _))
 obtain⟨T,rfl,HG⟩:=hcut;have bc:=HG.1;have c2:T<wc.heap.size:=(ae.1 HG.2.2).1;have dd:=bT.1.bl (gI:=iq bs w1.heap.size 9) bc λb hb=>gV _ _ _ _ hb;have a8:iq bs w1.heap.size 9 T=9:=iJ _ _ _ _ HG.2.1;have bz:Hid (jB Pc w gH wc (iq bs w1.heap.size 9)):=(eb.L λt e=>.inl (by unfold Ia at e;unfold Pg;omega)).H (jB.A bc λb hb=>gV _ _ _ _ hb);let⟨aY,ba⟩:=gO HG.2.2 dd;have gd:=dd.lt;let⟨j,c3⟩:=gJ (iq bs w1.heap.size 9);rw[c3]at ba bz a8;let⟨pos,a6⟩:=gJ (W1.j6 kind b);let⟨val,a7⟩:=gJ (W1.mx kind);clear dd bc HG ei a1 fd c8 c3 eb;go_upto_block 0 with fail;go_cut[13,14]from 13 to 162 λx y wx=>∃rn er X2 be,x=.int .i64 rn/\y=.int .i64 er/\Hid (Dn A.X kind pos val rn er X2)/\Hid (jB Pc w gH wx be)/\Hid (jG wx be g {W1 with ac:=W1.ac.modify i λB=>{B with X:=X2}} ⟨pv,gN (some ⟨eg,0,none⟩) W1.ac.length ef,lv,gN ca W1.gK.length cc,hv,mv,ps,aw,ls,cs,tp⟩)/\Hid (be T=9/\wx.heap[T]?=some (.cells #[.int .i64 i,.int .i64 nm,.int .i64 kind,.int .i64 pos,.string (jq val),gN none 0 0,.int .i64 W1.a,.int .i64 0,.int .i64 0,.int .i64 0,gN none 0 0] 60 (0,0)))
 case first=>
  have bv:Hid (∀Wm,Bl wc Wm->Calls prog 27 #[.pointer (some ⟨g,0,none⟩)] Wm λen w'=>en=.returned (.int .i64 nc)/\Bl Wm w'):=λWm hb=>by have:=uG (ba.bl (gI:=j) hb λ_ _=>rfl) H.2.1;rwa[Hn.1]at this
  obtain rfl|rfl|rfl|rfl|rfl:=hk
  .
   have an:pos=0:=by rw[<-a6];simp[Wd.j6]
   have bb:j4 W1.gK.length=val:=by rw[<-a7];simp[Wd.mx]
   let⟨c4,cP⟩:=vO W1.gK.length;have dg:=gP λWm=>Ca Wm W1.gK.length;rw[bb]at dg c4 cP;have c7:=ba.cellAt 7 rfl;subst an;clear a7 bb a6;go_upto_region 16 with(go_at_call 40;refine gT (dg _) λw3 ag=>?_;have a0:=(ag.heap c2).H aY;have z3:w3.cell? ⟨T,4,none⟩=some (.string {data:=#[]}):=(ax w3 T 4 _ 60 (0,0) a0);have bi:=aP w3 T 4 _ 60 a0;have c6:T<w3.heap.size:=(ae.1 a0).1;let⟨ai,ap⟩:=gO ag a0;clear ag a0);have aq:=ba.bl (gI:=j) ai λ_ _=>rfl;obtain⟨Y,ar,au,a9,Z⟩:∃Y,w3.setCell ⟨T,4,none⟩ (.string (jq val))=Y/\jB (λs=>s=9) w3 j Y j/\jG Y j g W1 _/\Y.heap[T]?=some (.cells #[.int .i64 i,.int .i64 nm,.int .i64 1,.int .i64 0,.string (jq val),gN none 0 0,.int .i64 W1.a,.int .i64 0,.int .i64 0,.int .i64 0,gN none 0 0] 60 (0,0)):=⟨_,rfl,kn a8 _ _,aq.A (kn a8 _ _) λt e=>by unfold PM;omega,fy w3 T 4 _ 60 (.string (jq val)) ap⟩;rw[ar];have bd:=gP ((jB.A (P:=λs=>s=9) (gI:=j) ai λ_ _=>rfl).H au);have z4:=ax Y T 4 _ 60 (0,0) Z;have bg:T<Y.heap.size:=(ae.1 Z).1;have kc:=run_bytes_of_string (P:=prog) Y 9 40 5 (jq val) underlying9 underlying40 underlying5;rw[Aa,c4]at kc;have bC:=GI Y.drew val cP (grownCap Y 5 0 5) ((bytesRow (jq val) (grownCap Y 5 0 5)).size,(bytesRow (jq val) (grownCap Y 5 0 5)).size+1) (by rw[c4];exact grownCap_ge _ _ _ _) (grownCap_le_maxLen _ _ _ _ gF);rw[c4]at bC;have b5:Bl Y (Y.drew.alloc (.cells (bytesRow (jq val) (grownCap Y 5 0 5)) 5 ((bytesRow (jq val) (grownCap Y 5 0 5)).size,(bytesRow (jq val) (grownCap Y 5 0 5)).size+1))):=((Bl.refl Y).drew).alloc _;let⟨W5,ek⟩:=gJ (Y.drew.alloc (.cells (bytesRow (jq val) (grownCap Y 5 0 5)) 5 ((bytesRow (jq val) (grownCap Y 5 0 5)).size,(bytesRow (jq val) (grownCap Y 5 0 5)).size+1)));rw[ek]at kc bC b5;have dj:=a9.bl (gI:=iq j Y.heap.size 9) b5 λb hb=>gV _ _ _ _ hb;have el:=(b5.heap bg).H Z;have em:iq j Y.heap.size 9 T=9:=(gV _ _ _ _ bg).H a8;have ff:=gP (bd.H (jB.A (P:=λs=>s=9) (gI:=iq j Y.heap.size 9) b5 λb hb=>gV _ _ _ _ hb));generalize grownCap Y 5 0 5=gc at*;obtain⟨p',ck,M,a4⟩:=dj.B.ac i A H.2.2.1;have bl:p'=p:=by have e1:=M.2.1.symm.H bT.2.2.1;simpa using e1
   subst bl;let⟨rn,er,X2,hD,ad⟩:=OY H.2.1 H.2.2.2.1 H.2.2.1 0 (some ⟨Y.heap.size,0,none⟩) gc val c4 bC (λb hb=>by
    have e:Y.heap.size=b:=by simpa [Value.ownBlock]using hb
    rw[<-e,iJ _ _ _ _ jl]
    unfold Mc;omega) a4
   let⟨al,bm,bn,HD⟩:=jR (And.intro dj M) el ad hD;clear aq a9 Z ar ai ap bi bv dg ad hD M a4 au dj el b5 bC ek;go_wp2_with(go_at_call 18;refine bn.L ?_;rintro en w5⟨rfl,bD,cl,k5,am⟩;have HS:=m9 k5 am;clear k5 am);go_meet;exact tW bz ff al.1 al.2 H.2.2.1 em bm HS.1 HS.2 HD
  .
   have an:pk b nc=pos:=jJ a6 H.2.2.2.2.2.1.1;have bb:[]=val:=by rw[<-a7];simp[Wd.mx]
   subst bb;have ak:=gP λWm=>j5 b nc Wm bq.1 bq.2 C C;rw[an]at ak;clear a7 an;go_upto_region 19 with(first|(go_at_call 27;refine gT (bv _ jC) λw3 ag=>?_;have a0:=(ag.heap c2).H aY;have z3:w3.cell? ⟨T,3,none⟩=some (.int .i64 0):=(ax w3 T 3 _ 60 (0,0) a0);have bi:=aP w3 T 3 _ 60 a0;have c6:T<w3.heap.size:=(ae.1 a0).1;let⟨ai,ap⟩:=gO ag a0;clear ag a0)|(go_at_call 15;refine gT (ak _) λw' F=>?_;have F:=F.symm;subst F));have aq:=ba.bl (gI:=j) ai λ_ _=>rfl;obtain⟨Y,ar,au,a9,Z⟩:∃Y,w3.setCell ⟨T,3,none⟩ (.int .i64 pos)=Y/\jB (λs=>s=9) w3 j Y j/\jG Y j g W1 _/\Y.heap[T]?=some (.cells #[.int .i64 i,.int .i64 nm,.int .i64 2,.int .i64 pos,.string {data:=#[]},gN none 0 0,.int .i64 W1.a,.int .i64 0,.int .i64 0,.int .i64 0,gN none 0 0] 60 (0,0)):=⟨_,rfl,kn a8 _ _,aq.A (kn a8 _ _) λt e=>by unfold PM;omega,fy w3 T 3 _ 60 (.int .i64 pos) ap⟩;rw[ar];have bd:=gP ((jB.A (P:=λs=>s=9) (gI:=j) ai λ_ _=>rfl).H au);have z4:=ax Y T 3 _ 60 (0,0) Z;have bg:T<Y.heap.size:=(ae.1 Z).1;obtain⟨p',ck,M,a4⟩:=a9.B.ac i A H.2.2.1;have bl:p'=p:=by have e1:=M.2.1.symm.H bT.2.2.1;simpa using e1
   subst bl;let⟨rn,er,X2,hD,ad⟩:=yW H.2.1 H.2.2.2.1 H.2.2.1 2 b 19 C a4;rw[a6]at hD ad;let⟨al,bm,bn,HD⟩:=jR (And.intro a9 M) Z ad hD;clear aq a9 Z ar ai ap bi bv ak ad hD M a4 au;go_wp2_with(go_at_call 19;refine bn.L ?_;rintro en w5⟨rfl,bD,cl,k5,am⟩;have HS:=m9 k5 am;clear k5 am);go_meet;exact tW bz bd al.1 al.2 H.2.2.1 a8 bm HS.1 HS.2 HD
  .
   have an:pk b nc=pos:=jJ a6 H.2.2.2.2.2.1.2.1;have bb:[]=val:=by rw[<-a7];simp[Wd.mx]
   subst bb;have ak:=gP λWm=>j5 b nc Wm bq.1 bq.2 C C;rw[an]at ak;clear a7 an;go_upto_region 22 with(first|(go_at_call 27;refine gT (bv _ jC) λw3 ag=>?_;have a0:=(ag.heap c2).H aY;have z3:w3.cell? ⟨T,3,none⟩=some (.int .i64 0):=(ax w3 T 3 _ 60 (0,0) a0);have bi:=aP w3 T 3 _ 60 a0;have c6:T<w3.heap.size:=(ae.1 a0).1;let⟨ai,ap⟩:=gO ag a0;clear ag a0)|(go_at_call 15;refine gT (ak _) λw' F=>?_;have F:=F.symm;subst F));have aq:=ba.bl (gI:=j) ai λ_ _=>rfl;obtain⟨Y,ar,au,a9,Z⟩:∃Y,w3.setCell ⟨T,3,none⟩ (.int .i64 pos)=Y/\jB (λs=>s=9) w3 j Y j/\jG Y j g W1 _/\Y.heap[T]?=some (.cells #[.int .i64 i,.int .i64 nm,.int .i64 3,.int .i64 pos,.string {data:=#[]},gN none 0 0,.int .i64 W1.a,.int .i64 0,.int .i64 0,.int .i64 0,gN none 0 0] 60 (0,0)):=⟨_,rfl,kn a8 _ _,aq.A (kn a8 _ _) λt e=>by unfold PM;omega,fy w3 T 3 _ 60 (.int .i64 pos) ap⟩;rw[ar];have bd:=gP ((jB.A (P:=λs=>s=9) (gI:=j) ai λ_ _=>rfl).H au);have z4:=ax Y T 3 _ 60 (0,0) Z;have bg:T<Y.heap.size:=(ae.1 Z).1;obtain⟨p',ck,M,a4⟩:=a9.B.ac i A H.2.2.1;have bl:p'=p:=by have e1:=M.2.1.symm.H bT.2.2.1;simpa using e1
   subst bl;let⟨rn,er,X2,hD,ad⟩:=yW H.2.1 H.2.2.2.1 H.2.2.1 3 b 20 C a4;rw[a6]at hD ad;let⟨al,bm,bn,HD⟩:=jR (And.intro a9 M) Z ad hD;clear aq a9 Z ar ai ap bi bv ak ad hD M a4 au;go_wp2_with(go_at_call 20;refine bn.L ?_;rintro en w5⟨rfl,bD,cl,k5,am⟩;have HS:=m9 k5 am;clear k5 am);go_meet;exact tW bz bd al.1 al.2 H.2.2.1 a8 bm HS.1 HS.2 HD
  .
   have an:pk b (nc+1)=pos:=jJ a6 H.2.2.2.2.2.1.2.2.1;have bb:[]=val:=by rw[<-a7];simp[Wd.mx]
   subst bb;have ak:=gP λWm=>j5 b (nc+1) Wm bq.1 bq.2 C C;rw[an]at ak;clear a7 an;go_upto_region 25 with(first|(go_at_call 27;refine gT (bv _ jC) λw3 ag=>?_;have a0:=(ag.heap c2).H aY;have z3:w3.cell? ⟨T,3,none⟩=some (.int .i64 0):=(ax w3 T 3 _ 60 (0,0) a0);have bi:=aP w3 T 3 _ 60 a0;have c6:T<w3.heap.size:=(ae.1 a0).1;let⟨ai,ap⟩:=gO ag a0;clear ag a0)|(go_at_call 15;refine gT (ak _) λw' F=>?_;have F:=F.symm;subst F));have aq:=ba.bl (gI:=j) ai λ_ _=>rfl;obtain⟨Y,ar,au,a9,Z⟩:∃Y,w3.setCell ⟨T,3,none⟩ (.int .i64 pos)=Y/\jB (λs=>s=9) w3 j Y j/\jG Y j g W1 _/\Y.heap[T]?=some (.cells #[.int .i64 i,.int .i64 nm,.int .i64 4,.int .i64 pos,.string {data:=#[]},gN none 0 0,.int .i64 W1.a,.int .i64 0,.int .i64 0,.int .i64 0,gN none 0 0] 60 (0,0)):=⟨_,rfl,kn a8 _ _,aq.A (kn a8 _ _) λt e=>by unfold PM;omega,fy w3 T 3 _ 60 (.int .i64 pos) ap⟩;rw[ar];have bd:=gP ((jB.A (P:=λs=>s=9) (gI:=j) ai λ_ _=>rfl).H au);have z4:=ax Y T 3 _ 60 (0,0) Z;have bg:T<Y.heap.size:=(ae.1 Z).1;obtain⟨p',ck,M,a4⟩:=a9.B.ac i A H.2.2.1;have bl:p'=p:=by have e1:=M.2.1.symm.H bT.2.2.1;simpa using e1
   subst bl;let⟨rn,er,X2,hD,ad⟩:=yW H.2.1 H.2.2.2.1 H.2.2.1 4 b 21 C a4;rw[a6]at hD ad;let⟨al,bm,bn,HD⟩:=jR (And.intro a9 M) Z ad hD;clear aq a9 Z ar ai ap bi bv ak ad hD M a4 au;go_wp2_with(go_at_call 21;refine bn.L ?_;rintro en w5⟨rfl,bD,cl,k5,am⟩;have HS:=m9 k5 am;clear k5 am);go_meet;exact tW bz bd al.1 al.2 H.2.2.1 a8 bm HS.1 HS.2 HD
  --kind 5
  obtain⟨wz,dk⟩:∃wz,wz=wc:=⟨_,rfl⟩;subst dk;have an:pk b nu=pos:=jJ a6 H.2.2.2.2.2.1.2.2.2;have bb:[]=val:=by rw[<-a7];simp[Wd.mx]
  subst bb;have ak:=gP λWm=>j5 b nu Wm bq.1 bq.2 C C;rw[an]at ak;let⟨c0,c1⟩:=ba.R 0 1 rfl;have z3:wz.cell? ⟨T,3,none⟩=some (.int .i64 0):=ax wz T 3 _ 60 (0,0) aY;have bi:=aP wz T 3 _ 60 aY;have ge:IntKind.i64.wrap ((W1.n:Int)*W1.m)=nu:=by rw[Hn.2,IntKind.wrap_i64];omega
  clear a7 an;go_upto_region 12 with fail;go_cut[]from 53 to 162 λwy=>Hid (jB (λs=>s=9) wz j wy j/\wy.heap[T]?=some (.cells #[.int .i64 i,.int .i64 nm,.int .i64 5,.int .i64 pos,.string {data:=#[]},gN none 0 0,.int .i64 W1.a,.int .i64 0,.int .i64 0,.int .i64 0,gN none 0 0] 60 (0,0)))
  case first=>
   go_region_with(go_at_call 15;refine gT (ak _) λw' F=>?_;have F:=F.symm;subst F);all_goals(go_wp2_with fail;go_meet)
   all_goals(first|exact⟨((jB.A (P:=λs=>s=9) (gI:=j) ((Bl.refl wz).drew) λ_ _=>rfl).H (kn a8 _ _)),fy wz.drew T 3 _ 60 (.int .i64 pos) aY⟩|exact⟨(kn a8 _ _),fy wz T 3 _ 60 (.int .i64 pos) aY⟩|exact⟨((kn a8 _ _).H (jB.A (P:=λs=>s=9) (gI:=j) (jC.drew) λ_ _=>rfl)),fy wz T 3 _ 60 (.int .i64 pos) aY⟩)
  have bd:Hid (jB (λs=>s=9) wz j wc j):=hcut.1;have Z:=hcut.2;have a9:=ba.A bd (λt e=>by unfold PM;omega);have z4:=ax wc T 3 _ 60 (0,0) Z;have bg:T<wc.heap.size:=(ae.1 Z).1;obtain⟨p',ck,M,a4⟩:=a9.B.ac i A H.2.2.1;have bl:p'=p:=by have e1:=M.2.1.symm.H bT.2.2.1;simpa using e1
  subst bl;let⟨rn,er,X2,hD,ad⟩:=yW H.2.1 H.2.2.2.1 H.2.2.1 5 b 22 C a4;rw[a6]at hD ad;let⟨al,bm,bn,HD⟩:=jR (And.intro a9 M) Z ad hD;clear a9 Z bi z3 bv ak ad hD M a4 c0 c1 hcut;go_wp2_with(go_at_call 22;refine bn.L ?_;rintro en w5⟨rfl,bD,cl,k5,am⟩;have HS:=m9 k5 am;clear k5 am);go_meet;exact tW bz bd al.1 al.2 H.2.2.1 a8 bm HS.1 HS.2 HD
 obtain⟨rn,er,X2,be,rfl,rfl,HD,ep,bo,dl⟩:=hcut;obtain⟨wz,dk⟩:∃wz,wz=wc:=⟨_,rfl⟩;subst dk;have dn:({W1 with ac:=W1.ac.modify i λB=>{B with X:=X2}}:Wd).uB i=A.X.a.length:=H.2.2.2.2.2.2.1 H.2.2.2.2.2.2.2.2;have bV:=gP (Fe bo i (by show W1.gK.length<=_;omega));rw[dn]at bV;obtain⟨d1,d2,d3,d4⟩|⟨d1,d2,d3,d4⟩:=HD.o
 .subst d2 d3 d4;have hR:Hid (W1=WR):=by unfold Hid;rw[<-ea.o,aE d1]
  rw[d1]at bV;clear dn HD;go_wp2_with(go_at_call 55;refine gT bV λw' F=>?_;have F:=F.symm;subst F);go_ret;have hx:=bo.o;rw[Nr H.2.2.1]at hx;rw[<-hR.o];exact⟨rfl,be,ep,⟨_,hx⟩⟩
 have hR:Hid ((W1.nF kind b i A).js=WR):=by unfold Hid;rw[<-ea.o,az C]
 let⟨fi,cS⟩:=gJ A.X.a.length;rw[cS]at bV d1;have gi:¬((8:Int)<=(fi:Int)):=C;have eq:Hid ((⟨i,W1.nQ i,kind,W1.j6 kind b,W1.mx kind,[],W1.a,0,Rz.zero⟩:Kl)=⟨i,nm,kind,pos,val,[],W1.a,0,Rz.zero⟩):=by unfold Hid;rw[ej.o,a6,a7]
 have fl:rn=(nm:Int):=by rw[d2,<-ej.o,H.2.2.2.2.1]
 subst fl d3;let⟨c,hc⟩:=gJ ((⟨i,nm,kind,pos,val,[],W1.a,0,Rz.zero⟩:Kl):Kl);have cn:Hid (Wk (W1.nF kind b i A)/\W1.nF kind b i A={W1 with iN:=W1.iN+1,ac:=W1.ac.modify i λB=>{B with X:=X2},gK:=W1.gK++[c]}):=by refine⟨H.2.2.2.2.2.2.2.1 C kind b hk,?_⟩;unfold Wd.nF Wd.qi;rw[eq.o,a6,a7,hc,d4]
 have c9:=dl.o;have es:=bo.lt;have c7:=bo.cellAt 7 rfl;have f7:=bo.M 7;have g4:T<wz.heap.size:=(ae.1 c9.2).1;let⟨b0,eu,ev,ew⟩:=lV c9.2 0 1 2 3 rfl;let⟨ex,b5,b6,b7⟩:=lV c9.2 4 5 6 7 rfl;let⟨b8,b9,ez⟩:=oR c9.2 8 9 10 rfl;simp at b0 eu ev ew ex b5 b6 b7 b8 b9 ez;have bE:=bo.ca.row;simp only at bE;have f0:Hid ((gN ca W1.gK.length cc).ownBlock≠some g):=gY bE.ie bo.hg gF;have f1:=gP bE;have fn:Hid (W1.gK.length+1<=maxLen):=mV;have fu:Hid ((W1.gK.length+1)*128<=140737488355328):=lT;have Hc:=gP hc;clear dn HD c9 bE hc d2 d4 cS eq c2 aY a8 bz ba;go_upto_region 28 with(go_at_call 55;refine gT bV λw' F=>?_;have F:=F.symm;subst F);go_cut[]from 53 to 162 λwy=>∃cb Vy,Hid (jB (λt=>t=1\/t=4) wz be wy cb)/\Hid (jG wy cb g {W1 with ac:=W1.ac.modify i λB=>{B with X:=X2},gK:=W1.gK++[c]} Vy)
 case first=>
  go_region_law
   ((refine step_append_lies _ jQ _ _ _ jQ 0 60 f6 _ 11 128 underlying64 f8 r0 r1 r2 rfl C _ W1.gK.length cs jQ ((f1.ie.alloc _).drew) ⟨wz.heap.size,0,none⟩ 1 1 [.int .i64 i,.int .i64 nm,.int .i64 kind,.int .i64 pos,.string (jq val),gN none 0 0,.int .i64 W1.a,.int .i64 0,.int .i64 0,.int .i64 0,gN none 0 0] jQ jQ (fW (cs:=#[.int .i64 i,.int .i64 nm,.int .i64 kind,.int .i64 pos,.string (jq val),gN none 0 0,.int .i64 W1.a,.int .i64 0,.int .i64 0,.int .i64 0,gN none 0 0]) (t:=60) (fr:=(0,0)) (ao wz _)) rS C fn fu gG (wz.heap.size+1) gG ?_;intro gg cp w6 bp a5 bR cd;have kc:=(AN (((Bl.refl wz).alloc _).drew) a5 (o:=7) es f0).1.H c7;have kf:=(AN (((Bl.refl wz).alloc _).drew) a5 (o:=7) es f0).2.H f7;have gj:g<w6.heap.size:=(by have:=a5.size;simp at this;omega);have fv:=nK bp a5 bR cd;clear bp a5 bR cd))
  all_goals(go_wp2_with fail;go_meet)
  all_goals
   obtain⟨bp,a5,bR,cd⟩:=fv.o;have ds:BV c=[.int .i64 i,.int .i64 nm,.int .i64 kind,.int .i64 pos,.string (jq val),gN none 0 0,.int .i64 W1.a,.int .i64 0,.int .i64 0,.int .i64 0,gN none 0 0]:=by rw[<-Hc.o];rfl
   let⟨f2,p1,p2⟩:=jG.PS (V:=⟨pv,gN (some ⟨eg,0,none⟩) W1.ac.length ef,lv,gN ca W1.gK.length cc,hv,mv,ps,aw,ls,cs,tp⟩) bo (((Bl.refl wz).alloc (.cells #[.int .i64 i,.int .i64 nm,.int .i64 kind,.int .i64 pos,.string (jq val),gN none 0 0,.int .i64 W1.a,.int .i64 0,.int .i64 0,.int .i64 0,gN none 0 0] 60)).drew) (c:=c) (by rw[<-Hc.o]) (by rw[<-Hc.o];rfl) (gg:=gg) (cp:=cp) (jk ds bp) a5 (bR.imp (λe=>e) λe=>C);exact⟨f2,_,p1,p2⟩
 case rest=>obtain⟨cb,Vy,dt,f3⟩:=hcut;have dw:=dt.heap dl.2 dl.1 C;have y1:=ax wc T 1 _ 60 (0,0) dw.1;simp at y1;have g5:T<wc.heap.size:=(ae.1 dw.1).1;have co:=f3.D (a:=W1.iN+1) oC;simp only at co;rw[<-cn.2]at co;have f4:=gP (ot co cn.1 (by rw[cn.2];show W1.iN+1<=_;have:=Hq.2.1;omega) (by rw[cn.2];show(W1.gK++[c]).length<=_;simp;omega));rw[hR.o]at f4;have fw:=gP (ep.H (dt.L (Q:=Pc) λt e=>.inl (by unfold Pg;omega)));clear dw dt f1 bV b0 eu ev ew ex b5 b6 b7 b8 b9 ez c7 f7 co bo f3;go_wp2_with(go_at_call 53;refine f4.L ?_;rintro en w9⟨rfl,f5,k9,h9⟩;let⟨fz,g0⟩:=gO k9 h9;clear k9 h9);go_ret;exact⟨rfl,f5,fw.H (fz.L λt e=>.inl (by unfold Ia at e;unfold Pg;omega)),g0⟩
end Go.Proofs.YtbghhbpacijmmaaGreat
