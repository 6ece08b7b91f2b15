import Derived.Deep.RegionHeld3
import Derived.Maps.Own
import Derived.Maps.Views
import Derived.Test.YtbghhbpacijmmaaGreatL01
open Go.Proofs.Tryz
namespace Go.Proofs.YtbghhbpacijmmaaGreat
set_option maxRecDepth 99999
set_option maxHeartbeats 0
set_option linter.defProp false
set_option linter.unusedVariables false
open Go.RowKit Go.Maps
attribute [local go_sem ↓] Go.wp_at_zero Go.wp_at_succ
variable {M M':Int->Value} {w w' W:World} {jt ys:List Int} {vi:Value} {t e:TypeId} {n p bm g b k:Nat} {xs:List Value} {S T:Nat->Prop} {cs:Array Value} {K:Nat->Value} {ct:Nat->Ct} {rs:List Rc} {J:World->Nat->World->Prop} {kd:Int}
section
def kr(a b c d ch mk:Int)(ct:Nat->Ct)(x:Int):Int×Int×Ct:=
 if(oT a b c d x).2.2≠0\/(oT a b c d x).1≠ch then(6,0,⟨0,0,0,[]⟩)
 else if x<mk then(4,mk,{ct (oT a b c d x).2.1.toNat with val:=[]})
 else if(ct (oT a b c d x).2.1.toNat).kd=0 then(3,0,⟨0,0,0,[]⟩)
 else(2,0,ct (oT a b c d x).2.1.toNat)
def zB{a b c d x:Int}(h:(oT a b c d x).2.2=0):∃i:Nat,i<16/\oT a b c d x=((oT a b c d x).1,(i:Int),0):=by
 unfold oT at h|-;by_cases j:nB a b c d=true
 .rw[aE j]at h|-;by_cases A:x<0\/a*d<=x
  .rw[aE A]at h;simp at h
  rw[az A];let⟨H,L,P,F⟩:=vN j;have Q:x/a<16:=by refine gp C ?_;have:=Int.mul_le_mul_of_nonneg_left F (show 0<=a by omega);omega
  have y:0<=x/a:=fC C C;refine⟨(x/a).toNat,C,?_⟩;rw[gE y]
 rw[az j]at h;simp at h
def mA:Array Value:=#[I 0,I 0,I 0,I 0,I 0,I 0,OO]
def lC(h:w.heap[g]?=some (im mA 215 (0,0))):w.cell? (U g 0)=some (I 0)/\w.cell? (U g 1)=some (I 0)/\w.cell? (U g 2)=some (I 0)/\w.cell? (U g 3)=some (I 0)/\w.cell? (U g 4)=some (I 0)/\w.cell? (U g 5)=some (I 0)/\w.cell? (U g 6)=some OO/\w.frozen? (U g 0)=false/\w.frozen? (U g 1)=false/\w.frozen? (U g 2)=false/\w.frozen? (U g 3)=false/\w.frozen? (U g 4)=false/\w.frozen? (U g 5)=false/\w.frozen? (U g 6)=false:=by
 refine⟨?_,?_,?_,?_,?_,?_,?_,?_,?_,?_,?_,?_,?_,?_⟩;all_goals first|exact aP w g _ _ 215 h|(rw[ax w g _ _ 215 _ h];rfl)
def gL.vH(h:S g)(u0 u1 u2 u3 u4 u5 u6):gL S w (((((((w.setCell (U g 0) u0).setCell (U g 1) u1).setCell (U g 2) u2).setCell (U g 3) u3).setCell (U g 4) u4).setCell (U g 5) u5).setCell (U g 6) u6):=
 (((((((gL.refl S w).setCell (U g 0) (.inl h) u0).setCell (U g 1) (.inl h) u1).setCell (U g 2) (.inl h) u2).setCell (U g 3) (.inl h) u3).setCell (U g 4) (.inl h) u4).setCell (U g 5) (.inl h) u5).setCell (U g 6) (.inl h) u6
theorem Ar(base p)(a b c d ch ep mk)(ct)(jt)(K)(x)(w)(h:Ks base w p a b c d ch ep mk ct jt K)(hl:∀i,i<16->(ct i).val.length<=255):iB 224 #[O p,I x] w λe w'=>∃v',e=gX (jK (kr a b c d ch mk ct x).1 0 (kr a b c d ch mk ct x).2.1 (kr a b c d ch mk ct x).2.2.kd (kr a b c d ch mk ct x).2.2.cl (kr a b c d ch mk ct x).2.2.ca v')/\w'.ownsRow w.heap.size 5 1 v' (kr a b c d ch mk ct x).2.2.val.length ((kr a b c d ch mk ct x).2.2.val.map B8)/\Bl w w':=by
 let⟨H,Hl⟩:=gO h hl;have V:=h.jU.lt;have c0:=h.jU.cell 0 gF;have c1:=h.jU.cell 1 gF;have c2:=h.jU.cell 2 gF;have c3:=h.jU.cell 3 gF;have Y:=h.jU.cell 4 gF;have c6:=h.jU.cell 6 gF;rw[h.k0]at c0;rw[h.k1]at c1;rw[h.k2]at c2;rw[h.k3]at c3;rw[h.k4]at Y;rw[h.k6]at c6;clear h hl;by_cases A:(oT a b c d x).2.2≠0\/(oT a b c d x).1≠ch
 .have F:Hid (kr a b c d ch mk ct x=(6,0,⟨0,0,0,[]⟩)):=by unfold Hid kr;rw[aE A]
  rw[F.o];have a0:Hid (((oT a b c d x).2.2==0)=false\/((oT a b c d x).2.2==0)=true/\((oT a b c d x).1==ch)=false):=by
   unfold Hid;by_cases h0:(oT a b c d x).2.2=0
   .right;simp[h0];obtain h|h:=A
    .exact absurd h0 h
    exact h
   left;simpa using h0
  clear A;go_enter func224,ntmps224;go_wp2_with fail;refine(lI a b c d x _).L ?_;unfold KL;generalize oT a b c d x=l at*;let⟨l1,l2,l3⟩:=l;rintro e w'⟨rfl,j⟩;simp only at a0|-;have d4:=(j.cell (b:=p) (o:=4) ig).H ((((Bl.refl w).alloc _).cell V).H Y);let⟨Z,n1,n2,n3,n4,n5,n6,f0,f1,f2,f3,f4,f5,f6⟩:=lC ((j.heap gG).H (ao w (im mA 215)));have P:=gP (((Bl.refl w).alloc _).H j);clear j c0 c1 c2 c3 Y c6;obtain hz|⟨hz,hy⟩:=a0.o;all_goals
   clear a0;go_wp2
  all_goals
   exact aG (v:=jK 6 0 0 0 0 0 OO) (by simp[results,results224,go_sem,jK,Z,n1,n2,n3,n4,n5,n6]) rfl ⟨_,rfl,mT,P.A (gL.vH (S:=λb=>b=w.heap.size) rfl _ _ _ _ _ _ _) λn e=>cY e.symm⟩
 have h0:(oT a b c d x).2.2=0:=by
  obtain h|h:=Int.decEq (oT a b c d x).2.2 0
  .exact absurd (.inl h) A
  exact h
 have a2:(oT a b c d x).1=ch:=by
  obtain h|h:=Int.decEq (oT a b c d x).1 ch
  .exact absurd (.inr h) A
  exact h
 let⟨i,hi,y⟩:=zB h0;rw[a2]at y;have F:Hid (kr a b c d ch mk ct x=if x<mk then(4,mk,{ct i with val:=[]})else if(ct i).kd=0 then(3,0,⟨0,0,0,[]⟩)else(2,0,ct i)):=by unfold Hid kr;rw[az A,y];simp
 have q0:=(H.jU.cell (7+4*i) C).H (Z5 some (H.kd i hi));have q1:=(H.jU.cell (8+4*i) C).H (Z5 some (H.cl i hi));have q2:=(H.jU.cell (9+4*i) C).H (Z5 some (H.ca i hi));have q3:=H.jU.cell (10+4*i) C;rw[show 7+4*i=7+i*4 by omega]at q0;rw[show 8+4*i=7+i*4+1 by omega]at q1;rw[show 9+4*i=7+i*4+2 by omega]at q2;have a3:10+4*i=7+i*4+3:=C;have Hv:=gP (mH (H.val i hi));obtain⟨va,vc,ev⟩:=Hv.len;rw[ay]at ev;rw[ev]at q3 Hv;rw[a3]at q3;have a4:=gP (Hl i hi);clear A h0 a2 ev a3;rw[F.o];clear F;generalize ct i=t at*;let⟨tk,tl,ta,tv⟩:=t;simp only at a4 Hv q0 q1 q2 q3|-;by_cases hx:x<mk
 .rw[aE hx];simp only;go_enter func224,ntmps224;go_wp2_with fail;refine(lI a b c d x _).L ?_;rw[y];unfold KL;rintro e w'⟨rfl,j⟩;have P:=gP (((Bl.refl w).alloc _).H j);let⟨d4,d6,r0⟩:=P.D V Y c6 q0;let⟨r1,r2,r3⟩:=P.D V q1 q2 q3;have HN:=gP ((j.heap gG).H (ao w (im mA 215)));have lN:w.heap.size<w'.heap.size:=(ae.1 HN).1;have lP:p<w'.heap.size:=eR V lN;clear j c0 c1 c2 c3 Y c6 q0 q1 q2 q3 y;have a5:(i:Int)<16:=C;let⟨Z,n1,n2,n3,n4,n5,n6,f0,f1,f2,f3,f4,f5,f6⟩:=lC HN;go_wp2;go_region;all_goals
   go_wp2
  all_goals
   exact aG (v:=jK 4 0 mk tk tl ta OO) (by simp[results,results224,go_sem,jK,Z,n1,n2,n3,n4,n5,n6,lN]) rfl ⟨_,rfl,mT,by first|exact((P.A (gL.vH (S:=λb=>b=w.heap.size) rfl _ _ _ _ _ _ _) λn e=>cY e.symm).alloc _).drew|exact((P.A (gL.vH (S:=λb=>b=w.heap.size) rfl _ _ _ _ _ _ _) λn e=>cY e.symm).alloc _).drewN _⟩
 rw[az hx];by_cases hk:tk=0
 .rw[aE hk];subst hk;simp only;go_enter func224,ntmps224;go_wp2_with fail;refine(lI a b c d x _).L ?_;rw[y];unfold KL;rintro e w'⟨rfl,j⟩;have P:=gP (((Bl.refl w).alloc _).H j);let⟨d4,d6,r0⟩:=P.D V Y c6 q0;let⟨r1,r2,r3⟩:=P.D V q1 q2 q3;have HN:=gP ((j.heap gG).H (ao w (im mA 215)));have lN:w.heap.size<w'.heap.size:=(ae.1 HN).1;have lP:p<w'.heap.size:=eR V lN;clear j c0 c1 c2 c3 Y c6 q0 q1 q2 q3 y;have a5:(i:Int)<16:=C;let⟨Z,n1,n2,n3,n4,n5,n6,f0,f1,f2,f3,f4,f5,f6⟩:=lC HN;go_wp2;exact aG (v:=jK 3 0 0 0 0 0 OO) (by simp[results,results224,go_sem,jK,Z,n1,n2,n3,n4,n5,n6,lN]) rfl ⟨_,rfl,mT,(P.A (gL.vH (S:=λb=>b=w.heap.size) rfl _ _ _ _ _ _ _) λn e=>cY e.symm).alloc _⟩
 rw[az hk];have ac:(tk==0)=false:=iU hk;clear hk;simp only;go_enter func224,ntmps224;go_wp2_with fail;refine(lI a b c d x _).L ?_;rw[y];unfold KL;rintro e w'⟨rfl,j⟩;have P:=gP (((Bl.refl w).alloc _).H j);let⟨d4,d6,r0⟩:=P.D V Y c6 q0;let⟨r1,r2,r3⟩:=P.D V q1 q2 q3;have HN:=gP ((j.heap gG).H (ao w (im mA 215)));have lN:w.heap.size<w'.heap.size:=(ae.1 HN).1;have lP:p<w'.heap.size:=eR V lN;clear j c0 c1 c2 c3 Y c6 q0 q1 q2 q3 y;have a5:(i:Int)<16:=C;let⟨Z,n1,n2,n3,n4,n5,n6,f0,f1,f2,f3,f4,f5,f6⟩:=lC HN;have bA:=gP ((Bl.refl w').alloc (im (ry tk tl ta va tv vc) 91));go_wp2_with fail;refine(Ao tk tl ta _ tv _ ((Hv.bl P).bl bA) (gS a4.o)).L ?_;rintro e w2⟨v',rfl,a1,Q⟩;obtain⟨a6,a7,ev⟩:∃a c,v'=gN a tv.length c:=by obtain⟨a',c',e'⟩:=(i7 Q).len;rw[jh Q]at e';exact⟨a',c',e'⟩
 subst ev;let⟨a8,aa,lw⟩:=iz (((bA.H a1).heap lN).H HN) (P.H (bA.H a1)) (aF (eS lN) bA.lt);have a9:=gP (gZ (base':=w.heap.size) Q λb ab=>aF lw (Q.lt b ab).1);clear Z n1 n2 n3 n4 n5 n6 f0 f1 f2 f3 f4 f5 f6 a1 Q bA;let⟨Z,n1,n2,n3,n4,n5,n6,f0,f1,f2,f3,f4,f5,f6⟩:=lC a8;go_wp2;have F:=gL.vH (w:=w2) (S:=λb=>b=w.heap.size) rfl (I 2) (I 0) (I 0) (I tk) (I tl) (I ta) (lF a6 tv a7);exact aG (v:=jK 2 0 0 tk tl ta (lF a6 tv a7)) (by simp[results,results224,go_sem,jK,Z,n1,n2,n3,n4,n5,n6]) rfl ⟨_,rfl,F.iX a9 λb hb e=>gY a9 a8 gF (jS hb e),aa.A F λn e=>cY e.symm⟩
open Go.RowKit
attribute [local go_sem ↓] Go.wp_at_zero Go.wp_at_succ
def Ks.bl{base:Nat}{a b c d ch y mk:Int}(h:Ks base w p a b c d ch y mk ct jt K)(j:Bl w w'):Ks base w' p a b c d ch y mk ct jt K:=
 ⟨h.jU.bl j,h.k0,h.k1,h.k2,h.k3,h.k4,h.k5,h.k6,(gL.B j).iX h.ie λ_ _ e=>e,h.kd,h.cl,h.ca,λi A=>(iT j).iX (h.val i A) λ_ _ e=>e,h.mu⟩
def Ks.pw{base:Nat}{a b c d ch y mk:Int}(h:Ks base w p a b c d ch y mk ct jt K)(j:gL (λx=>x=g) w w')(A:w.heap[g]?=some (im cs 215 (0,0)))(H:p≠g):Ks base w' p a b c d ch y mk ct jt K:=
 ⟨h.jU.only j H,h.k0,h.k1,h.k2,h.k3,h.k4,h.k5,h.k6,j.iX h.ie λb e e'=>gY h.ie A gF (jS e e'),h.kd,h.cl,h.ca,λi F=>j.iX (h.val i F) λb e e'=>gY (h.val i F) A gF (jS e e'),h.mu⟩
def gL.wY{a b c:World}(h:gL S a b)(k:gL T b c)(y:∀n,T n->a.heap.size<=n):gL S a c:=
 ⟨k.os.H h.os,k.tape.H h.tape,k.output.H h.output,aF h.size k.size,λi j A=>by rw[k.block i (af j h.size) λe=>by have:=y i e;omega,h.block i j A]⟩
theorem Ea(base p)(a b c d ch ep mk)(ct)(jt)(K)(ep')(w)(h:Ks base w p a b c d ch ep mk ct jt K)(hb:base<=w.heap.size)(hl:jt.length<=1000000000000):iB 178 #[O p,I ep'] w λe w'=>∃L,e=gX (if ep'<ep then jK 5 ep 0 0 0 0 OO else jK 1 ep' 0 0 0 0 OO)/\Ks base w' p a b c d ch (if ep'<ep then ep else ep') mk ct (if ep'<ep\/ep'=ep then jt else jt++iV 1 [ep'] []) L/\Gk p K L w w':=by
 have H:=gP h;have hp:=h.jU.lt;have c5:=h.jU.cell 5 gF;rw[h.k5]at c5;clear h;let⟨A,HN⟩:=gO ((Bl.refl w).alloc (im mA 215)) (ao w (im mA 215));by_cases P:ep'<ep
 .simp only[P,if_true,true_or];go_enter func178,ntmps178;go_wp2_with fail;refine gT (sH p K ep _ (H.jU.bl A) H.k5) λw' j=>?_;let⟨i,y,Y⟩:=iz ((j.heap gG).H HN) ((H.bl A).bl j) (A.H j);have lN:w.heap.size<w'.heap.size:=(ae.1 i).1;let⟨Z,n1,n2,n3,n4,n5,n6,f0,f1,f2,f3,f4,f5,f6⟩:=lC i;unfold jK;clear j;go_wp2;have F:=gL.vH (w:=w') (S:=λb=>b=w.heap.size) rfl (I 5) (I ep) (I 0) (I 0) (I 0) (I 0) OO;refine aG (v:=jK 5 ep 0 0 0 0 OO) (by simp[results,results178,go_sem,jK,Z,n1,n2,n3,n4,n5,n6]) rfl ⟨K,rfl,y.pw F i C,Gk.B (Y.A F λn e=>cY e.symm)⟩
 have E:Hid ((if ep'<ep\/ep'=ep then jt else jt++iV 1 [ep'] [])=jt++if ep'=ep then []else iV 1 [ep'] []):=by
  unfold Hid;by_cases Q:ep'=ep
  .rw[aE (.inr Q),aE Q,cF]
  rw[az λh=>h.elim P Q,az Q]
 rw[E.o,az P,az P];have Hr:=gP (uJ base p a b c d ch ep mk ct jt K ep' _ (H.bl A) (aF hb A.lt) hl);generalize (jt++if ep'=ep then []else iV 1 [ep'] [])=a2 at*;clear E;go_enter func178,ntmps178;go_wp2_with fail;refine Hr.L ?_;rintro e w'⟨L,rfl,V,ho,_⟩;have a0:Hid (¬(w.heap.size=p\/(K 71).ownBlock=some w.heap.size)):=by
  rintro(e|e)
  .omega
  exact fQ _ (H.ie.lt _ e).2
 obtain⟨i,y⟩:=gO ((ho.only.block _ gG a0).H HN) V;have d5:=V.jU.cell 5 gF;rw[V.k5]at d5;have a1:=gP (ho.D A);have lN:w.heap.size<w'.heap.size:=(ae.1 i).1;let⟨Z,n1,n2,n3,n4,n5,n6,f0,f1,f2,f3,f4,f5,f6⟩:=lC i;clear V ho c5 Hr;go_wp2;have F:=gL.vH (w:=w') (S:=λb=>b=w.heap.size) rfl (I 1) (I ep') (I 0) (I 0) (I 0) (I 0) OO;refine aG (v:=jK 1 ep' 0 0 0 0 OO) (by simp[results,results178,go_sem,jK,Z,n1,n2,n3,n4,n5,n6]) rfl ⟨L,rfl,y.pw F i C,a1.new F λb e=>cY e.symm⟩
theorem FY(base p)(a b c d ch ep mk)(ct)(jt)(K)(ep' x)(w)(h:Ks base w p a b c d ch ep mk ct jt K)(he:ep'<ep):iB 171 #[O p,I ep',I x] w λe w'=>e=gX (jK 5 ep 0 0 0 0 OO)/\Ks base w' p a b c d ch ep mk ct jt K/\Bl w w':=by
 have H:=gP h;have hp:=h.jU.lt;have P:=h.jU.cell 5 gF;rw[h.k5]at P;clear h;let⟨y,Q⟩:=gO ((Bl.refl w).alloc (im mA 215)) (ao w (im mA 215));go_enter func171,ntmps171;go_wp2_with fail;refine gT (sH p K ep _ (H.jU.bl y) H.k5) λw' i=>?_;let⟨j,A,L⟩:=iz ((i.heap gG).H Q) ((H.bl y).bl i) (y.H i);have lN:w.heap.size<w'.heap.size:=(ae.1 j).1;let⟨V,Y,Z,n3,n4,n5,n6,f0,f1,f2,f3,f4,f5,f6⟩:=lC j;unfold jK;clear i;go_wp2;have F:=gL.vH (w:=w') (S:=λb=>b=w.heap.size) rfl (I 5) (I ep) (I 0) (I 0) (I 0) (I 0) OO;exact aG (v:=jK 5 ep 0 0 0 0 OO) (by simp[results,results171,go_sem,jK,V,Y,Z,n3,n4,n5,n6]) rfl ⟨rfl,A.pw F j C,L.A F λn e=>cY e.symm⟩
theorem Fc(base p)(a b c d ch ep mk)(ct)(jt)(K)(ep' x)(w)(h:Ks base w p a b c d ch ep mk ct jt K)(hb:base<=w.heap.size)(hl:jt.length<=1000000000000)(a0:∀i,i<16->(ct i).val.length<=255)(he:¬ep'<ep)(wh m)(t)(y:kr a b c d ch mk ct x=(wh,m,t)):iB 171 #[O p,I ep',I x] w λe w'=>∃j v',e=gX (jK wh 0 m t.kd t.cl t.ca v')/\w'.ownsRow w.heap.size 5 1 v' t.val.length (t.val.map B8)/\Ks base w' p a b c d ch ep' mk ct (jt++if ep'=ep then []else iV 1 [ep'] []) j/\Gk p K j w w'/\(ep'=ep->j=K/\Bl w w')/\∀g,v'.ownBlock=some g->¬KF j g:=by
 have H:=gP h;have hp:=h.jU.lt;have c5:=h.jU.cell 5 gF;rw[h.k5]at c5;clear h;let⟨bA,HN⟩:=gO ((Bl.refl w).alloc (im mA 215)) (ao w (im mA 215));have Hr:=gP (uJ base p a b c d ch ep mk ct jt K ep' _ (H.bl bA) (aF hb bA.lt) hl);generalize (jt++if ep'=ep then []else iV 1 [ep'] [])=Q at*;have HL:Hid (∀W j,Ks base W p a b c d ch ep' mk ct Q j->_):=λW j hk=>Ar base p a b c d ch ep' mk ct Q j x W hk a0;rw[y]at HL;obtain⟨tk,tl,ta,tv⟩:=t;simp only at HL|-;clear a0 y;go_enter func171,ntmps171;go_wp2_with fail;refine Hr.L ?_;rintro e w'⟨j,rfl,hk,ho,hs⟩;have Hs:=gP hs;have a3:Hid (¬(w.heap.size=p\/(K 71).ownBlock=some w.heap.size)):=by
  rintro(e|e)
  .omega
  exact fQ _ (H.ie.lt _ e).2
 obtain⟨a1,V,a4⟩:=iz ((ho.only.block _ gG a3).H HN) hk (ho.D bA);have lN:w.heap.size<w'.heap.size:=(ae.1 a1).1;clear hk ho hs c5 Hr;go_wp2_with fail;refine(HL _ _ V).L ?_;rintro e w2⟨v',rfl,Z,P⟩;obtain⟨va,vc,ev⟩:∃a c,v'=gN a tv.length c:=by obtain⟨a',c',e'⟩:=(i7 Z).len;rw[jh Z]at e';exact⟨a',c',e'⟩
 subst ev;let⟨Y,a5,a6,Hv⟩:=jR ((P.heap lN).H a1) (V.bl P) (a4.post P) (gZ (base':=w.heap.size) Z λb a7=>aF (eS lN) (Z.lt b a7).1);let⟨n0,n1,n2,n3,n4,n5,n6,f0,f1,f2,f3,f4,f5,f6⟩:=lC Y;unfold jK;have a2:Hid (ep'=ep->j=K/\Bl w w2):=λe=>⟨(Hs e).1,(bA.H (Hs e).2).H P⟩;have a8:Hid (∀g,(lF va tv vc).ownBlock=some g->¬KF j g):=λg e hF=>by have:=(Z.lt g e).1;have:=(V.IJ hF).2;omega
 clear P Z HL;go_wp2;have F:=gL.vH (w:=w2) (S:=λb=>b=w.heap.size) rfl (I wh) (I 0) (I m) (I tk) (I tl) (I ta) (lF va tv vc);exact aG (v:=jK wh 0 m tk tl ta (lF va tv vc)) (by simp[results,results171,go_sem,jK,n0,n1,n2,n3,n4,n5,n6]) rfl ⟨j,_,rfl,F.iX Hv λb hb e=>gY Hv Y gF (jS hb e),a5.pw F Y C,a6.new F λb e=>cY e.symm,λe=>⟨(a2 e).1,(a2 e).2.A F λn e=>C⟩,a8⟩
theorem Fj(base p)(a b c d ch ep mk)(ct)(jt)(K)(ep' x)(w)(h:Ks base w p a b c d ch ep mk ct jt K)(he:ep'<ep):iB 177 #[O p,I ep',I x] w λe w'=>e=gX (jK 5 ep 0 0 0 0 OO)/\Ks base w' p a b c d ch ep mk ct jt K/\Bl w w':=by
 have H:=gP h;have hp:=h.jU.lt;have P:=h.jU.cell 5 gF;rw[h.k5]at P;clear h;let⟨y,Q⟩:=gO ((Bl.refl w).alloc (im mA 215)) (ao w (im mA 215));go_enter func177,ntmps177;go_wp2_with fail;refine gT (sH p K ep _ (H.jU.bl y) H.k5) λw' i=>?_;let⟨j,A,L⟩:=iz ((i.heap gG).H Q) ((H.bl y).bl i) (y.H i);have lN:w.heap.size<w'.heap.size:=(ae.1 j).1;let⟨V,Y,Z,n3,n4,n5,n6,f0,f1,f2,f3,f4,f5,f6⟩:=lC j;unfold jK;clear i;go_wp2;have F:=gL.vH (w:=w') (S:=λb=>b=w.heap.size) rfl (I 5) (I ep) (I 0) (I 0) (I 0) (I 0) OO;exact aG (v:=jK 5 ep 0 0 0 0 OO) (by simp[results,results177,go_sem,jK,V,Y,Z,n3,n4,n5,n6]) rfl ⟨rfl,A.pw F j C,L.A F λn e=>cY e.symm⟩
theorem yq(base p)(a b c d ch ep mk)(ct)(jt)(K)(ep' mk')(w)(h:Ks base w p a b c d ch ep mk ct jt K)(hb:base<=w.heap.size)(hl:jt.length<=1000000000000)(he:¬ep'<ep):iB 177 #[O p,I ep',I mk'] w λe w'=>∃P,e=gX (jK 1 0 (if mk<mk' then mk' else mk) 0 0 0 OO)/\Ks base w' p a b c d ch ep' (if mk<mk' then mk' else mk) ct (jt++if mk<mk' then iV 2 [ep',mk'] []else if ep'=ep then []else iV 1 [ep'] []) P/\Gk p K P w w':=by
 have H:=gP h;have hp:=h.jU.lt;have c5:=h.jU.cell 5 gF;rw[h.k5]at c5;have c6:=h.jU.cell 6 gF;rw[h.k6]at c6;clear h;let⟨Q,HN⟩:=gO ((Bl.refl w).alloc (im mA 215)) (ao w (im mA 215));have V:Hid (¬(w.heap.size=p\/(K 71).ownBlock=some w.heap.size)):=by
  rintro(e|e)
  .omega
  exact fQ _ (H.ie.lt _ e).2
 by_cases hm:mk<mk'
 .rw[aE hm,aE hm];have Y:=gP (Sj base p a b c d ch ep mk ct jt K ep' mk' _ (H.bl Q) (aF hb Q.lt) hl);generalize (jt++iV 2 [ep',mk'] [])=Z at*;go_enter func177,ntmps177;go_wp2_with fail;refine Y.L ?_;rintro e w'⟨P,rfl,j,y⟩;obtain⟨i,A⟩:=gO ((y.only.block _ gG V).H HN) j;have d6:=j.jU.cell 6 gF;rw[j.k6]at d6;have L:=gP (y.D Q);have lN:w.heap.size<w'.heap.size:=(ae.1 i).1;let⟨n0,n1,n2,n3,n4,n5,n6,f0,f1,f2,f3,f4,f5,f6⟩:=lC i;clear j y c5 c6 Y;go_wp2;have F:=gL.vH (w:=w') (S:=λb=>b=w.heap.size) rfl (I 1) (I 0) (I mk') (I 0) (I 0) (I 0) OO;exact aG (v:=jK 1 0 mk' 0 0 0 OO) (by simp[results,results177,go_sem,jK,n0,n1,n2,n3,n4,n5,n6]) rfl ⟨P,rfl,A.pw F i C,L.new F λb e=>cY e.symm⟩
 rw[az hm,az hm];have Y:=gP (uJ base p a b c d ch ep mk ct jt K ep' _ (H.bl Q) (aF hb Q.lt) hl);generalize (jt++if ep'=ep then []else iV 1 [ep'] [])=Z at*;go_enter func177,ntmps177;go_wp2_with fail;refine Y.L ?_;rintro e w'⟨P,rfl,j,y,_⟩;obtain⟨i,A⟩:=gO ((y.only.block _ gG V).H HN) j;have d6:=j.jU.cell 6 gF;rw[j.k6]at d6;have L:=gP (y.D Q);have lN:w.heap.size<w'.heap.size:=(ae.1 i).1;let⟨n0,n1,n2,n3,n4,n5,n6,f0,f1,f2,f3,f4,f5,f6⟩:=lC i;clear j y c5 c6 Y;go_wp2;have F:=gL.vH (w:=w') (S:=λb=>b=w.heap.size) rfl (I 1) (I 0) (I mk) (I 0) (I 0) (I 0) OO;exact aG (v:=jK 1 0 mk 0 0 0 OO) (by simp[results,results177,go_sem,jK,n0,n1,n2,n3,n4,n5,n6]) rfl ⟨P,rfl,A.pw F i C,L.new F λb e=>cY e.symm⟩
end
section
def uQ(K:Nat->Value)(i:Nat)(ep kd cl ca:Value)(v:Value):Nat->Value:=vj (vj (vj (vj (vj K 5 ep) (7+i*4) kd) (7+i*4+1) cl) (7+i*4+2) ca) (7+i*4+3) v
def Vb(K)(i)(ep kd cl ca v):uQ K i ep kd cl ca v 5=ep:=by unfold uQ;rw[jd _ _ _ _ C,jd _ _ _ _ C,jd _ _ _ _ C,jd _ _ _ _ C,mq]
def Iy(K)(i j)(ep kd cl ca v)(y:j≠5)(h:j<7+i*4\/7+i*4+3<j):uQ K i ep kd cl ca v j=K j:=by unfold uQ;rw[jd _ _ _ _ C,jd _ _ _ _ C,jd _ _ _ _ C,jd _ _ _ _ C,jd _ _ _ _ y]
def SP(K)(i)(ep kd cl ca v):uQ K i ep kd cl ca v (7+4*i)=kd:=by unfold uQ;rw[show 7+4*i=7+i*4 by omega,jd _ _ _ _ C,jd _ _ _ _ C,jd _ _ _ _ C,mq]
def TE(K)(i)(ep kd cl ca v):uQ K i ep kd cl ca v (8+4*i)=cl:=by unfold uQ;rw[show 8+4*i=7+i*4+1 by omega,jd _ _ _ _ C,jd _ _ _ _ C,mq]
def RR(K)(i)(ep kd cl ca v):uQ K i ep kd cl ca v (9+4*i)=ca:=by unfold uQ;rw[show 9+4*i=7+i*4+2 by omega,jd _ _ _ _ C,mq]
def GY(K)(i)(ep kd cl ca v):uQ K i ep kd cl ca v (10+4*i)=v:=by unfold uQ;rw[show 10+4*i=7+i*4+3 by omega,mq]
def Ks.put{base:Nat}{a b c d ch ep mk ep':Int}{L:List Int}{v' u:Value}{Q V:Int}(h:Ks base w p a b c d ch ep mk ct jt K)(i)(hi:i<16)(hW:gL (λb=>b=p) w W)(P:Cu base W w' p (uQ K i (I ep') (I kd) (I Q) (I V) u) (K 71) v' n xs)(hn:n=jt.length+L.length)(hx:xs=jt.map B8++L.map B8)(hu:w'.ownsRow base 5 1 u ys.length (ys.map B8))(Y:∀g,u.ownBlock=some g->g<W.heap.size/\(K 71).ownBlock≠some g):Ks base w' p a b c d ch ep' mk (λj=>if j=i then⟨kd,Q,V,ys⟩else ct j) (jt++L) (vj (uQ K i (I ep') (I kd) (I Q) (I V) u) 71 v')/\((∀g,u.ownBlock=some g->w.heap.size<=g)->Gk p K (vj (uQ K i (I ep') (I kd) (I Q) (I V) u) 71 v') w w'):=by
 have oQ:=(hW.L (T:=λb=>b=p\/(K 71).ownBlock=some b) λb _ e=>.inl e).H P.only;have F:∀j,j≠71->j≠5->(j<7+i*4\/7+i*4+3<j)->vj (uQ K i (I ep') (I kd) (I Q) (I V) u) 71 v' j=K j:=λj h1 h2 h3=>by rw[jd _ _ _ _ h1,Iy _ _ _ _ _ _ _ _ h2 h3]
 refine⟨⟨P.jU,by rw[F 0 gF gF C];exact h.k0,by rw[F 1 gF gF C];exact h.k1,by rw[F 2 gF gF C];exact h.k2,by rw[F 3 gF gF C];exact h.k3,by rw[F 4 gF gF C];exact h.k4,by rw[jd _ _ _ _ gF,Vb],by rw[F 6 gF gF C];exact h.k6,by rw[mq,aO,aZ,<-hx,<-hn];exact P.ie,λj A=>?_,λj A=>?_,λj A=>?_,λj A=>?_,λj A g y=>?_⟩,λZ=>⟨oQ,λg y=>?_⟩⟩
 .by_cases e:j=i
  .subst e;rw[jd _ _ _ _ C,SP,aE rfl]
  rw[az e,F _ C C C];exact h.kd j A
 .by_cases e:j=i
  .subst e;rw[jd _ _ _ _ C,TE,aE rfl]
  rw[az e,F _ C C C];exact h.cl j A
 .by_cases e:j=i
  .subst e;rw[jd _ _ _ _ C,RR,aE rfl]
  rw[az e,F _ C C C];exact h.ca j A
 .by_cases e:j=i
  .subst e;rw[jd _ _ _ _ C,GY,aE rfl];exact hu
  rw[az e,F _ C C C];refine oQ.iX (h.val j A) λg y e=>?_;obtain e|e:=e
  .exact h.jU.oF (h.val j A) gF (jS y e)
  exact h.mu j A g y e
 .rw[mq];intro e';have a0:=hW.size;by_cases e:j=i
  .subst e;rw[jd _ _ _ _ C,GY]at y;obtain e2|e2:=P.a g e'
   .exact(Y g y).2 e2
   have:=(Y g y).1;omega
  rw[F _ C C C]at y;obtain e2|e2:=P.a g e'
  .exact h.mu j A g y e2
  have:=((h.val j A).lt g y).2;omega
 obtain y|⟨j,A,y⟩:=y
 .rw[mq]at y;obtain e|e:=P.a g y
  .exact .inl (.inl e)
  exact .inr (aF hW.size e)
 by_cases e:j=i
 .subst e;rw[jd _ _ _ _ C,GY]at y;exact .inr (Z g y)
 rw[F _ C C C]at y;exact .inl (.inr ⟨j,A,y⟩)
theorem Tv(base p)(a b c d ch ep mk)(ct)(jt)(K)(ep' x kd cl ca)(v)(ys)(i:Nat)(w)(h:Ks base w p a b c d ch ep mk ct jt K)(hb:base<=w.heap.size)(hl:jt.length<=1000000000000)(hv:Bs w v (ys.map B8))(hy:ys.length<=255)(a6:∀g,v.ownBlock=some g->g<w.heap.size/\(K 71).ownBlock≠some g/\g≠p)(hi:i<16)(a1:oT a b c d x=(ch,(i:Int),0)):iB 226 #[O p,I ep',I x,.agg #[I kd,I cl,I ca,v]] w λe w'=>∃K',e=iw/\Ks base w' p a b c d ch ep' mk (λj=>if j=i then⟨kd,cl,ca,ys⟩else ct j) (jt++iV 3 [ep',x,kd,cl,ca] ys) K'/\Gk p K K' w w':=by
 have H:=gP h;have hp:=h.jU.lt;have c0:=h.jU.cell 0 gF;have c1:=h.jU.cell 1 gF;have c2:=h.jU.cell 2 gF;have c3:=h.jU.cell 3 gF;have c5:=h.jU.cell 5 gF;have f5:=h.jU.frozen 5;rw[h.k0]at c0;rw[h.k1]at c1;rw[h.k2]at c2;rw[h.k3]at c3;rw[h.k5]at c5;obtain⟨va,vc,ev⟩:=hv.len;rw[ay]at ev;subst ev;let⟨Hv,V⟩:=gO hv a6;clear h hv a6;have ab:(i:Int)<16:=C;go_enter func226,ntmps226;go_wp2_with fail;refine(lI a b c d x _).L ?_;rw[a1];unfold KL;rintro e w'⟨rfl,a3⟩;obtain⟨HB,HX⟩:=gO (((Bl.refl w).alloc _).H a3) ((a3.heap gG).H (ao w (im (ry kd cl ca va ys vc) 91)));have HK:=gP (H.bl HB);have lX:w.heap.size<w'.heap.size:=(ae.1 HX).1;let⟨x0,x1,x2,x3⟩:=lV HX 0 1 2 3 rfl;simp at x0 x1 x2 x3;have d5:=HK.jU.cell 5 gF;have g5:=HK.jU.frozen 5;rw[HK.k5]at d5;have lP:p<w'.heap.size:=eR hp lX;clear a3 c0 c1 c2 c3 c5 f5 a1;have A5:=gP (HK.jU.set 5 (I ep'));have O5:Hid (gL (λb=>b=p) w' (w'.setCell (U p 5) (I ep'))):=(gL.refl (λb=>b=p) w').setCell (U p 5) (.inl rfl) (I ep');have A:w.heap.size≠p:=C;have X5:=gP ((O5.block _ lX A).H HX);have V5:Hid (Bs (w'.setCell (U p 5) (I ep')) (lF va ys vc) (ys.map B8)):=(Hv.bl HB).only O5 λg e e'=>(V g e).2.2 e';go_wp2;generalize a7:w'.setCell (U p 5) (I ep')=W0 at*;have l0:w.heap.size<W0.heap.size:=(ae.1 X5).1;let⟨y0,y1,y2,y3⟩:=lV X5 0 1 2 3 rfl;simp at y0 y1 y2 y3;have ac:=gP a7;clear x0 x1 x2 x3 d5 g5 a7;go_region_with(go_at_call 258;refine(Ao kd cl ca _ ys _ (by exact V5.bl (jC.drewN _)) C).L ?_;rintro e w2⟨v',rfl,Y,Z⟩;obtain⟨ua,uc,eu⟩:∃a c,v'=gN a ys.length c:=(by obtain⟨a',c',e'⟩:=(i7 Z).len;rw[jh Z]at e';exact⟨a',c',e'⟩);subst eu;have y:=(A5.bl (jC.drewN _)).bl Y;have q0:=y.cell (7+i*4) C;have q1:=y.cell (7+i*4+1) C;have q2:=y.cell (7+i*4+2) C;have q3:=y.cell (7+i*4+3) C;have g0:=y.frozen (7+i*4);have g1:=y.frozen (7+i*4+1);have g2:=y.frozen (7+i*4+2);have g3:=y.frozen (7+i*4+3);let⟨a8,a4,a0⟩:=iz y Y Z;let⟨z0,z1,z2,z3⟩:=Y.M l0 y0 y1 y2 y3;clear y Y Z);all_goals
  have O4:Hid (gL (λb=>b=p) w2 ((((w2.setCell (U p (7+i*4)) (I kd)).setCell (U p (7+i*4+1)) (I cl)).setCell (U p (7+i*4+2)) (I ca)).setCell (U p (7+i*4+3)) (lF ua ys uc))):=((((gL.refl (λb=>b=p) w2).setCell (U p (7+i*4)) (.inl rfl) (I kd)).setCell (U p (7+i*4+1)) (.inl rfl) (I cl)).setCell (U p (7+i*4+2)) (.inl rfl) (I ca)).setCell (U p (7+i*4+3)) (.inl rfl) (lF ua ys uc);have A4:=gP ((((a8.set (7+i*4) (I kd)).set (7+i*4+1) (I cl)).set (7+i*4+2) (I ca)).set (7+i*4+3) (lF ua ys uc));have B2:Hid (Bl W0 w2):=by first|exact(jC.drew).H a4.o|exact(jC.drewN _).H a4
  have S2:Hid (w2.ownsRow w.heap.size 5 1 (lF ua ys uc) ys.length (ys.map B8)):=gZ a0 λg hg=>aF (by have:=l0;simp;omega) (a0.lt g hg).1;have N2:Hid (∀g,(lF ua ys uc).ownBlock=some g->W0.heap.size<=g):=λg hg=>aF gG (a0.lt g hg).1;clear a4 a0 a8 q0 q1 q2 q3 g0 g1 g2 g3;generalize ((((w2.setCell (U p (7+i*4)) (I kd)).setCell (U p (7+i*4+1)) (I cl)).setCell (U p (7+i*4+2)) (I ca)).setCell (U p (7+i*4+3)) (lF ua ys uc))=F at*;have l2:Hid (w.heap.size<w2.heap.size):=af l0 B2.lt;have u0:=(O4.cell (o:=0) l2 A).H z0;have u1:=(O4.cell (o:=1) l2 A).H z1;have u2:=(O4.cell (o:=2) l2 A).H z2;have u3:=(O4.cell (o:=3) l2 A).H z3;clear z0 z1 z2 z3 y0 y1 y2 y3;have l4:w.heap.size<F.heap.size:=af l2 O4.size;have O6:Hid (gL (λb=>b=p) w F):=((gL.B HB).H O5).H ((gL.B B2).H O4);have P:Hid (F.ownsRow base 5 1 (K 71) jt.length (jt.map B8)):=O6.iX H.ie λg e e'=>H.jU.oF H.ie gF (jS e e');have a2:Hid (Bs F (lF va ys vc) (ys.map B8)):=Hv.only O6 λg e e'=>(V g e).2.2 e';have Q:Hid (Bl F (F.alloc (im #[I ep',I x,I kd,I cl,I ca] 3))):=(Bl.refl F).alloc _;have hN:Hid (Bs (F.alloc (im #[I ep',I x,I kd,I cl,I ca] 3)) (gN (G F.heap.size) 5 5) ([ep',x,kd,cl,ca].map I)):=xi F 3 #[I ep',I x,I kd,I cl,I ca] 5 rfl;have aa:Hid (vj (vj (vj (vj (vj K 5 (I ep')) (7+i*4) (I kd)) (7+i*4+1) (I cl)) (7+i*4+2) (I ca)) (7+i*4+3) (lF ua ys uc) 71=K 71):=by unfold Hid;rw[jd _ _ _ _ C,jd _ _ _ _ C,jd _ _ _ _ C,jd _ _ _ _ C,jd _ _ _ _ C]
  have a5:Hid (∀W,Bl (F.alloc (im #[I ep',I x,I kd,I cl,I ca] 3)) W->_):=λW hW=>Ad base p _ (K 71) jt.length (jt.map B8) 3 _ _ [ep',x,kd,cl,ca] ys W (A4.bl (Q.H hW)) aa ((iT (Q.H hW)).iX P λ_ _ e=>e) (gS ((Q.H hW).lt)) hl (hN.bl hW) (a2.bl (Q.H hW)) gF gF gG hy (λg e e'=>by simp[Value.ownBlock]at e';have:=(P.lt g e).2;omega) (λg e e'=>(V g e').2.1 e) (λg e=>by simp[Value.ownBlock]at e;have:=hW.lt;simp at this;omega) (λg e=>by have:=(V g e).1;have:=(Q.H hW).lt;omega);clear hN a2 P;go_wp2_with fail;go_region_with(go_at_call 257;refine(a5 _ (by exact jC.drewN _)).L ?_;rintro e w6⟨v6,rfl,hk⟩;have a9:=gP hk;clear hk);all_goals
   go_end0;have Q:=gP (Q.H (jC.drewN 1));have hS:∀g,(lF ua ys uc).ownBlock=some g->g≠p/\(K 71).ownBlock≠some g:=λg e=>by have h1:=(S2.lt g e).1;refine⟨C,λe'=>?_⟩;have:=(H.ie.lt g e').2;omega
   have S4:=O4.iX S2 λg e e'=>(hS g e).1 e';have S5:=(iT Q).iX S4 λ_ _ e=>e;have S6:=a9.only.iX S5 λg e e'=>by
    obtain e'|e':=e'
    .exact(hS g e).1 e'
    exact(hS g e).2 e'
   have R:=H.put i hi (O6.H (gL.B Q)) a9 rfl rfl (gZ (base':=base) S6 λg e=>aF hb (S6.lt g e).1) λg e=>⟨af (S4.lt g e).2 Q.lt,(hS g e).2⟩;exact⟨_,rfl,R.1,R.2 λg e=>(S2.lt g e).1⟩
open Go.RowKit
attribute [local go_sem ↓] Go.wp_at_zero Go.wp_at_succ
theorem BE(base p o)(v)(jt:List Int)(w)(_hp:p<w.heap.size)(i:w.cell? (U p o)=some v)(h:w.ownsRow base 5 1 v jt.length (jt.map B8))(Q:jt.length<=1000000000000):iB 221 #[.pointer (some (U p o))] w λe w'=>∃j,e=gX j/\Bl w w'/\w'.ownsRow w.heap.size 5 1 j jt.length (jt.map B8):=by
 have y:=gP (mH h);clear h;obtain⟨V,Y,A⟩:=y.len;rw[ay]at A;rw[A]at i y;clear A;go_enter func221,ntmps221;go_wp2_with fail;refine(oS _ jt _ y C).L ?_;rintro e w'⟨j,rfl,F,h⟩;let⟨H,P⟩:=gO F h;clear F h;go_wp2;go_ret;exact⟨_,rfl,H,P⟩
theorem Nx(base p)(a b c d ch ep mk)(ct)(jt)(K)(w)(h:Ks base w p a b c d ch ep mk ct jt K)(A:jt.length<=1000000000000):iB 169 #[O p] w λe w'=>∃i,e=gX i/\Bl w w'/\w'.ownsRow w.heap.size 5 1 i jt.length (jt.map B8):=by
 have F:=h.jU.lt;have H:=gP h;clear h;go_enter func169,ntmps169;go_wp2_with fail;refine(BE base p 71 _ jt _ F (H.jU.cell 71 gF) H.ie A).L ?_;rintro e w'⟨i,rfl,j,y⟩;let⟨P,Q⟩:=gO j y;clear j y;go_wp2;go_ret;exact⟨_,rfl,P,Q⟩
theorem DA(base p)(a b c d ch ep mk)(ct)(jt)(K)(ep' x kd cl ca)(va)(vn vc)(w)(h:Ks base w p a b c d ch ep mk ct jt K)(he:ep'<ep):iB 175 #[O p,I ep',I x,.agg #[I kd,I cl,I ca,gN va vn vc]] w λe w'=>e=gX (jK 5 ep 0 0 0 0 OO)/\Ks base w' p a b c d ch ep mk ct jt K/\Bl w w':=by
 have H:=gP h;have hp:=h.jU.lt;have Q:=h.jU.cell 5 gF;rw[h.k5]at Q;clear h;let⟨y,P⟩:=gO (((Bl.refl w).alloc (im #[I kd,I cl,I ca,gN va vn vc] 91)).alloc (im mA 215)) (ao (w.alloc (im #[I kd,I cl,I ca,gN va vn vc] 91)) (im mA 215));rw[show(w.alloc (im #[I kd,I cl,I ca,gN va vn vc] 91)).heap.size=w.heap.size+1 from by simp]at P;go_enter func175,ntmps175;go_wp2_with fail;refine gT (sH p K ep _ (H.jU.bl y) H.k5) λw' i=>?_;let⟨j,A,L⟩:=iz ((i.heap gG).H P) ((H.bl y).bl i) (y.H i);have lN:w.heap.size+1<w'.heap.size:=(ae.1 j).1;let⟨V,Y,Z,n3,n4,n5,n6,f0,f1,f2,f3,f4,f5,f6⟩:=lC j;unfold jK;clear i;go_wp2;have F:=gL.vH (w:=w') (S:=λb=>b=w.heap.size+1) rfl (I 5) (I ep) (I 0) (I 0) (I 0) (I 0) OO;exact aG (v:=jK 5 ep 0 0 0 0 OO) (by simp[results,results175,go_sem,jK,V,Y,Z,n3,n4,n5,n6]) rfl ⟨rfl,A.pw F j C,L.A F λn e=>C⟩
end
section
theorem tM(base p)(a b c d ch ep mk)(ct)(jt)(K)(ep' x kd cl ca)(v)(ys)(i:Nat)(w)(h:Ks base w p a b c d ch ep mk ct jt K)(hb:base<=w.heap.size)(hl:jt.length<=1000000000000)(a0:∀i,i<16->(ct i).val.length<=255)(hv:Bs w v (ys.map B8))(hy:ys.length<=255)(A:∀g,v.ownBlock=some g->g<w.heap.size/\(K 71).ownBlock≠some g/\g≠p)(he:¬ep'<ep)(hi:i<16)(Q:oT a b c d x=(ch,(i:Int),0))(y:kr a b c d ch mk ct x=(3,0,⟨0,0,0,[]⟩))(hc:sy kd ys.length=true):iB 175 #[O p,I ep',I x,.agg #[I kd,I cl,I ca,v]] w λe w'=>∃K',e=gX (jK 1 0 0 0 0 0 OO)/\Ks base w' p a b c d ch ep' mk (λj=>if j=i then⟨kd,cl,ca,ys⟩else ct j) (jt++iV 3 [ep',x,kd,cl,ca] ys) K'/\Gk p K K' w w':=by
 obtain⟨va,vc,ev⟩:=hv.len;rw[ay]at ev;subst ev;have H:=gP h;have hp:=h.jU.lt;have c5:=h.jU.cell 5 gF;rw[h.k5]at c5;let⟨Hv,al,Hc⟩:=iz hv A hc;let⟨HX,bA,HN⟩:=iz (fJ (w.alloc (im (ry kd cl ca va ys vc) 91)) (im mA 215) w.heap.size gG) (((Bl.refl w).alloc (im (ry kd cl ca va ys vc) 91)).alloc (im mA 215)) (ao (w.alloc (im (ry kd cl ca va ys vc) 91)) (im mA 215));rw[show(w.alloc (im (ry kd cl ca va ys vc) 91)).heap.size=w.heap.size+1 from by simp]at HN;obtain⟨a1,HL⟩:=gO (HX.H (ao w (im (ry kd cl ca va ys vc) 91))) (Ar base p a b c d ch ep mk ct jt K x _ (H.bl bA) a0);rw[y]at HL;simp only at HL;have HP:Hid (∀W,Bl w W->_):=λW hW=>Tv base p a b c d ch ep mk ct jt K ep' x kd cl ca _ ys i W (H.bl hW) (aF hb hW.lt) hl (hv.bl hW) hy (λg e=>⟨af (A g e).1 hW.lt,(A g e).2⟩) hi Q;generalize (jt++iV 3 [ep',x,kd,cl,ca] ys)=ak at*;generalize (λj=>if j=i then(⟨kd,cl,ca,ys⟩:Ct)else ct j)=am at*;clear h hv A hc HX a0 y Q;go_enter func175,ntmps175;go_wp2_with fail;refine HL.L ?_;rintro e w1⟨v1,rfl,a2,P⟩;obtain⟨a3,a4,ev⟩:∃a c,v1=gN a 0 c:=by obtain⟨a',c',e'⟩:=(i7 a2).len;exact⟨a',c',e'⟩
 subst ev;have a9:=gP ((P.heap ig).H a1);have a5:=gP ((P.heap gG).H HN);have lN:w.heap.size+1<w1.heap.size:=(ae.1 a5).1;let⟨x0,x1,x2,x3⟩:=lV a9 0 1 2 3 rfl;simp at x0 x1 x2 x3;have aa:=gP (bA.H P);have lX:w.heap.size<w1.heap.size:=C;unfold jK;clear P a2 HL a1 HN;go_wp2_with fail;refine(vu kd cl ca va ys.length vc _ C).L ?_;rw[Hc.o];rintro e w2⟨rfl,Y⟩;let⟨bE,HY⟩:=gO ((Bl.refl w1).alloc (im #[I 3,I 0,I 0,I 0,I 0,I 0,gN a3 0 a4] 215)) (ao w1 (im #[I 3,I 0,I 0,I 0,I 0,I 0,gN a3 0 a4] 215));have b2:=gP (bE.H Y);have y0:=ax w2 w1.heap.size 0 _ 215 (0,0) ((Y.heap gG).H HY);let⟨q0,q1,q2,q3⟩:=b2.M lX x0 x1 x2 x3;simp at y0;let⟨a6,ab⟩:=gO (aa.H b2) ((b2.heap lN).H a5);have V:=gP (HP w2 a6);have ac:=af lN b2.lt;clear Y x0 x1 x2 x3 HY bE;go_wp2_with fail;refine V.L ?_;rintro e w3⟨K3,rfl,a7,Z⟩;have ad:Hid (¬(w.heap.size+1=p\/(K 71).ownBlock=some (w.heap.size+1))):=by
  rintro(e|e)
  .omega
  have:=(H.ie.lt _ e).2;omega
 obtain⟨a8,ag,ai⟩:=iz ((Z.only.block _ ac ad).H ab) a7 (Z.D a6);let⟨n0,n1,n2,n3,n4,n5,n6,f0,f1,f2,f3,f4,f5,f6⟩:=lC a8;clear a7 Z V;go_wp2;have F:=gL.vH (w:=w3) (S:=λb=>b=w.heap.size+1) rfl (I 1) (I 0) (I 0) (I 0) (I 0) (I 0) OO;exact aG (v:=jK 1 0 0 0 0 0 OO) (by simp[results,results175,go_sem,jK,n0,n1,n2,n3,n4,n5,n6]) rfl ⟨K3,rfl,ag.pw F a8 C,ai.new F λb e=>C⟩
theorem Bp(base p)(a b c d ch ep mk)(ct)(jt)(K)(ep' x kd cl ca)(va)(vn vc)(w)(h:Ks base w p a b c d ch ep mk ct jt K)(hb:base<=w.heap.size)(hl:jt.length<=1000000000000)(a6:∀i,i<16->(ct i).val.length<=255)(aY:vn<=255)(he:¬ep'<ep)(wh m)(t)(Q:kr a b c d ch mk ct x=(wh,m,t))(a7:wh≠3)(hc:sy kd vn=true):iB 175 #[O p,I ep',I x,.agg #[I kd,I cl,I ca,gN va vn vc]] w λe w'=>∃K' v',e=gX (jK wh 0 m t.kd t.cl t.ca v')/\w'.ownsRow w.heap.size 5 1 v' t.val.length (t.val.map B8)/\Ks base w' p a b c d ch ep' mk ct (jt++if ep'=ep then []else iV 1 [ep'] []) K'/\Gk p K K' w w'/\(ep'=ep->K'=K/\Bl w w')/\∀g,v'.ownBlock=some g->¬KF K' g:=by
 have H:=gP h;have hp:=h.jU.lt;have c5:=h.jU.cell 5 gF;rw[h.k5]at c5;let⟨Hc,HX,bA,HN⟩:=jR hc (fJ (w.alloc (im #[I kd,I cl,I ca,gN va vn vc] 91)) (im mA 215) w.heap.size gG) (((Bl.refl w).alloc (im #[I kd,I cl,I ca,gN va vn vc] 91)).alloc (im mA 215)) (ao (w.alloc (im #[I kd,I cl,I ca,gN va vn vc] 91)) (im mA 215));rw[show(w.alloc (im #[I kd,I cl,I ca,gN va vn vc] 91)).heap.size=w.heap.size+1 from by simp]at HN;obtain⟨a8,HL⟩:=gO (HX.H (ao w (im #[I kd,I cl,I ca,gN va vn vc] 91))) (Ar base p a b c d ch ep mk ct jt K x _ (H.bl bA) a6);rw[Q]at HL;obtain⟨tk,tl,ta,Y⟩:=t;simp only at HL|-;have HP:Hid (∀W,Bl w W->_):=λW hW=>uJ base p a b c d ch ep mk ct jt K ep' W (H.bl hW) (aF hb hW.lt) hl;generalize (jt++if ep'=ep then []else iV 1 [ep'] [])=aw at*;have b0:(wh==3)=false:=iU a7;clear h hc HX a6 Q a7;go_enter func175,ntmps175;go_wp2_with fail;refine HL.L ?_;rintro e w1⟨v1,rfl,V,Z⟩;obtain⟨j,y,ev⟩:∃a c,v1=gN a Y.length c:=by obtain⟨a',c',e'⟩:=(i7 V).len;rw[jh V]at e';exact⟨a',c',e'⟩
 subst ev;have ak:=gP ((Z.heap ig).H a8);have a9:=gP ((Z.heap gG).H HN);have lN:w.heap.size+1<w1.heap.size:=(ae.1 a9).1;let⟨x0,x1,x2,x3⟩:=lV ak 0 1 2 3 rfl;simp at x0 x1 x2 x3;have al:=gP (bA.H Z);have lX:w.heap.size<w1.heap.size:=C;have am:Hid (w1.ownsRow w.heap.size 5 1 (lF j Y y) Y.length (Y.map B8)):=gZ V λg hg=>aF bA.lt (V.lt g hg).1;unfold jK;clear Z V HL a8 HN;go_wp2_with fail;refine(vu kd cl ca va vn vc _ C).L ?_;rw[Hc.o];rintro e w2⟨rfl,a0⟩;let⟨bE,HY⟩:=gO ((Bl.refl w1).alloc (im #[I wh,I 0,I m,I tk,I tl,I ta,gN j Y.length y] 215)) (ao w1 (im #[I wh,I 0,I m,I tk,I tl,I ta,gN j Y.length y] 215));let⟨b2,a1⟩:=gO (bE.H a0) ((a0.heap gG).H HY);have y0:=ax w2 w1.heap.size 0 _ 215 (0,0) a1;simp at y0;obtain⟨a2,an,a3⟩:=iz (al.H b2) ((b2.heap lN).H a9) ((iT b2).iX am λ_ _ e=>e);have ap:=af lN b2.lt;have aq:w1.heap.size<w2.heap.size:=(ae.1 a1).1;have aa:=gP (HP w2 a2);clear a0 x0 x1 x2 x3 HY bE;go_wp2_with fail;refine aa.L ?_;rintro e w3⟨K3,rfl,ab,P,ac⟩;have ad:=gP ac;have a4:Hid (∀g,w.heap.size<=g->¬(g=p\/(K 71).ownBlock=some g)):=by
  rintro g hg (e|e)
  .omega
  have:=(H.ie.lt _ e).2;omega
 obtain⟨a5,ag,ai⟩:=iz ((P.only.block _ ap (a4 _ C)).H an) ((P.only.block _ aq (a4 _ C)).H a1) (P.only.iX a3 λg hg=>a4.o g (a3.lt g hg).1);let⟨ar,au⟩:=gO ab (P.D a2);have av:Hid (∀g,(lF j Y y).ownBlock=some g->¬KF K3 g):=λg e hF=>by
  have h1:=a3.lt g e;obtain h2|h2:=P.a g hF
  .have:=(H.IJ h2).2;omega
  omega
 let⟨n0,n1,n2,n3,n4,n5,n6,f0,f1,f2,f3,f4,f5,f6⟩:=lC a5;let⟨z0,z1,z2,z3⟩:=lV ag 0 1 2 3 rfl;let⟨z4,z5,z6⟩:=oR ag 4 5 6 rfl;simp at z0 z1 z2 z3 z4 z5 z6;clear ab P ac aa;go_wp2;have F:=gL.vH (w:=w3) (S:=λb=>b=w.heap.size+1) rfl (I wh) (I 0) (I m) (I tk) (I tl) (I ta) (lF j Y y);exact aG (v:=jK wh 0 m tk tl ta (lF j Y y)) (by simp[results,results175,go_sem,jK,n0,n1,n2,n3,n4,n5,n6]) rfl ⟨K3,_,rfl,F.iX ai λb hb e=>gY ai a5 gF (jS hb e),ar.pw F a5 C,au.new F λb e=>C,λe=>⟨(ad e).1,(a2.H (ad e).2).A F λn e=>C⟩,av⟩
open Go.RowKit
attribute [local go_sem ↓] Go.wp_at_zero Go.wp_at_succ
structure St where
 ep:Int
 mark:Int
 ct:Nat->Ct
inductive vk(a b c d ch:Int):St->Rc->St->Prop
 |mD (s:St) (e:Int) (h:s.ep<e):vk a b c d ch s ⟨1,[e],[]⟩ ⟨e,s.mark,s.ct⟩
 |uU (s:St) (e m:Int) (h:¬e<s.ep) (hm:s.mark<m):vk a b c d ch s ⟨2,[e,m],[]⟩ ⟨e,m,s.ct⟩
 |write (s:St) (e x kd cl ca:Int) (ys:List Int) (i:Nat) (h:¬e<s.ep) (hi:i<16) (hloc:oT a b c d x=(ch,(i:Int),0)) (hlook:kr a b c d ch s.mark s.ct x=(3,0,⟨0,0,0,[]⟩)) (hc:sy kd ys.length=true):vk a b c d ch s ⟨3,[e,x,kd,cl,ca],ys⟩ ⟨e,s.mark,λj=>if j=i then⟨kd,cl,ca,ys⟩else s.ct j⟩
def yN(h:sy kd n=true):n<=8:=by unfold sy at h;split at h;all_goals simp_all
theorem Lq(base p B)(a b c d ch)(s s')(r)(jt)(K)(nv vv)(w)(h:Ks base w p a b c d ch s.ep s.mark s.ct jt K)(hb:base<=w.heap.size)(hl:jt.length<=1000000000000)(a5:∀i,i<16->(s.ct i).val.length<=255)(a6:vk a b c d ch s r s')(y:w.ownsRow B 3 1 nv r.ns.length (r.ns.map I))(hv:w.ownsRow B 5 1 vv r.val.length (r.val.map B8))(a1:∀g,vv.ownBlock=some g->(K 71).ownBlock≠some g):iB 185 #[O p,.agg #[I r.kd,nv,vv]] w λe w'=>∃K',e=iw/\Ks base w' p a b c d ch s'.ep s'.mark s'.ct (jt++r.bytes) K'/\gL (λb=>b=p\/(K 71).ownBlock=some b) w w':=by
 have hp:=h.jU.lt;obtain⟨va,vc,ev⟩:=(mH hv).len;rw[ay]at ev;have Q:=gP (mH hv);have a2:∀g,vv.ownBlock=some g->g<w.heap.size/\(K 71).ownBlock≠some g/\g≠p:=λg e=>⟨(hv.lt g e).2,a1 g e,λe'=>h.jU.oF hv gF (jS e e')⟩;let⟨a3,H⟩:=gO a2 h;clear h hv a1 a2
 cases a6 with
 |mD e he=>simp only at y Q ev;obtain⟨g,cap,rfl⟩:=mo y gG;have V:=(y.lt g rfl).2;have q0:=y.cellAt 0 gG;simp only[bj,dh]at q0;have A:Hid (Bl w (w.alloc (im #[I 1,gN (G g) 1 cap,vv] 320))):=(Bl.refl w).alloc _;have HS:=gP (Ea base p a b c d ch s.ep s.mark s.ct jt K e _ (H.bl A) (aF hb A.lt) hl);rw[az C,az C,az C]at HS;subst ev;simp only[Rc.bytes];clear y;generalize jt++iV 1 [e] []=Y at*;go_enter func185,ntmps185;go_wp2_with fail;refine HS.L ?_;rintro e1 w1⟨K',rfl,Z,F⟩;let⟨HK,HO⟩:=gO Z F.only;clear Z F;unfold jK;go_wp2;go_end0;exact⟨K',rfl,HK,(gL.B A).H HO⟩
 |uU e m he hm=>
  simp only at y Q ev;obtain⟨g,cap,rfl⟩:=mo y gG;have V:=(y.lt g rfl).2;have q0:=y.cellAt 0 gG;simp only[bj,dh]at q0;have q1:=y.cellAt 1 gG;simp only[bj,dh,dx]at q1;have A:Hid (Bl w (w.alloc (im #[I 2,gN (G g) 2 cap,vv] 320))):=(Bl.refl w).alloc _;have HS:Hid (∀W,Bl w W->_):=λW hW=>yq base p a b c d ch s.ep s.mark s.ct jt K e m W (H.bl hW) (aF hb hW.lt) hl he;rw[aE hm,aE hm]at HS;subst ev;simp only[Rc.bytes];clear y;generalize jt++iV 2 [e,m] []=Y at*;go_enter func185,ntmps185;go_wp2_with fail;go_region_with(go_at_call 177;refine(HS _ (by exact A.drewN _)).L ?_;rintro e1 w1⟨K',rfl,Z,F⟩;let⟨HK,HO⟩:=gO Z F.only;clear Z F;unfold jK);all_goals
   go_end0;exact⟨K',rfl,HK,(gL.B (A.drewN 1)).H HO⟩
 |write e x kd cl ca ys i he hi a4 a0 hc=>
  simp only at y Q ev;obtain⟨g,cap,rfl⟩:=mo y gG;have V:=(y.lt g rfl).2;have q0:=y.cellAt 0 gG;have q1:=y.cellAt 1 gG;have q2:=y.cellAt 2 gG;have q3:=y.cellAt 3 gG;have q4:=y.cellAt 4 gG;simp only[bj,dh,dx]at q0 q1 q2 q3 q4;have A:Hid (Bl w (w.alloc (im #[I 3,gN (G g) 5 cap,vv] 320))):=(Bl.refl w).alloc _;have P:Hid (¬(g=p\/(K 71).ownBlock=some g)):=by
   rintro(e'|e')
   .exact H.jU.oF y gF (by rw[<-e'];rfl)
   exact kH y H.ie gF g rfl e'
  have a7:Hid (¬(w.heap.size=p\/(K 71).ownBlock=some w.heap.size)):=by
   rintro(e'|e')
   .omega
   have:=(H.ie.lt _ e').2;omega
  have lA:g<(w.alloc (im #[I 3,gN (G g) 5 cap,vv] 320)).heap.size:=af V A.lt;have lB:w.heap.size<(w.alloc (im #[I 3,gN (G g) 5 cap,vv] 320)).heap.size:=gG;have b2:(w.alloc (im #[I 3,gN (G g) 5 cap,vv] 320)).cell? (U w.heap.size 2)=some vv:=by rw[ax _ _ 2 _ 320 (0,0) (ao w _)];rfl
  have HS:Hid (∀W,Bl w W->_):=λW hW=>tM base p a b c d ch s.ep s.mark s.ct jt K e x kd cl ca vv ys i W (H.bl hW) (aF hb hW.lt) hl a5 (Q.bl hW) (gS (yN hc)) (λg e=>⟨af (a3 g e).1 hW.lt,(a3 g e).2⟩) he hi a4 a0 hc;subst ev;simp only[Rc.bytes];clear y;generalize jt++iV 3 [e,x,kd,cl,ca] ys=Y at*;generalize (λj=>if j=i then(⟨kd,cl,ca,ys⟩:Ct)else s.ct j)=a8 at*;go_enter func185,ntmps185;go_wp2_with fail;go_region_held3(λW=>W.cell? (U g 0)=some (I e)/\W.cell? (U g 1)=some (I x)/\W.cell? (U g 2)=some (I kd)/\W.cell? (U g 3)=some (I cl)/\W.cell? (U g 4)=some (I ca)/\W.cell? (U w.heap.size 2)=some (lF va ys vc)) (go_keep)
   (first|(go_at_call 175;refine(HS _ (by exact A.drewN _)).L ?_;rintro e1 w1⟨K',rfl,Z,F⟩;have z0:=(F.only.cell (o:=0) (by exact lA) P).H (((A.drew).cell V).H q0);have z1:=(F.only.cell (o:=1) (by exact lA) P).H (((A.drew).cell V).H q1);have z2:=(F.only.cell (o:=2) (by exact lA) P).H (((A.drew).cell V).H q2);have z3:=(F.only.cell (o:=3) (by exact lA) P).H (((A.drew).cell V).H q3);have z4:=(F.only.cell (o:=4) (by exact lA) P).H (((A.drew).cell V).H q4);have z5:=(F.only.cell (o:=2) (by exact lB) a7).H b2;let⟨HK,HO⟩:=gO Z F.only;clear Z F;unfold jK))
  all_goals
   go_end0;exact⟨K',rfl,HK,(gL.B (A.drewN 1)).H HO⟩
end
def EN{base:Nat}{c:Nat}(h:w.ownsRow base e 1 (gN (G g) n c) n xs):n<=c:=by
 obtain⟨i,_⟩|⟨F,y,A,i,_,_,j,_⟩:=h.2
 .simp at i
 injection i with _ _ h3
 rw[h3];exact j
structure KD(F:Nat)(recv:Value)(p o base:Nat)(rs:List Rc)(J:World->Nat->World->Prop):Prop where
 jt:∀{w2 W:World} {j:Nat},J w2 j W->j<=rs.length->∃v B,W.cell? (U p o)=some v/\W.ownsRow B 5 1 v (off rs j) ((iE (rs.take j)).map B8)
 xU:∀{w2 W:World} {j:Nat},J w2 j W->∃cs t,w2.heap[p]?=some (.cells cs t (0,0))/\t≠320/\t≠3/\t≠5
 only:∀{w2 W:World} {j:Nat},J w2 j W->gL (λb=>b=p) w2 W
 bl:∀{w2 W W':World} {j:Nat},J w2 j W->Bl W W'->J w2 j W'
 step:∀{w2 W:World} {j:Nat} (nv vv:Value) (h:j<rs.length),J w2 j W->W.ownsRow base 3 1 nv rs[j].ns.length (rs[j].ns.map I)->W.ownsRow base 5 1 vv rs[j].val.length (rs[j].val.map B8)->(∀g,vv.ownBlock=some g->g<w2.heap.size)->
  Calls prog F #[recv,.agg #[I rs[j].kd,nv,vv]] W λe W'=>e=.returned (.tuple #[])/\J w2 (j+1) W'/\∃S,gL S W W'/\∀x cs f,W.heap[x]?=some (.cells cs 320 f)->¬S x
def tz.Xd{base:Nat}{v:Value}(h:tz base w v rs xs)(F:gL S w w')(H:∀b cs e f,S b->w.heap[b]?=some (im cs e f)->e≠320/\e≠3/\e≠5):tz base w' v rs xs:=by
 have i:∀{e:TypeId} {size:Nat} {u:Value} {n:Nat} {ys:List Value},(e=320\/e=3\/e=5)->w.ownsRow base e size u n ys->w'.ownsRow base e size u n ys:=by intro e size u n ys L A;refine F.iX A λb P Q=>?_;let⟨c,V⟩:=nZ A b P;obtain⟨n1,n2,n3⟩:=H b _ _ _ Q V;obtain rfl|rfl|rfl:=L<;>contradiction
 refine⟨i (.inl rfl) h.ie,h.len,λj y=>?_,λj y=>?_,h.kd⟩
 .obtain⟨Y,a,b⟩:=h.ns j y;exact⟨Y,a,i (.inr (.inl rfl)) b⟩
 obtain⟨Z,a,b⟩:=h.val j y;exact⟨Z,a,i (.inr (.inr rfl)) b⟩
structure GN(F:Nat)(recv:Value)(p o bm base:Nat)(rs:List Rc)(J:World->Nat->World->Prop):Prop where
 jt:∀{w2 W:World} {j:Nat},J w2 j W->j<=rs.length->∃v B,W.cell? (U p o)=some v/\W.ownsRow B 5 1 v (off rs j) ((iE (rs.take j)).map B8)
 Xn:∀{w2 W:World} {j:Nat},J w2 j W->p<w2.heap.size
 OF:∀{w2 W:World} {j:Nat},J w2 j W->∀b cs e f,(b=p\/b=bm)->w2.heap[b]?=some (.cells cs e f)->e≠320/\e≠3/\e≠5
 only:∀{w2 W:World} {j:Nat},J w2 j W->gL (λb=>b=p\/b=bm) w2 W
 bl:∀{w2 W W':World} {j:Nat},J w2 j W->Bl W W'->J w2 j W'
 step:∀{w2 W:World} {j:Nat} (nv vv:Value) (h:j<rs.length),J w2 j W->W.ownsRow base 3 1 nv rs[j].ns.length (rs[j].ns.map I)->W.ownsRow base 5 1 vv rs[j].val.length (rs[j].val.map B8)->(∀g,vv.ownBlock=some g->g<w2.heap.size)->
  Calls prog F #[recv,.agg #[I rs[j].kd,nv,vv]] W λe W'=>e=.returned (.tuple #[])/\J w2 (j+1) W'/\∃S,gL S W W'/\∀x cs f,W.heap[x]?=some (.cells cs 320 f)->¬S x
theorem vR(F:Nat)(hF:F=185\/F=187)(a8:Value)(p o bm:Nat)(ad:Option Addr)(b o' c n bs os cs:Nat)(rs:List Rc)(lG:List (Int×Int×Int))(w:World)(J:World->Nat->World->Prop)(hD:GN F a8 p o bm w.heap.size rs J)(al:∀w2,Bl w w2->J w2 0 w2)(hn:n<=(iE rs).length)(b9:n<=c)(bB:n<=1000000000000)(ba:c<=9223372036854775807)(mw:0<n->ad=some (U b o')/\b<w.heap.size)(hc:∀j d,j<n->(iE rs)[j]?=some d->w.cell? (U b (o'+j))=some (B8 d))(am:mn w bs os lG)(hs:lG.length<=1000)(ok:∀r∈rs,r.Ok lG):iB 183 #[.pointer (some (U p o)),gN ad n c,gN (some (U bs os)) lG.length cs,.func (.func F) #[a8] #[]] w λe w'=>∃k w2,e=gX (.bool true)/\k<=rs.length/\off rs k<=n/\(∀h:k<rs.length,n<off rs k+rs[k].bytes.length)/\Bl w w2/\J w2 k w':=by
 let⟨HS,D,HJ,Ok⟩:=jR (xD ad b o' c n bs os cs rs lG w hn b9 C ba mw hc am hs ok) hD al ok;clear hn mw hc am hs ok hD al;go_enter func183,ntmps183;go_wp2_with fail;refine HS.L ?_;rintro e w2⟨k,v,xs,rfl,hk,a9,a1,hR,an⟩;have aa:(rs.take k).length=k:=ig;let⟨HR,HB,Hn⟩:=iz hR an a1;let⟨ap,aq⟩:=gO hk a9;have bC:k<=400000000000:=by have:=CX rs k hk;omega
 obtain⟨va,vc,ev⟩:∃a c,v=gN a k c:=by
  obtain⟨e1,e2⟩|⟨g,cap,bb,e1,_⟩:=hR.ie.2
  .exact⟨none,0,by rw[e1];congr 1;omega⟩
  exact⟨_,cap,jS e1 aa⟩
 subst ev;clear hR an a1 hk a9 HS;have bD:((k:Nat):Int)<=400000000000:=C;go_wp2;go_loopw[22](λi wr=>∃j:Nat,j<=k/\i=I j/\Hid (J w2 j wr)) λi _=>k-(intOf i).toNat
 case atStart=>exact⟨0,ju,rfl,HJ w2 HB⟩
 obtain⟨j,hj,rfl,A⟩:=hrel;by_cases ja:j<k
 .have V:j<rs.length:=af ja ap;have Y:j<(rs.take k).length:=C;have a2:(rs.take k)[j]=rs[j]:=gG;have Z:tz w.heap.size wr _ _ _:=HR.Xd (D.only A) (D.OF A);obtain⟨g,cap,bc⟩:∃g cap,va=G g/\vc=cap:=by
   obtain⟨e1,e2⟩|⟨g,cap,bb,e1,_⟩:=Z.ie.2
   .exact absurd e2 C
   injection e1 with h1 h2 h3
   exact⟨g,cap,h1,h3⟩
  obtain⟨rfl,rfl⟩:=bc;have lg:g<wr.heap.size:=(Z.ie.lt g rfl).2;have ho:wr.ownsRow w.heap.size 320 3 (gN (G g) k vc) k xs:=by have:=Z.ie;rwa[aa]at this
  have q0:wr.cell? (U g (3*j))=xs[3*j]?:=ho.cellAt (3*j) C;have q1:wr.cell? (U g (3*j+1))=xs[3*j+1]?:=ho.cellAt (3*j+1) C;have q2:wr.cell? (U g (3*j+2))=xs[3*j+2]?:=ho.cellAt (3*j+2) C;rw[Z.kd j Y,a2]at q0;obtain⟨nv,e1,a3⟩:=Z.ns j Y;obtain⟨vv,e2,a4⟩:=Z.val j Y;rw[a2]at a3 a4;rw[e1]at q1;rw[e2]at q2;let⟨bd,be⟩:=gO a3 a4;obtain⟨v0,B0,cP,hP⟩:=D.jt A C;obtain⟨ia,ic,ei⟩:∃a c,v0=gN a (off rs j) c:=by obtain⟨a',c',e'⟩:=(i7 hP).len;rw[jh hP]at e';exact⟨a',c',e'⟩
  subst ei;have lp:p<wr.heap.size:=by exact af (D.Xn A) (D.only A).size
  obtain⟨na,nc,en⟩:∃a c,nv=gN a rs[j].ns.length c:=by obtain⟨a',c',e'⟩:=(i7 a3).len;rw[jh a3]at e';exact⟨a',c',e'⟩
  obtain⟨wa,wc,ew⟩:∃a c,vv=gN a rs[j].val.length c:=by obtain⟨a',c',e'⟩:=(i7 a4).len;rw[jh a4]at e';exact⟨a',c',e'⟩
  have bg:Hid (∀g,vv.ownBlock=some g->g<w2.heap.size):=by obtain⟨bi,e3,ar⟩:=HR.val j Y;obtain rfl:bi=vv:=dY (e3.symm.H e2);exact λg hg=>(ar.lt g hg).2
  have au:Hid (∀W,gL (λb=>b=p\/b=bm) w2 W->W.ownsRow w.heap.size 3 1 nv rs[j].ns.length (rs[j].ns.map I)):=by obtain⟨ab,e3,y⟩:=HR.ns j Y;obtain rfl:ab=nv:=dY (e3.symm.H e1);rw[a2]at y;exact λW hW=>hW.iX y λb hb e'=>by let⟨c1,ac⟩:=nZ y b hb;exact(D.OF A b _ _ _ e' ac).2.1 rfl
  have av:Hid (∀W,gL (λb=>b=p\/b=bm) w2 W->W.ownsRow w.heap.size 5 1 vv rs[j].val.length (rs[j].val.map B8)):=by obtain⟨ab,e3,y⟩:=HR.val j Y;obtain rfl:ab=vv:=dY (e3.symm.H e2);rw[a2]at y;exact λW hW=>hW.iX y λb hb e'=>by let⟨c1,ac⟩:=nZ y b hb;exact(D.OF A b _ _ _ e' ac).2.2 rfl
  have bn:=gP λW=>D.step (w2:=w2) (W:=W) (j:=j) nv vv V;have bo:=(Ok _ (aL V)).k0;have aw:=(Ok _ (aL V)).k1;have aY:=(Ok _ (aL V)).n1;have b0:=(Ok _ (aL V)).v1;have bE:=si rs j V;have b1:Hid (iE (rs.take (j+1))=iE (rs.take j)++rs[j].bytes):=by unfold Hid;rw[aM V,lO];simp[iE]
  subst en ew;have bR:=rs[j].len;have b2:rs[j].bytes=iV rs[j].kd rs[j].ns rs[j].val:=rfl;generalize rs[j]=r at*;let⟨rk,rn,rv⟩:=r;simp only at*;clear a3 a4 e1 e2 Z ho a2 Y;rw[cN 3 j]at q0 q1 q2;let⟨b3,bX⟩:=gO (ao wr (im #[I rk,gN na rn.length nc,gN wa rv.length wc] 320)) ((Bl.refl wr).alloc (im #[I rk,gN na rn.length nc,gN wa rv.length wc] 320));have HC:=gP (bn _ (D.bl A bX) ((iT bX).iX bd λ_ _ e=>e) ((iT bX).iX be λ_ _ e=>e) bg);obtain rfl|rfl:=hF;all_goals
   go_wp2_with fail;refine HC.L ?_;rintro e w3⟨rfl,a7,S,ag,b4⟩;have P:=(ag.block wr.heap.size gG (b4 _ _ _ b3)).H b3;have bp:=gP a7;have ai:wr.heap.size<w3.heap.size:=(ae.1 P).1;have x0:w3.cell? (U wr.heap.size 0)=some (I rk):=by rw[ax _ _ 0 _ 320 (0,0) P];rfl
   have x1:w3.cell? (U wr.heap.size 1)=some (lF na rn nc):=by rw[ax _ _ 1 _ 320 (0,0) P];rfl
   have x2:w3.cell? (U wr.heap.size 2)=some (gN wa rv.length wc):=by rw[ax _ _ 2 _ 320 (0,0) P];rfl
   obtain⟨v3,B3,bq,a6⟩:=D.jt a7 C;let⟨g3,Q,e3⟩:=mo a6 C;subst e3;have l3:g3<w3.heap.size:=(a6.lt g3 rfl).2;have bv:p<w3.heap.size:=af lp (aF bX.lt ag.size);have bA:=(EN a6);have bw:=gP a6;have o2:=D.only A;have o3:=D.only a7;let⟨b5,b6⟩:=gO (au w3 o3) (av w3 o3);have hL:off rs (j+1)-off rs j=(iV rk rn rv).length:=Wu b2;have HA:Hid (∀W,Bl w3 W->iB 234 #[.agg #[I rk,gN na rn.length nc,gN wa rv.length wc],OO] W λe w5=>∃a5 c5,e=gX (gN a5 (iV rk rn rv).length c5)/\Bl w3 w5/\Sl w5 (gN a5 (iV rk rn rv).length c5) ((iV rk rn rv).map B8)):=by intro W hW;refine(nE W.heap.size OO 0 [] rk (lF na rn nc) (gN wa rv.length wc) rn rv W mT jl C ((mH b5).bl hW) ((mH b6).bl hW) bo aw aY b0 (λb e=>ny e) (λb e=>ny e) (λb e=>af (b5.lt b e).2 hW.lt) λb e=>af (b6.lt b e).2 hW.lt).L ?_;rintro e w5⟨v5,rfl,hG⟩;have ak:=hG.ie;rw[bP,dz]at ak;obtain⟨a5,c5,e5⟩:=(i7 ak).len;rw[ay]at e5;subst e5;exact⟨a5,c5,rfl,hW.H (hG.only.te λb _ e=>ny e),i7 ak⟩
   have HE:Hid (∀W,Bl w3 W->Sl W (gN (some (U g3 (off rs j))) (iV rk rn rv).length (Q-off rs j)) ((iV rk rn rv).map B8)):=by intro W hW;refine .inr ⟨g3,off rs j,Q-off rs j,gG,af l3 hW.lt,λi hi=>?_⟩;rw[ay]at hi;rw[hW.cell l3,bw.cellAt (off rs j+i) C,b1.o,aZ,aC (by simp[off]),b2];simp[off];exact⟨_,ah hi,rfl⟩
   have m0:((off rs j:Nat):Int)<=((off rs (j+1):Nat):Int):=C;have m1:((off rs (j+1):Nat):Int)<=(Q:Int):=C;have m2:(0:Int)<=((off rs j:Nat):Int):=C;have m3:(0:Int)<=((off rs (j+1):Nat):Int):=C;have m4:((off rs j:Nat):Int)<=(Q:Int):=C;have m5:off rs j<=off rs (j+1):=C;clear a7 ag b4 P a6 HC b1 o2 o3 cP q0 q1 q2;generalize iV rk rn rv=bx at*;go_wp2_with fail;go_region_held (λW=>W.cell? (U p o)=some (gN (G g3) (off rs (j+1)) Q)/\W.cell? (U wr.heap.size 0)=some (I rk)/\W.cell? (U wr.heap.size 1)=some (lF na rn nc)/\W.cell? (U wr.heap.size 2)=some (gN wa rv.length wc)) (go_keep)
    (first
     |(go_at_call 234;refine(HA _ (by exact jC.drewN _)).L ?_;rintro e w5⟨a5,c5,rfl,a0,b7⟩;have z0:=(a0.cell (o:=o) bv).H bq;have z1:=(a0.cell (o:=0) ai).H x0;have z2:=(a0.cell (o:=1) ai).H x1;have z3:=(a0.cell (o:=2) ai).H x2;let⟨b8,bz⟩:=gO a0 b7;clear a0 b7)
     |(go_at_call 231;refine(B7 _ _ bx _ (by exact HE _ b8) (by exact bz)).L ?_;rintro e w6⟨rfl,rfl⟩))
   all_goals
    go_wp2;go_roundw
    case rel=>exact⟨j+1,C,iD,D.bl bp b8⟩
    simp[intOf];omega
 obtain rfl:j=k:=C;go_wp2;go_ret;exact⟨j,w2,rfl,ap,aq,Hn,HB,A⟩
def KD.v{F:Nat}{i:Value}{o base:Nat}(h:KD F i p o base rs J):GN F i p o p base rs J where
 jt:=h.jt
 Xn:=λj=>by obtain⟨_,_,e,_⟩:=h.xU j;exact(ae.1 e).1
 OF:=λj b _ _ _ H y=>by obtain⟨_,_,e,A⟩:=h.xU j;rw[show b=p by omega,e]at y;simp at y;obtain⟨_,rfl,_⟩:=y;exact A
 only:=λj=>(h.only j).L λ_ _ e=>.inl e
 bl:=h.bl
 step:=h.step
def Fp(recv)(p o)(ad)(b o' c n bs os cs)(rs)(lG)(w)(J)(L:KD 185 recv p o w.heap.size rs J)(i:∀w2,Bl w w2->J w2 0 w2)(P:n<=(iE rs).length)(y:n<=c)(A:n<=1000000000000)(F:c<=9223372036854775807)(Q:0<n->ad=some (U b o')/\b<w.heap.size)(V:∀j d,j<n->(iE rs)[j]?=some d->w.cell? (U b (o'+j))=some (B8 d))(H:mn w bs os lG)(Y:lG.length<=1000)(Z:∀r∈rs,r.Ok lG):iB 183 #[.pointer (some (U p o)),gN ad n c,gN (some (U bs os)) lG.length cs,.func (.func 185) #[recv] #[]] w λe w'=>∃k w2,e=gX (.bool true)/\k<=rs.length/\off rs k<=n/\(∀h:k<rs.length,n<off rs k+rs[k].bytes.length)/\Bl w w2/\J w2 k w':=
 vR 185 (.inl rfl) recv p o p ad b o' c n bs os cs rs lG w J L.v i P y A F Q V H Y Z
section
def Rv:Value->Option (DataW Value×List MemPlace):=λv=>some (.held v,[])
def VP:Value:= .agg #[I 0,I 0,OO]
def UP(w):(zeroValue 311).run prog w=.ok VP w:=rfl
def MA:Keyed prog 3:=int_keyed underlying3
def I2:Value->Int
 | .agg a=>Go.RowKit.intOf ((a[0]?).getD undef)
 |_=>0
def Mp(w:World)(b n:Nat)(M:Int->Value):Prop:=
 ∃D:DataW Value,w.ownsMap prog 3 Rv b n D/\IsMap D/\(∀k,D.atKey (.int .i64 k) (.held VP)=.held (M k))/\∀k,has D (.int .i64 k)=true->I2 (M k)≠0
def Da(M:Int->Value)(k:Int)(v:Value):Int->Value:=λj=>if j=k then v else M j
def Mp.lt(h:Mp w b n M):b<w.heap.size:=by let⟨D,i,_⟩:=h;exact i.lt
def Mp.oU(h:Mp w b n M)(e:w'.heap[b]?=w.heap[b]?):Mp w' b n M:=by obtain⟨D,⟨j,i,y,A⟩,F⟩:=h;exact⟨D,⟨j,i,e.H y,A⟩,F⟩
def Mp.only(h:Mp w b n M)(i:gL S w w')(j:¬S b):Mp w' b n M:=h.oU (i.block b h.lt j)
def Mp.bl(h:Mp w b n M)(i:Bl w w'):Mp w' b n M:=h.oU (i.heap h.lt)
def Mp.ne(h:Mp w b n M){f:Nat×Nat}(j:w.heap[g]?=some (im cs t f)):g≠b:=by rintro rfl;obtain⟨D,⟨y,i,A,_⟩,_⟩:=h;simp_all
def Mp.oF(h:Mp w b n M){base:Nat}{size:Nat}{v:Value}(i:w.ownsRow base e size v k xs):v.ownBlock≠some b:=by intro e';let⟨c,j⟩:=nZ i b e';exact h.ne j rfl
def Mp.DJ(w:World):Mp (w.alloc (.map #[] 0)) w.heap.size 0 (λ_=>VP):=
 ⟨.map [],World.ownsMap_made w prog 3 Rv,⟨_,rfl⟩,λ_=>rfl,λk h=>by simp[has]at h⟩
def Mp.qq(h:Mp w b n M)(k)(j:(Lit.int .i64 k).wf=true):(Instr.lookup 251 (.map (some b)) (I k) false).run prog w=.ok (M k) w:=by let⟨D,y,F,A,_⟩:=h;obtain⟨v,ps,H,i⟩:=y.lookup MA underlying251 (UP w) rfl (keyOf_int_mk underlying3 j);rw[A]at i;simp only[Rv,aJ,Prod.mk.injEq,DataW.held.injEq]at i;simp_all
def Mp.put(h:Mp w b n M)(k)(i:(Lit.int .i64 k).wf=true)(v)(F:n<maxLen)(H:I2 v≠0):∃w',(Instr.mapUpdate 251 (.map (some b)) (I k) v).run prog w=.ok () w'/\Mp w' b (n+1) (Da M k v)/\gL (λx=>x=b) w w':=by
 let⟨D,P,y,Q,V⟩:=h;obtain⟨w',Y,Z,hg⟩:=P.update (e:=311) MA underlying251 F (keyOf_int_mk underlying3 i) (val:=v) (ps:=[]) rfl;refine⟨w',Y,⟨_,Z,?_,λj=>?_,λj A=>?_⟩,(gL.A hg).L λx _ e=>iU e⟩
 .obtain⟨es,rfl⟩:=y;exact⟨_,rfl⟩
 .unfold Da;by_cases e:j=k
  .subst e;rw[aE rfl,atKey_put_same y (MA.key (keyOf_int_mk underlying3 i))]
  rw[az e,atKey_put_other (iU e),Q]
 unfold Da;by_cases e:j=k
 .simp_all
 rw[az e];rw[has_put_other (iU e)]at A;exact V j A
open Go.RowKit Go.Maps
attribute [local go_sem ↓] Go.wp_at_zero Go.wp_at_succ
structure Ep where
 pr:Int
 ba:Int
 val:List Int
def mS(E:Int->Ep)(k:Int)(s:Ep):Int->Ep:=λj=>if j=k then s else E j
structure Vs(base:Nat)(w:World)(p bm n:Nat)(E:Int->Ep)(jt:List Int)(M:Int->Value)(vi:Value)(t:TypeId):Prop where
 jU:w.heap[p]?=some (.cells #[.map (some bm),vi] t (0,0))
 ty:t=253\/t=255
 mp:Mp w bm n M
 ep:∀e,∃vv,M e=.agg #[I (E e).pr,I (E e).ba,vv]/\w.ownsRow base 5 1 vv (E e).val.length ((E e).val.map B8)/\∀g,vv.ownBlock=some g->vi.ownBlock≠some g
 ie:w.ownsRow base 5 1 vi jt.length (jt.map B8)
def Vs.lt{base:Nat}{E:Int->Ep}(h:Vs base w p bm n E jt M vi t):p<w.heap.size:=(ae.1 h.jU).1
def Vs.c0{base:Nat}{E:Int->Ep}(h:Vs base w p bm n E jt M vi t):w.cell? (U p 0)=some (.map (some bm)):=by rw[ax w p 0 _ t _ h.jU];rfl
def Vs.c1{base:Nat}{E:Int->Ep}(h:Vs base w p bm n E jt M vi t):w.cell? (U p 1)=some vi:=by rw[ax w p 1 _ t _ h.jU];rfl
def Vs.pm{base:Nat}{E:Int->Ep}(h:Vs base w p bm n E jt M vi t):p≠bm:=h.mp.ne h.jU
def Vs.I4{base:Nat}{E:Int->Ep}(h:Vs base w p bm n E jt M vi t){B:Nat}{v:Value}(i:w.ownsRow B 5 1 v k xs):v.ownBlock≠some p:=gY i h.jU (by obtain e|e:=h.ty<;>rw[e]<;>decide)
def Vs.only{base:Nat}{E:Int->Ep}(h:Vs base w p bm n E jt M vi t)(i:gL S w w')(y:∀b,S b->b≠p/\b≠bm/\∀cs f,w.heap[b]?≠some (im cs 5 f)):Vs base w' p bm n E jt M vi t:=by
 have j:∀{v:Value} {k:Nat} {xs:List Value},w.ownsRow base 5 1 v k xs->w'.ownsRow base 5 1 v k xs:=λA=>i.iX A λb e F=>by let⟨c,L⟩:=nZ A b e;simp_all
 refine⟨(i.block p h.lt λe=>(y p e).1 rfl).H h.jU,h.ty,h.mp.only i λe=>(y bm e).2.1 rfl,λe=>?_,j h.ie⟩;obtain⟨P,Q,V,Y⟩:=h.ep e;simp_all
def Vs.bl{base:Nat}{E:Int->Ep}(h:Vs base w p bm n E jt M vi t)(i:Bl w w'):Vs base w' p bm n E jt M vi t:=h.only (iT i) λ_ e=>e.elim
def Ye:Value->Value
 | .agg a=>(a.toList[2]?).getD OO
 |v=>v
def Dj(M:Int->Value)(vi:Value)(g:Nat):Prop:=vi.ownBlock=some g\/∃e,(Ye (M e)).ownBlock=some g
def Vs.wT{base:Nat}{E:Int->Ep}(h:Vs base w p bm n E jt M vi t)(i:Dj M vi g):base<=g/\g<w.heap.size:=by
 obtain i|⟨e,i⟩:=i
 .exact h.ie.lt g i
 obtain⟨A,j,y,_⟩:=h.ep e;rw[j]at i;exact y.lt g i
structure ui(p bm:Nat)(M:Int->Value)(vi:Value)(M':Int->Value)(vi':Value)(w w':World):Prop where
 only:gL (λb=>b=p\/b=bm\/vi.ownBlock=some b) w w'
 a:∀g,Dj M' vi' g->Dj M vi g\/w.heap.size<=g
def ui.D{i:Value}(h:ui p bm M vi M' i W w')(j:Bl w W):ui p bm M vi M' i w w':=
 ⟨(gL.B j).H h.only,λg y=>(h.a g y).imp id (aF j.lt)⟩
def ui.post{i:Value}{j:World}(h:ui p bm M vi M' i w j)(y:Bl j w'):ui p bm M vi M' i w w':=
 ⟨h.only.H (gL.B y),h.a⟩
def Vs.So{base:Nat}{w2:World}{E:Int->Ep}{F:List Int}{i:Value}(h:Vs base w p bm n E jt M vi t)(e)(s)(vv){L:Nat}(hW:Bl w W)(hm:gL (λx=>x=bm) W w2)(a3:Mp w2 bm (n+1) (Da M e (.agg #[I s.pr,I s.ba,vv])))(Q:W.ownsRow base 5 1 vv s.val.length (s.val.map B8))(V:∀g,vv.ownBlock=some g->vi.ownBlock≠some g)(a4:∀g,vv.ownBlock=some g->Dj M vi g\/w.heap.size<=g){w3:World}(Y:Bl w2 w3)(hk:Kept base w3 w' p 1 vi i L xs)(hL:L=jt.length+F.length)(hx:xs=jt.map B8++F.map B8):Vs base w' p bm (n+1) (mS E e s) (jt++F) (Da M e (.agg #[I s.pr,I s.ba,vv])) i t/\ui p bm M vi (Da M e (.agg #[I s.pr,I s.ba,vv])) i w w':=by
 obtain⟨W4,w5,Z,P,rfl⟩:=hk.ex;have y:=h.bl hW;have O3:gL (λb=>b=bm) W W4:=hm.H (gL.B (Y.H Z));have O5:gL (λb=>b=bm\/vi.ownBlock=some b) W w5:=(O3.L λb _ e=>.inl e).H (P.only.L λb _ e=>.inr e);have a0:vi.ownBlock≠some p:=y.I4 y.ie;have a1:w5.heap[p]?=some (im #[.map (some bm),vi] t (0,0)):=(O5.block p y.lt (by rintro(e|e);exact y.pm e;exact a0 e)).H y.jU;have OS:gL (λb=>b=p) w5 (w5.setCell (U p 1) i):=(gL.refl (λb=>b=p) w5).setCell (U p 1) (.inl rfl) i;have O6:gL (λb=>b=p\/b=bm\/vi.ownBlock=some b) W (w5.setCell (U p 1) i):=(O5.L λb _ e=>.inr e).H (OS.L λb _ e=>.inl e);have oL:∀{v:Value} {k:Nat} {ys:List Value},W.ownsRow base 5 1 v k ys->(∀g,v.ownBlock=some g->vi.ownBlock≠some g)->(w5.setCell (U p 1) i).ownsRow base 5 1 v k ys:=λhr ha=>O6.iX hr λb e hS=>by
  obtain rfl|rfl|hS:=hS
  .exact y.I4 hr e
  .exact y.mp.oF hr e
  exact ha b e hS
 have mu:∀{v:Value} {k:Nat} {ys:List Value},W.ownsRow base 5 1 v k ys->(∀g,v.ownBlock=some g->vi.ownBlock≠some g)->∀g,v.ownBlock=some g->i.ownBlock≠some g:=λhr ha g e e'=>by
  obtain e'|e':=P.a g e'
  .exact ha g e e'
  have:=(hr.lt g e).2;have:=O3.size;omega
 have a2:vi.ownBlock≠some bm:=y.mp.oF y.ie;refine⟨⟨?_,h.ty,?_,λj=>?_,?_⟩,(gL.B hW).H O6,λg A=>?_⟩
 rotate_left 4
 .obtain A|⟨j,A⟩:=A
  .obtain e'|e':=P.a g A
   .exact .inl (.inl e')
   exact .inr (aF hW.lt (aF O3.size e'))
  unfold Da at A;split at A
  .exact a4 g A
  exact .inl (.inr ⟨j,A⟩)
 .have:=cH w5 p 1 _ t i a1;exact this
 .refine((a3.bl (Y.H Z)).only P.only a2).only OS λe=>y.pm e.symm
 .unfold Da mS;by_cases e1:j=e
  .rw[aE e1,aE e1];exact⟨vv,rfl,oL Q V,mu Q V⟩
  rw[az e1,az e1];obtain⟨u,h1,h2,h3⟩:=y.ep j;exact⟨u,h1,oL h2 h3,mu h2 h3⟩
 rw[aO,aZ,<-hx,<-hL];exact OS.iX P.ie λb e e'=>gY P.ie a1 (by obtain e|e:=h.ty<;>rw[e]<;>decide) (jS e e')
end
theorem Ez(base p bm n)(E)(jt)(M)(vi)(t)(e b)(a0:b≠0)(w)(h:Vs base w p bm n E jt M vi t)(hb:base<=w.heap.size)(hl:jt.length<=1000000000000)(hn:n<=1000000000000)(he:(Lit.int .i64 e).wf=true):iB 229 #[O p,I e,I b] w λen w'=>∃M' A,en=iw/\Vs base w' p bm (n+1) (mS E e ⟨b,(E e).ba,(E e).val⟩) (jt++iV 1 [e,b] []) M' A t/\ui p bm M vi M' A w w':=by
 obtain⟨vv,hM,j,L⟩:=h.ep e;obtain⟨va,vc,rfl⟩:∃a c,vv=gN a (E e).val.length c:=by obtain⟨a',c',e'⟩:=(i7 j).len;rw[jh j]at e';exact⟨a',c',e'⟩
 have hp:=h.lt;have c0:=h.c0;have F:=h.mp.qq e he;rw[hM]at F;have P:=gP ((Bl.refl w).alloc (im #[I b,I (E e).ba,gN va (E e).val.length vc] 311));obtain⟨w2,a2,y,Q⟩:=(h.mp.bl (P.drew)).put e he (.agg #[I b,I (E e).ba,gN va (E e).val.length vc]) (by unfold maxLen;omega) (by simpa [I2,Go.RowKit.intOf]using a0);let⟨H,HM,HO⟩:=iz h y Q;let⟨HV,HA,a1⟩:=iz j L hM;clear h y Q j L hM;generalize hs:(E e).ba=eb at*;generalize hv:(E e).val=ev at*;let⟨Hs,Hv⟩:=gO hs hv;clear hs hv;go_enter func229,ntmps229;go_wp2;go_region;let⟨bB,i⟩:=gO ((Bl.refl w2).alloc (im #[I e,I b] 3)) (H.bl (P.drew));have OW:Hid (gL (λx=>x=bm) (w.alloc (im #[I b,I eb,gN va ev.length vc] 311)).drew (w2.alloc (im #[I e,I b] 3))):=HO.H (gL.B bB);have V:=(OW.block p i.lt i.pm).H i.jU;have Y:=OW.iX i.ie λb' Z e2=>i.mp.oF i.ie (jS Z e2);have hN:Bs (w2.alloc (im #[I e,I b] 3)) (gN (G w2.heap.size) 2 2) ([e,b].map I):=xi w2 3 #[I e,I b] 2 rfl;have l2:w.heap.size<=w2.heap.size:=aF P.lt HO.size;have HK:=gP (Ah base p 1 _ t vi jt.length (jt.map B8) 1 (gN (G w2.heap.size) 2 2) OO [e,b] [] _ V rfl (by obtain e|e:=H.ty<;>rw[e]<;>decide) Y ig hl hN (.inl ⟨rfl,rfl⟩) gF gF gG gG (λg Z e2=>by
  simp[Value.ownBlock]at e2
  have:=(H.ie.lt g Z).2
  omega) (λg e e'=>ny e') (λg e=>by simp[Value.ownBlock]at e;subst e;simp) λg e=>ny e)
 clear V Y hN;go_wp2_with fail;refine HK.L ?_;rintro en w'⟨A,rfl,hk⟩;have R:=gP (H.So e ⟨b,eb,ev⟩ (lF va ev vc) (P.drew) HO HM ((iT P.drew).iX HV λ_ _ e=>e) HA (λg Z=>.inl (.inr ⟨e,jk a1.o Z⟩)) bB hk rfl rfl);clear hk HK;go_wp2;go_end0;exact⟨_,_,rfl,R.1,R.2⟩
theorem Gv(base p bm n)(E)(jt)(M)(vi)(t)(e b)(a4:b≠0)(v)(ys)(w)(h:Vs base w p bm n E jt M vi t)(hb:base<=w.heap.size)(hl:jt.length<=1000000000000)(hn:n<=1000000000000)(he:(Lit.int .i64 e).wf=true)(hv:Bs w v (ys.map B8))(hy:ys.length<=255)(a0:∀g,v.ownBlock=some g->g<w.heap.size/\vi.ownBlock≠some g/\g≠bm):iB 232 #[O p,I e,I b,v] w λen w'=>∃M' V,en=iw/\Vs base w' p bm (n+1) (mS E e ⟨b,b,ys⟩) (jt++iV 2 [e,b] ys) M' V t/\ui p bm M vi M' V w w':=by
 obtain⟨va,vc,ev⟩:=hv.len;rw[ay]at ev;subst ev;have hp:=h.lt;have c0:=h.c0;let⟨H,Hv,Y⟩:=iz h hv a0;clear h hv a0;have HC:Hid (∀W,Bl w W->iB 87 #[gN va ys.length vc] W λen P=>∃y A w2,en=gX (lF y ys A)/\Bl w P/\P.cell? (U p 0)=some (.map (some bm))/\P.ownsRow w.heap.size 5 1 (lF y ys A) ys.length (ys.map B8)/\(Instr.mapUpdate 251 (.map (some bm)) (I e) (.agg #[I b,I b,gN y ys.length A])).run prog P=.ok () w2/\Mp w2 bm (n+1) (Da M e (.agg #[I b,I b,gN y ys.length A]))/\gL (λx=>x=bm) P w2):=by
  intro W hW;refine(oS (lF va ys vc) ys W (Hv.bl hW) C).L ?_;rintro en P⟨u,rfl,a5,Z⟩;obtain⟨y,A,rfl⟩:∃a c,u=gN a ys.length c:=by obtain⟨a',c',e'⟩:=(i7 Z).len;rw[jh Z]at e';exact⟨a',c',e'⟩
  have hB:=hW.H a5;obtain⟨w2,Q,i,F⟩:=(H.mp.bl hB).put e he (.agg #[I b,I b,gN y ys.length A]) (by unfold maxLen;omega) (by simpa [I2,Go.RowKit.intOf]using a4);exact⟨y,A,w2,rfl,hB,(H.bl hB).c0,gZ Z λg e=>aF hW.lt (Z.lt g e).1,Q,i,F⟩
 go_enter func232,ntmps232;go_wp2;go_region_with(go_at_call 87;refine(HC _ (by exact jC.drewN _)).L ?_;rintro en P⟨y,A,w2,rfl,hB,c1,Z,Q,i,F⟩;let⟨HB,HU,HM,HO⟩:=jR hB Z i F;clear hB Z i F);all_goals
  let⟨bB,j⟩:=gO ((Bl.refl w2).alloc (im #[I e,I b] 3)) (H.bl HB);have OW:Hid (gL (λx=>x=bm) P (w2.alloc (im #[I e,I b] 3))):=HO.H (gL.B bB);have a1:=(OW.block p j.lt j.pm).H j.jU;have a2:=OW.iX j.ie λb' e1 e2=>j.mp.oF j.ie (jS e1 e2);have a3:=(Hv.bl HB).only OW λg e e'=>(Y g e).2.2 e';have hN:Bs (w2.alloc (im #[I e,I b] 3)) (gN (G w2.heap.size) 2 2) ([e,b].map I):=xi w2 3 #[I e,I b] 2 rfl;have l2:w.heap.size<=w2.heap.size:=aF HB.lt HO.size;have HK:=gP (Ah base p 1 _ t vi jt.length (jt.map B8) 2 (gN (G w2.heap.size) 2 2) (lF va ys vc) [e,b] ys _ a1 rfl (by obtain e|e:=H.ty<;>rw[e]<;>decide) a2 ig hl hN a3 gF gF gG hy (λg e1 e2=>by
   simp[Value.ownBlock]at e2
   have:=(H.ie.lt g e1).2
   omega) (λg e e'=>(Y g e').2.1 e) (λg e=>by simp[Value.ownBlock]at e;subst e;simp) λg e=>by have:=(Y g e).1;simp;omega)
  clear a1 a2 hN a3;go_wp2_with fail;refine HK.L ?_;rintro en w'⟨V,rfl,hk⟩;have R:=gP (H.So e ⟨b,b,ys⟩ (lF y ys A) HB HO HM (gZ HU λg e=>aF hb (HU.lt g e).1) (λg e e'=>by have:=(HU.lt g e).1;have:=(H.ie.lt g e').2;omega) (λg e=>.inr (HU.lt g e).1) bB hk rfl rfl);clear hk HK;go_wp2;go_end0;exact⟨_,_,rfl,R.1,R.2⟩
theorem ye(pr ba)(a)(n c)(w):iB 228 #[.agg #[I pr,I ba,gN a n c]] w λe w'=>e=gX (.agg #[I 6,I pr,I 0,OO])/\Bl w w':=by
 go_enter func228,ntmps228;go_wp2;exact aG (by simp[results,results228,go_sem]) rfl ⟨rfl,(jC.alloc _).alloc _⟩
theorem qF(a)(n c:Nat)(w)(j:(n:Int)<=9223372036854775807):iB 230 #[gN a n c] w λe w'=>e=gX (.bool (decide (1<=n/\n<=255)))/\Bl w w':=by
 by_cases y:1<=n
 .by_cases A:n<=255
  .have h:(1:Int)<=(n:Int):=C;have i:(n:Int)<=255:=C;go_enter func230,ntmps230;go_wp2;go_ret;exact⟨by rw[show decide (1<=n/\n<=255)=true from by simp;omega];rfl,jC⟩
  have h:(1:Int)<=(n:Int):=C;have i:¬(n:Int)<=255:=C;go_enter func230,ntmps230;go_wp2;go_ret;exact⟨rfl,jC⟩
 have h:¬(1:Int)<=(n:Int):=C;go_enter func230,ntmps230;go_wp2;go_ret;exact⟨rfl,jC⟩
def ui.Et{i:Value}{j:World}(h:ui p bm M vi M' i w j)(k:gL T j w')(y:∀n,T n->w.heap.size<=n):ui p bm M vi M' i w w':=
 ⟨h.only.wY k y,h.a⟩
def lJ(wh pr ba:Int)(v:Value):Value:= .agg #[I wh,I pr,I ba,v]
def kx:Array Value:=#[I 0,I 0,I 0,OO]
def nU(h:w.heap[g]?=some (im kx 222 (0,0))):w.cell? (U g 0)=some (I 0)/\w.cell? (U g 1)=some (I 0)/\w.cell? (U g 2)=some (I 0)/\w.cell? (U g 3)=some OO/\w.frozen? (U g 0)=false/\w.frozen? (U g 1)=false/\w.frozen? (U g 2)=false/\w.frozen? (U g 3)=false:=
 ⟨ax w g 0 _ 222 (0,0) h,ax w g 1 _ 222 (0,0) h,ax w g 2 _ 222 (0,0) h,ax w g 3 _ 222 (0,0) h,aP w g 0 _ 222 h,aP w g 1 _ 222 h,aP w g 2 _ 222 h,aP w g 3 _ 222 h⟩
def gL.Ih(h:S g)(u0 u1 u2 u3):gL S w ((((w.setCell (U g 0) u0).setCell (U g 1) u1).setCell (U g 2) u2).setCell (U g 3) u3):=
 ((((gL.refl S w).setCell (U g 0) (.inl h) u0).setCell (U g 1) (.inl h) u1).setCell (U g 2) (.inl h) u2).setCell (U g 3) (.inl h) u3
def Vs.pw{base:Nat}{E:Int->Ep}(h:Vs base w p bm n E jt M vi t)(y:gL (λx=>x=g) w w'){i:TypeId}(j:w.heap[g]?=some (im cs i (0,0)))(A:i≠5)(F:p≠g):Vs base w' p bm n E jt M vi t:=
 h.only y λb e=>by subst e;refine⟨Ne.symm F,h.mp.ne j,λcs f e=>?_⟩;rw[j]at e;simp only[aJ,Obj.cells.injEq]at e;exact A e.2.1
abbrev GX(p0:World):=p0.alloc (im kx 222)
theorem Bf(base p bm n)(E)(jt)(M)(vi)(t)(e b)(w)(h:Vs base w p bm n E jt M vi t)(he:(Lit.int .i64 e).wf=true)(L:e<1\/b<1\/b<=(E e).pr):iB 180 #[O p,I e,I b] w λen w'=>en=gX (lJ 6 (E e).pr 0 OO)/\Vs base w' p bm n E jt M vi t/\Bl w w':=by
 obtain⟨vv,hM,P,V⟩:=h.ep e;obtain⟨Y,Z,rfl⟩:∃a c,vv=gN a (E e).val.length c:=by obtain⟨a',c',e'⟩:=(i7 P).len;rw[jh P]at e';exact⟨a',c',e'⟩
 have hp:=h.lt;have c0:=h.c0;have bA:=gP ((Bl.refl w).alloc (im kx 222));have y:=(h.mp.bl bA).qq e he;rw[hM]at y;unfold kx at y;have H:=gP h;clear h P V hM;have a0:=gP L;generalize (E e).pr=pr at*;generalize (E e).ba=ba at*;generalize (E e).val.length=vl at*;have HR:Hid (∀W,_):=λW=>ye pr ba Y vl Z W;let⟨bB,HN⟩:=gO (bA.alloc (im #[I pr,I ba,gN Y vl Z] 311)) (ao w (im kx 222));have fin:Hid (∀w2,Bl ((GX w).alloc (im #[I pr,I ba,gN Y vl Z] 311)) w2->w2.heap[w.heap.size]?=some (im kx 222 (0,0))):=λw2 h2=>(h2.heap ig).H ((fJ (GX w) _ w.heap.size gG).H HN);by_cases h1:e<1
 case' neg=>
  by_cases h2:b<1
  case neg=>have h3:b<=pr:=C;clear L;go_enter func180,ntmps180;go_wp2_with fail;refine gT (HR _) λw2 j=>?_;have i:=fin w2 j;have lN:w.heap.size<w2.heap.size:=(ae.1 i).1;let⟨n0,n1,n2,n3,f0,f1,f2,f3⟩:=nU i;let⟨Q,A⟩:=gO i (bB.H j);clear i j;go_wp2;have F:=gL.Ih (w:=w2) (S:=λb=>b=w.heap.size) rfl (I 6) (I pr) (I 0) OO;exact aG (v:=lJ 6 pr 0 OO) (by simp[results,results180,go_sem,lJ,n0,n1,n2,n3]) rfl ⟨rfl,(H.bl A).pw F Q gF C,A.A F λn e=>C⟩
 all_goals
  clear L;go_enter func180,ntmps180;go_wp2_with fail;refine gT (HR _) λw2 j=>?_;have i:=fin w2 j;have lN:w.heap.size<w2.heap.size:=(ae.1 i).1;let⟨n0,n1,n2,n3,f0,f1,f2,f3⟩:=nU i;let⟨Q,A⟩:=gO i (bB.H j);clear i j;go_wp2;have F:=gL.Ih (w:=w2) (S:=λb=>b=w.heap.size) rfl (I 6) (I pr) (I 0) OO;exact aG (v:=lJ 6 pr 0 OO) (by simp[results,results180,go_sem,lJ,n0,n1,n2,n3]) rfl ⟨rfl,(H.bl A).pw F Q gF C,A.A F λn e=>C⟩
theorem uj(base p bm n)(E)(jt)(M)(vi)(t)(e b)(w)(h:Vs base w p bm n E jt M vi t)(hb:base<=w.heap.size)(hl:jt.length<=1000000000000)(hn:n<=1000000000000)(he:(Lit.int .i64 e).wf=true)(al:(E e).val.length<=255)(h1:1<=e)(h2:1<=b)(h3:(E e).pr<b):iB 180 #[O p,I e,I b] w λen w'=>∃M' y v',en=gX (lJ 1 b (E e).ba v')/\w'.ownsRow w.heap.size 5 1 v' (E e).val.length ((E e).val.map B8)/\Vs base w' p bm (n+1) (mS E e ⟨b,(E e).ba,(E e).val⟩) (jt++iV 1 [e,b] []) M' y t/\ui p bm M vi M' y w w'/\∀g,v'.ownBlock=some g->¬Dj M' y g:=by
 obtain⟨vv,hM,V,a3⟩:=h.ep e;obtain⟨va,vc,rfl⟩:∃a c,vv=gN a (E e).val.length c:=by obtain⟨a',c',e'⟩:=(i7 V).len;rw[jh V]at e';exact⟨a',c',e'⟩
 have hp:=h.lt;have c0:=h.c0;have bA:=gP ((Bl.refl w).alloc (im kx 222));have A:=(h.mp.bl bA).qq e he;rw[hM]at A;unfold kx at A;have HP:Hid (∀W,Bl w W->_):=λW hW=>Ez base p bm n E jt M vi t e b C W (h.bl hW) (aF hb hW.lt) hl hn he;let⟨H,HV,HA⟩:=iz h V a3;clear h V a3 hM;generalize mS E e ⟨b,(E e).ba,(E e).val⟩=E' at*;generalize jt++iV 1 [e,b] []=ak at*;generalize (E e).pr=pr at*;generalize (E e).ba=ba at*;generalize (E e).val=j at*;let⟨bB,HN⟩:=gO (bA.alloc (im #[I pr,I ba,gN va j.length vc] 311)) (ao w (im kx 222));let⟨ab,HX⟩:=gO ((fJ (GX w) (im #[I pr,I ba,gN va j.length vc] 311) w.heap.size gG).H HN) (ao (GX w) (im #[I pr,I ba,gN va j.length vc] 311));rw[show(GX w).heap.size=w.heap.size+1 from by simp]at HX;have a4:=gP (HP _ bB);have a5:Hid (∀g,w.heap.size<=g->¬(g=p\/g=bm\/vi.ownBlock=some g)):=by
  rintro g hg (e|e|e)
  .omega
  .have:=H.mp.lt;omega
  have:=(H.ie.lt _ e).2;omega
 have am:¬e<1:=C;have an:¬b<1:=C;have ap:¬b<=pr:=C;go_enter func180,ntmps180;go_wp2_with fail;refine a4.L ?_;rintro en w2⟨M',y,rfl,a6,P⟩;have Y:=(P.only.block w.heap.size ig (a5 _ jl)).H ab;have Z:=(P.only.block (w.heap.size+1) gG (a5 _ C)).H HX;have Q:w.heap.size<w2.heap.size:=(ae.1 Y).1;have lX:w.heap.size+1<w2.heap.size:=(ae.1 Z).1;have ac:=gP Y;have x1:w2.cell? (U (w.heap.size+1) 1)=some (I ba):=by rw[ax _ _ 1 _ 311 (0,0) Z];rfl
 have x2:w2.cell? (U (w.heap.size+1) 2)=some (lF va j vc):=by rw[ax _ _ 2 _ 311 (0,0) Z];rfl
 have a7:=gP (H.bl bB);have a0:=(iT bB).iX HV λ_ _ e=>e;have ad:=gP (P.only.iX a0 λg e1 e2=>by
  obtain e2|e2|e2:=e2
  .exact a7.I4 a0 (jS e1 e2)
  .exact a7.mp.oF a0 (jS e1 e2)
  .exact HA g e1 e2)
 let⟨a8,ag⟩:=gO a6 (P.D bB);let⟨n0,n1,n2,n3,f0,f1,f2,f3⟩:=nU Y;have HC:Hid (∀W,Bl w2 W->iB 87 #[gN va j.length vc] W λen w3=>∃ua uc,en=gX (lF ua j uc)/\Bl w2 w3/\w3.ownsRow w2.heap.size 5 1 (lF ua j uc) j.length (j.map B8)):=by
  intro W hW;refine(oS (lF va j vc) j W ((mH ad).bl hW) C).L ?_;rintro en w3⟨u,rfl,ai,hu⟩;obtain⟨ua,uc,rfl⟩:∃a c,u=gN a j.length c:=by obtain⟨a',c',e'⟩:=(i7 hu).len;rw[jh hu]at e';exact⟨a',c',e'⟩
  exact⟨ua,uc,rfl,hW.H ai,gZ hu λg e=>aF hW.lt (hu.lt g e).1⟩
 clear Y Z a0 a6 P a4;go_wp2_with fail;go_region_held3(λW=>W.cell? (U (w.heap.size+1) 1)=some (I ba)/\W.cell? (U (w.heap.size+1) 2)=some (lF va j vc)/\w2.heap.size<=W.heap.size/\True) (first|go_keep|(simp only[ZU,ZS];trivial))
  (first|(go_at_call 87;refine(HC _ (by exact jC.drewN _)).L ?_;rintro en w3⟨ua,uc,rfl,i,a9⟩;have y1:=(i.cell (o:=1) lX).H x1;have y2:=(i.cell (o:=2) lX).H x2;have l3:=i.lt;have m0:=(i.cell (o:=0) Q).H n0;have m1:=(i.cell (o:=1) Q).H n1;have m2:=(i.cell (o:=2) Q).H n2;have m3:=(i.cell (o:=3) Q).H n3;have k0:=(i.frozen (o:=0) Q).H f0;have k1:=(i.frozen (o:=1) Q).H f1;have k2:=(i.frozen (o:=2) Q).H f2;have k3:=(i.frozen (o:=3) Q).H f3;let⟨a1,a2⟩:=gO i a9;clear i a9))
 all_goals
  go_wp2;have aa:w3.heap[w.heap.size]?=some (im kx 222 (0,0)):=(a1.heap Q).H ac;have F:=gL.Ih (w:=w3) (S:=λb=>b=w.heap.size) rfl (I 1) (I b) (I ba) (lF ua j uc);have hu:=gZ (base':=w.heap.size) a2 λg e=>aF (eS Q) (a2.lt g e).1;exact aG (v:=lJ 1 b ba (lF ua j uc)) (by simp[results,results180,go_sem,lJ,m0,m1,m2,m3]) rfl ⟨M',y,_,rfl,F.iX hu λg e e'=>gY hu aa gF (jS e e'),(a8.bl a1).pw F aa gF C,(ag.post a1).Et F λg e=>cY e.symm,λg e hF=>by have:=(a2.lt g e).1;have:=(a8.wT hF).2;omega⟩
section
theorem pL(ys):(jq ys).data.toList=ys.map (λn=>UInt8.ofNat n.toNat):=by
 have h:∀(ys:List Int) (r:ByteArray),(ys.foldl (λr n=>r.push (UInt8.ofNat n.toNat)) r).data.toList=r.data.toList++ys.map (λn=>UInt8.ofNat n.toNat):=by
  intro ys;induction ys with
  |nil=>intro r;simp
  |cons y ys i=>intro r;rw[dF,i];simp[ByteArray.push]
 have:=h ys ByteArray.empty;unfold jq;rw[this];rfl
theorem uI:∀{xs ys:List Int},(∀d∈xs,0<=d/\d<=255)->(∀d∈ys,0<=d/\d<=255)->(jq xs).toList=(jq ys).toList->xs=ys:=by
 intro xs ys A F h;have i:xs.map (λn:Int=>UInt8.ofNat n.toNat)=ys.map (λn=>UInt8.ofNat n.toNat):=by rw[<-pL,<-pL,<-ey,<-ey,h]
 clear h;induction xs generalizing ys with
 |nil=>
  cases ys with
  |nil=>rfl
  |cons y ys=>simp at i
 |cons x xs H=>
  cases ys with
  |nil=>simp at i
  |cons y ys=>simp only[bj,List.cons.injEq]at i;have e:=Z5 UInt8.toNat i.1;simp only[UInt8.toNat_ofNat']at e;have L:=A x (aN ..);have P:=F y (aN ..);rw[H (λd j=>A d (aX _ j)) (λd j=>F d (aX _ j)) i.2];congr 1;omega
theorem Eo(u v)(xs ys:List Int)(w)(j:Sl w u (xs.map B8))(y:Sl w v (ys.map B8))(A:∀d∈xs,0<=d/\d<=255)(F:∀d∈ys,0<=d/\d<=255)(i:xs≠ys):iB 231 #[u,v] w λe w'=>e=gX (.bool false)/\w'=w:=by
 obtain⟨a,c,e⟩:=j.len;obtain⟨V,c',e'⟩:=y.len;have H:=kX u xs w j;have L:=kX v ys w y;have P:¬(jq xs).toList=(jq ys).toList:=λh=>i (uI A F h);subst e e';simp only[ay]at H L|-;generalize jq xs=Y at*;generalize jq ys=Q at*;clear j y A F i;go_enter func231,ntmps231;go_wp2;go_ret;exact⟨lE (nN P),rfl⟩
open Go.RowKit Go.Maps
attribute [local go_sem ↓] Go.wp_at_zero Go.wp_at_succ
theorem D4(base p bm n)(E)(jt)(M)(vi)(t)(e b)(ua)(Q uc:Nat)(w)(h:Vs base w p bm n E jt M vi t)(he:(Lit.int .i64 e).wf=true)(a3:(Q:Int)<=9223372036854775807)(V:e<1\/b<1\/b<(E e).pr\/¬(1<=Q/\Q<=255)):iB 182 #[O p,I e,I b,gN ua Q uc] w λen w'=>en=gX (lJ 6 (E e).pr 0 OO)/\Vs base w' p bm n E jt M vi t/\Bl w w':=by
 obtain⟨vv,hM,Y,a4⟩:=h.ep e;obtain⟨va,vc,rfl⟩:∃a c,vv=gN a (E e).val.length c:=by obtain⟨a',c',e'⟩:=(i7 Y).len;rw[jh Y]at e';exact⟨a',c',e'⟩
 have hp:=h.lt;have c0:=h.c0;have bA:=gP ((Bl.refl w).alloc (im kx 222));have y:=(h.mp.bl bA).qq e he;rw[hM]at y;unfold kx at y;have H:=gP h;clear h Y a4 hM;generalize (E e).pr=A at*;generalize (E e).ba=ba at*;generalize (E e).val.length=vl at*;have HR:Hid (∀W,_):=λW=>ye A ba va vl vc W;have a1:Hid (∀W,_):=λW=>qF ua Q uc W a3;let⟨bB,HN⟩:=gO (bA.alloc (im #[I A,I ba,gN va vl vc] 311)) (ao w (im kx 222));have fin:Hid (∀w2,Bl ((GX w).alloc (im #[I A,I ba,gN va vl vc] 311)) w2->w2.heap[w.heap.size]?=some (im kx 222 (0,0))):=λw2 h2=>(h2.heap ig).H ((fJ (GX w) _ w.heap.size gG).H HN);by_cases h1:e<1
 case' neg=>
  by_cases h2:b<1
  case' neg=>
   by_cases h3:b<A
   case neg=>
    have h4:decide (1<=Q/\Q<=255)=false:=by obtain h|h|h|h:=V;omega;omega;omega;simp;omega
    rw[h4]at a1;clear V h4;go_enter func182,ntmps182;go_wp2_with fail;refine gT (a1 _) λw1 Z=>?_;have L:w1.heap[w.heap.size+1]?=some (im #[I A,I ba,gN va vl vc] 311 (0,0)):=by have:=ao (GX w) (im #[I A,I ba,gN va vl vc] 311);rw[show(GX w).heap.size=w.heap.size+1 from by simp]at this;exact(Z.heap gG).H this
    have lX:w.heap.size+1<w1.heap.size:=(ae.1 L).1;have x0:w1.cell? (U (w.heap.size+1) 0)=some (I A):=by rw[ax _ _ 0 _ 311 (0,0) L];rfl
    have x1:w1.cell? (U (w.heap.size+1) 1)=some (I ba):=by rw[ax _ _ 1 _ 311 (0,0) L];rfl
    have x2:w1.cell? (U (w.heap.size+1) 2)=some (gN va vl vc):=by rw[ax _ _ 2 _ 311 (0,0) L];rfl
    have a2:=gP Z;clear Z L;go_wp2_with fail;refine gT (HR _) λw2 j=>?_;have i:=fin w2 (a2.H j);have lN:w.heap.size<w2.heap.size:=(ae.1 i).1;let⟨n0,n1,n2,n3,f0,f1,f2,f3⟩:=nU i;let⟨a0,P⟩:=gO i (bB.H (a2.H j));clear i j;go_wp2;have F:=gL.Ih (w:=w2) (S:=λb=>b=w.heap.size) rfl (I 6) (I A) (I 0) OO;exact aG (v:=lJ 6 A 0 OO) (by simp[results,results182,go_sem,lJ,n0,n1,n2,n3]) rfl ⟨rfl,(H.bl P).pw F a0 gF C,P.A F λn e=>C⟩
 all_goals
  clear V;go_enter func182,ntmps182;go_wp2_with fail;refine gT (HR _) λw2 j=>?_;have i:=fin w2 (j);have lN:w.heap.size<w2.heap.size:=(ae.1 i).1;let⟨n0,n1,n2,n3,f0,f1,f2,f3⟩:=nU i;let⟨a0,P⟩:=gO i (bB.H (j));clear i j;go_wp2;have F:=gL.Ih (w:=w2) (S:=λb=>b=w.heap.size) rfl (I 6) (I A) (I 0) OO;exact aG (v:=lJ 6 A 0 OO) (by simp[results,results182,go_sem,lJ,n0,n1,n2,n3]) rfl ⟨rfl,(H.bl P).pw F a0 gF C,P.A F λn e=>C⟩
theorem rV(base p bm n)(E)(jt)(M)(vi)(t)(e b)(v)(ys)(w)(h:Vs base w p bm n E jt M vi t)(hb:base<=w.heap.size)(hl:jt.length<=1000000000000)(hn:n<=1000000000000)(he:(Lit.int .i64 e).wf=true)(hv:Bs w v (ys.map B8))(aq:1<=ys.length)(hy:ys.length<=255)(Z:∀g,v.ownBlock=some g->g<w.heap.size/\vi.ownBlock≠some g/\g≠bm)(a2:∀d∈ys,0<=d/\d<=255)(a3:∀d∈(E e).val,0<=d/\d<=255)(h1:1<=e)(h2:1<=b)(h3:(E e).pr<=b)(hd:b≠(E e).ba\/ys≠(E e).val):iB 182 #[O p,I e,I b,v] w λen w'=>∃M' y,en=gX (lJ 1 b 0 OO)/\Vs base w' p bm (n+1) (mS E e ⟨b,b,ys⟩) (jt++iV 2 [e,b] ys) M' y t/\ui p bm M vi M' y w w':=by
 obtain⟨vv,hM,A,a8⟩:=h.ep e;obtain⟨va,vc,rfl⟩:∃a c,vv=gN a (E e).val.length c:=by obtain⟨a',c',e'⟩:=(i7 A).len;rw[jh A]at e';exact⟨a',c',e'⟩
 have hp:=h.lt;have c0:=h.c0;have bA:=gP ((Bl.refl w).alloc (im kx 222));have i:=(h.mp.bl bA).qq e he;rw[hM]at i;unfold kx at i;obtain⟨ua,uc,Y⟩:=hv.len;rw[ay]at Y;subst Y;let⟨H,HV,HU⟩:=iz h A hv;have a4:Hid (∀W,Bl w W->_):=λW hW=>Gv base p bm n E jt M vi t e b C (lF ua ys uc) ys W (h.bl hW) (aF hb hW.lt) hl hn he (hv.bl hW) hy λg e=>⟨af (Z g e).1 hW.lt,(Z g e).2⟩;clear h A a8 hM Z hv;generalize mS E e ⟨b,b,ys⟩=E' at*;generalize jt++iV 2 [e,b] ys=ap at*;generalize (E e).pr=pr at*;generalize (E e).ba=ba at*;generalize (E e).val=Y at*;have a5:Hid (∀W,iB 230 #[gN ua ys.length uc] W λe w'=>e=gX (.bool true)/\Bl W w'):=λW=>by have:=qF ua ys.length uc W C;rwa[show decide (1<=ys.length/\ys.length<=255)=true by simp;omega]at this
 let⟨bB,HN⟩:=gO (bA.alloc (im #[I pr,I ba,gN va Y.length vc] 311)) (ao w (im kx 222));let⟨a9,HX⟩:=gO ((fJ (GX w) (im #[I pr,I ba,gN va Y.length vc] 311) w.heap.size gG).H HN) (ao (GX w) (im #[I pr,I ba,gN va Y.length vc] 311));rw[show(GX w).heap.size=w.heap.size+1 from by simp]at HX;have aa:Hid (∀g,w.heap.size<=g->¬(g=p\/g=bm\/vi.ownBlock=some g)):=by
  rintro g hg (e|e|e)
  .omega
  .have:=H.mp.lt;omega
  have:=(H.ie.lt _ e).2;omega
 let⟨Hd,ab,ac⟩:=iz hd a2 a3;clear hd a2 a3;have ar:¬e<1:=C;have au:¬b<1:=C;have av:¬b<pr:=C;go_enter func182,ntmps182;go_wp2_with fail;refine gT (a5 _) λw1 P=>?_;have j:=(P.heap gG).H HX;have lX:w.heap.size+1<w1.heap.size:=(ae.1 j).1;have x0:w1.cell? (U (w.heap.size+1) 0)=some (I pr):=by rw[ax _ _ 0 _ 311 (0,0) j];rfl
 have x1:w1.cell? (U (w.heap.size+1) 1)=some (I ba):=by rw[ax _ _ 1 _ 311 (0,0) j];rfl
 have x2:w1.cell? (U (w.heap.size+1) 2)=some (lF va Y vc):=by rw[ax _ _ 2 _ 311 (0,0) j];rfl
 have Q:=gP (bB.H P);have ad:=gP ((P.heap ig).H a9);let⟨ag,ai,a6⟩:=iz ((i7 HV).bl Q) ((HU.sl).bl Q) (a4 w1 Q);clear P j a4 a5;by_cases a0:b=ba;all_goals
  first
  |(have ak:=gP (Hd.resolve_left λq=>q a0);subst a0;go_wp2_with fail;refine(Eo _ _ ys Y w1 ai (by exact ag) ab ac ak).L ?_;rintro en W⟨rfl,rfl⟩)
  |have aw:(b==ba)=false:=iU a0
  go_wp2_with fail;refine a6.L ?_;rintro en w2⟨M',y,rfl,a7,a1⟩;have V:=(a1.only.block w.heap.size C (aa _ jl)).H ad;have lN:w.heap.size<w2.heap.size:=(ae.1 V).1;let⟨n0,n1,n2,n3,f0,f1,f2,f3⟩:=nU V;let⟨al,am,an⟩:=iz V a7 (a1.D Q);clear V a7 a1 a6;go_wp2;have F:=gL.Ih (w:=w2) (S:=λb=>b=w.heap.size) rfl (I 1) (I b) (I 0) OO;exact aG (v:=lJ 1 b 0 OO) (by simp[results,results182,go_sem,lJ,n0,n1,n2,n3]) rfl ⟨M',y,rfl,am.pw F al gF C,an.Et F λg e=>cY e.symm⟩
theorem Aw(base p bm n)(E)(jt)(M)(vi)(t)(e b)(v)(ys)(w)(h:Vs base w p bm n E jt M vi t)(hb:base<=w.heap.size)(hl:jt.length<=1000000000000)(hn:n<=1000000000000)(he:(Lit.int .i64 e).wf=true)(hv:Bs w v (ys.map B8))(a8:1<=ys.length)(hy:ys.length<=255)(Q:∀g,v.ownBlock=some g->g<w.heap.size/\vi.ownBlock≠some g/\g≠bm)(_hys:∀d∈ys,0<=d/\d<=255)(_hev:∀d∈(E e).val,0<=d/\d<=255)(h1:1<=e)(h2:1<=b)(h3:(E e).pr<=b)(a2:b=(E e).ba)(a3:ys=(E e).val):iB 182 #[O p,I e,I b,v] w λen w'=>en=gX (lJ 1 b 0 OO)/\Vs base w' p bm n E jt M vi t/\Bl w w':=by
 obtain⟨vv,hM,A,a4⟩:=h.ep e;obtain⟨va,vc,rfl⟩:∃a c,vv=gN a (E e).val.length c:=by obtain⟨a',c',e'⟩:=(i7 A).len;rw[jh A]at e';exact⟨a',c',e'⟩
 have hp:=h.lt;have c0:=h.c0;have bA:=gP ((Bl.refl w).alloc (im kx 222));have i:=(h.mp.bl bA).qq e he;rw[hM]at i;unfold kx at i;obtain⟨ua,uc,V⟩:=hv.len;rw[ay]at V;subst V;let⟨H,HV,HU⟩:=iz h A hv;have Z:Hid (∀W,Bl w W->_):=λW hW=>Gv base p bm n E jt M vi t e b C (lF ua ys uc) ys W (h.bl hW) (aF hb hW.lt) hl hn he (hv.bl hW) hy λg e=>⟨af (Q g e).1 hW.lt,(Q g e).2⟩;clear _hys _hev;clear h A a4 hM Q hv;generalize (E e).pr=pr at*;generalize (E e).ba=ba at*;generalize (E e).val=V at*;have a0:Hid (∀W,iB 230 #[gN ua ys.length uc] W λe w'=>e=gX (.bool true)/\Bl W w'):=λW=>by have:=qF ua ys.length uc W C;rwa[show decide (1<=ys.length/\ys.length<=255)=true by simp;omega]at this
 let⟨bB,HN⟩:=gO (bA.alloc (im #[I pr,I ba,gN va V.length vc] 311)) (ao w (im kx 222));let⟨a5,HX⟩:=gO ((fJ (GX w) (im #[I pr,I ba,gN va V.length vc] 311) w.heap.size gG).H HN) (ao (GX w) (im #[I pr,I ba,gN va V.length vc] 311));rw[show(GX w).heap.size=w.heap.size+1 from by simp]at HX;have a9:Hid (∀g,w.heap.size<=g->¬(g=p\/g=bm\/vi.ownBlock=some g)):=by
  rintro g hg (e|e|e)
  .omega
  .have:=H.mp.lt;omega
  have:=(H.ie.lt _ e).2;omega
 subst a2;subst a3;have aa:¬e<1:=C;have ab:¬b<1:=C;have ac:¬b<pr:=C;go_enter func182,ntmps182;go_wp2_with fail;refine gT (a0 _) λY P=>?_;have j:=(P.heap gG).H HX;have lX:w.heap.size+1<Y.heap.size:=(ae.1 j).1;have x0:Y.cell? (U (w.heap.size+1) 0)=some (I pr):=by rw[ax _ _ 0 _ 311 (0,0) j];rfl
 have x1:Y.cell? (U (w.heap.size+1) 1)=some (I b):=by rw[ax _ _ 1 _ 311 (0,0) j];rfl
 have x2:Y.cell? (U (w.heap.size+1) 2)=some (lF va ys vc):=by rw[ax _ _ 2 _ 311 (0,0) j];rfl
 have y:=gP (bB.H P);have a1:=gP ((P.heap ig).H a5);let⟨a6,a7,ad⟩:=iz ((i7 HV).bl y) ((HU.sl).bl y) (Z Y y);clear P j Z a0;go_wp2_with fail;refine(B7 _ _ ys Y a7 (by exact a6)).L ?_;rintro en W⟨rfl,rfl⟩;have lN:w.heap.size<W.heap.size:=C;let⟨n0,n1,n2,n3,f0,f1,f2,f3⟩:=nU a1;go_wp2;have F:=gL.Ih (w:=W) (S:=λb=>b=w.heap.size) rfl (I 1) (I b) (I 0) OO;exact aG (v:=lJ 1 b 0 OO) (by simp[results,results182,go_sem,lJ,n0,n1,n2,n3]) rfl ⟨rfl,(H.bl y).pw F a1 gF C,y.A F λn e=>C⟩
end
inductive tK:(Int->Ep)->Rc->(Int->Ep)->Prop
 |prep (E:Int->Ep) (e b:Int) (h1:1<=e) (h2:1<=b) (h3:(E e).pr<b):tK E ⟨1,[e,b],[]⟩ (mS E e ⟨b,(E e).ba,(E e).val⟩)
 |acc (E:Int->Ep) (e b:Int) (ys:List Int) (h1:1<=e) (h2:1<=b) (h3:(E e).pr<=b) (hy1:1<=ys.length) (hy:ys.length<=255) (hys:∀d∈ys,0<=d/\d<=255) (hne:b≠(E e).ba\/ys≠(E e).val):tK E ⟨2,[e,b],ys⟩ (mS E e ⟨b,b,ys⟩)
theorem Jr(base p bm n B)(E E')(r)(jt)(M)(vi)(t)(nv vv)(w)(h:Vs base w p bm n E jt M vi t)(hb:base<=w.heap.size)(hl:jt.length<=1000000000000)(V:n<=1000000000000)(hE:∀e,(E e).val.length<=255/\∀d∈(E e).val,0<=d/\d<=255)(a6:tK E r E')(Y:∀n∈r.ns,(Lit.int .i64 n).wf=true)(j:w.ownsRow B 3 1 nv r.ns.length (r.ns.map I))(Z:w.ownsRow B 5 1 vv r.val.length (r.val.map B8))(a0:∀g,vv.ownBlock=some g->vi.ownBlock≠some g):iB 187 #[O p,.agg #[I r.kd,nv,vv]] w λen w'=>∃M' i,en=iw/\Vs base w' p bm (n+1) E' (jt++r.bytes) M' i t/\gL (λb=>b=p\/b=bm\/vi.ownBlock=some b) w w':=by
 have hp:=h.lt;obtain⟨va,vc,A⟩:=(mH Z).len;rw[ay]at A;have F:=gP (mH Z);have a1:∀g,vv.ownBlock=some g->g<w.heap.size/\vi.ownBlock≠some g/\g≠bm:=λg e=>⟨(Z.lt g e).2,a0 g e,λe'=>h.mp.oF Z (jS e e')⟩;let⟨a2,H⟩:=gO a1 h;clear h Z a0 a1
 cases a6 with
 |prep e b h1 h2 h3=>
  simp only at j F A;have we:=Y e gG;have y:=hE e;obtain⟨g,cap,rfl⟩:=mo j gG;have lg:=(j.lt g rfl).2;have q0:=j.cellAt 0 gG;have q1:=j.cellAt 1 gG;simp only[bj,dh,dx]at q0 q1;have bA:Hid (Bl w (w.alloc (im #[I 1,gN (G g) 2 cap,vv] 320))):=(Bl.refl w).alloc _;have HS:Hid (∀W,Bl w W->_):=λW P=>uj base p bm n E jt M vi t e b W (H.bl P) (aF hb P.lt) hl V we y.1 h1 h2 h3;subst A;simp only[Rc.bytes];clear j hE y;generalize jt++iV 1 [e,b] []=a3 at*;generalize mS E e ⟨b,(E e).ba,(E e).val⟩=E' at*;generalize (E e).ba=ba at*;generalize (E e).val=A at*;go_enter func187,ntmps187;go_wp2_with fail;go_quiet(fail);go_wp2_with fail;refine(HS _ (by exact bA.drewN _)).L ?_;rintro e1 w1⟨M',i,v',rfl,Q,hk,ho,_⟩;let⟨HK,HO⟩:=gO hk ho;obtain⟨sa,sc,rfl⟩:∃a c,v'=gN a A.length c:=by obtain⟨a',c',e'⟩:=(i7 Q).len;rw[jh Q]at e';exact⟨a',c',e'⟩
  clear hk ho Q;unfold lJ;go_wp2;go_end0;exact⟨M',i,rfl,HK,(gL.B (bA.drewN _)).H HO.only⟩
 |acc e b ys h1 h2 h3 a7 hy a8 a4=>
  simp only at j F A;have we:=Y e gG;have y:=hE e;obtain⟨g,cap,rfl⟩:=mo j gG;have lg:=(j.lt g rfl).2;have q0:=j.cellAt 0 gG;have q1:=j.cellAt 1 gG;simp only[bj,dh,dx]at q0 q1;have bA:Hid (Bl w (w.alloc (im #[I 2,gN (G g) 2 cap,vv] 320))):=(Bl.refl w).alloc _;have HS:Hid (∀W,Bl w W->iB 182 #[O p,I e,I b,vv] W λen w'=>∃M' i,en=gX (lJ 1 b 0 OO)/\Vs base w' p bm (n+1) (mS E e ⟨b,b,ys⟩) (jt++iV 2 [e,b] ys) M' i t/\ui p bm M vi M' i W w'):=λW P=>by
   have a5:∀g,vv.ownBlock=some g->g<W.heap.size/\vi.ownBlock≠some g/\g≠bm:=λg e=>⟨af (a2 g e).1 P.lt,(a2 g e).2⟩;by_cases a9:b=(E e).ba;iterate 2
    .exact rV base p bm n E jt M vi t e b vv ys W (H.bl P) (aF hb P.lt) hl V we (F.bl P) a7 hy a5 a8 y.2 h1 h2 h3 a4
  subst A;simp only[Rc.bytes];clear j hE y a4 h3;generalize jt++iV 2 [e,b] ys=a3 at*;generalize mS E e ⟨b,b,ys⟩=E' at*;go_enter func187,ntmps187;go_wp2_with fail;go_quiet(fail);go_wp2_with fail;refine(HS _ (by exact bA.drewN _)).L ?_;rintro e1 w1⟨M',i,rfl,hk,ho⟩;let⟨HK,HO⟩:=gO hk ho;clear hk ho;unfold lJ;go_wp2;go_end0;exact⟨M',i,rfl,HK,(gL.B (bA.drewN _)).H HO.only⟩
end Go.Proofs.YtbghhbpacijmmaaGreat
