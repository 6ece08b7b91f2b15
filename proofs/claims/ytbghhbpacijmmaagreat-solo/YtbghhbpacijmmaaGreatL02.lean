import Derived.Test.YtbghhbpacijmmaaGreatL01
open Go.Proofs.Tryz
namespace Go.Proofs.YtbghhbpacijmmaaGreat
set_option maxRecDepth 99999
set_option maxHeartbeats 0
set_option linter.defProp false
open Go.RowKit Go.Maps
attribute [local go_sem ↓] Go.wp_at_zero Go.wp_at_succ
variable {M M':Int->Value} {w w' W:World} {iT ys:List Int} {vi:Value} {t e:TypeId} {n p g bm b k:Nat} {xs:List Value} {S T:Nat->Prop} {cs:Array Value} {ct:Nat->Ct} {K:Nat->Value} {rs:List Rc} {J:World->Nat->World->Prop} {ch mk a c d kd:Int}
section
def jQ(a b c d ch mk:Int)(ct:Nat->Ct)(x:Int):Int×Int×Ct:=
 if(n9 a b c d x).2.2≠0\/(n9 a b c d x).1≠ch then(6,0,⟨0,0,0,[]⟩)
 else if x<mk then(4,mk,{ct (n9 a b c d x).2.1.toNat with val:=[]})
 else if(ct (n9 a b c d x).2.1.toNat).kd=0 then(3,0,⟨0,0,0,[]⟩)
 else(2,0,ct (n9 a b c d x).2.1.toNat)
def uL{b x:Int}(h:(n9 a b c d x).2.2=0):∃i:Nat,i<16/\n9 a b c d x=((n9 a b c d x).1,(i:Int),0):=by
 unfold n9 at h|-;by_cases j:mI a b c d=true
 .rw[aE j]at h|-;by_cases A:x<0\/a*d<=x
  .rw[aE A]at h;simp at h
  rw[az A];obtain⟨F,H,L,D⟩:=rY j;have P:x/a<16:=by refine gp C ?_;have:=Int.mul_le_mul_of_nonneg_left D (show 0<=a by omega);omega
  have y:0<=x/a:=fC C C;refine⟨(x/a).toNat,C,?_⟩;rw[gE y]
 rw[az j]at h;simp at h
def kX:Array Value:=#[I 0,I 0,I 0,I 0,I 0,I 0,OO]
def kt(h:w.heap[g]?=some (gO kX 215 (0,0))):w.cell? (U g 0)=some (I 0)/\w.cell? (U g 1)=some (I 0)/\w.cell? (U g 2)=some (I 0)/\w.cell? (U g 3)=some (I 0)/\w.cell? (U g 4)=some (I 0)/\w.cell? (U g 5)=some (I 0)/\w.cell? (U g 6)=some OO/\w.frozen? (U g 0)=false/\w.frozen? (U g 1)=false/\w.frozen? (U g 2)=false/\w.frozen? (U g 3)=false/\w.frozen? (U g 4)=false/\w.frozen? (U g 5)=false/\w.frozen? (U g 6)=false:=by
 refine⟨?_,?_,?_,?_,?_,?_,?_,?_,?_,?_,?_,?_,?_,?_⟩;all_goals first|exact aP w g _ _ 215 h|(rw[ax w g _ _ 215 _ h];rfl)
def bz.sf(i:S g)(u0 u1 u2 u3 u4 u5 u6):bz S w (((((((w.setCell (U g 0) u0).setCell (U g 1) u1).setCell (U g 2) u2).setCell (U g 3) u3).setCell (U g 4) u4).setCell (U g 5) u5).setCell (U g 6) u6):=
 (((((((bz.refl S w).setCell (U g 0) (.inl i) u0).setCell (U g 1) (.inl i) u1).setCell (U g 2) (.inl i) u2).setCell (U g 3) (.inl i) u3).setCell (U g 4) (.inl i) u4).setCell (U g 5) (.inl i) u5).setCell (U g 6) (.inl i) u6
theorem vG(base p)(a b c d ch ep mk)(ct)(iT)(K)(x)(w)(h:Ks base w p a b c d ch ep mk ct iT K)(hl:∀i,i<16->(ct i).val.length<=255):ib 224 #[O p,I x] w λe w'=>∃v',e=gG (jr (jQ a b c d ch mk ct x).1 0 (jQ a b c d ch mk ct x).2.1 (jQ a b c d ch mk ct x).2.2.kd (jQ a b c d ch mk ct x).2.2.cl (jQ a b c d ch mk ct x).2.2.ca v')/\w'.ownsRow w.heap.size 5 1 v' (jQ a b c d ch mk ct x).2.2.val.length ((jQ a b c d ch mk ct x).2.2.val.map B8)/\Bl w w':=by
 obtain⟨H,Hl⟩:=fl h hl;have Q:=h.f.lt;have c0:=h.f.cell 0 au;have c1:=h.f.cell 1 au;have c2:=h.f.cell 2 au;have c3:=h.f.cell 3 au;have V:=h.f.cell 4 au;have c6:=h.f.cell 6 au;rw[h.k0]at c0;rw[h.k1]at c1;rw[h.k2]at c2;rw[h.k3]at c3;rw[h.k4]at V;rw[h.k6]at c6;clear h hl;by_cases A:(n9 a b c d x).2.2≠0\/(n9 a b c d x).1≠ch
 .have F:Hid (jQ a b c d ch mk ct x=(6,0,⟨0,0,0,[]⟩)):=by unfold Hid jQ;rw[aE A]
  rw[F.o];have a0:Hid (((n9 a b c d x).2.2==0)=false\/((n9 a b c d x).2.2==0)=true/\((n9 a b c d x).1==ch)=false):=by
   unfold Hid;by_cases h0:(n9 a b c d x).2.2=0
   .right;simp[h0];obtain h|h:=A
    .exact absurd h0 h
    exact h
   left;simpa using h0
  clear A;go_enter func224,ntmps224;go_wp2_with fail;refine(kM a b c d x _).L ?_;unfold I4;generalize n9 a b c d x=l at*;obtain⟨l1,l2,l3⟩:=l;rintro e w'⟨rfl,j⟩;simp only at a0|-;have d4:=(j.cell (b:=p) (o:=4) gM).H ((((Bl.refl w).alloc _).cell Q).H V);obtain⟨Y,Z,n2,n3,n4,n5,n6,f0,f1,f2,f3,f4,f5,f6⟩:=kt ((j.heap aq).H (ao w (gO kX 215)));have D:=fu (((Bl.refl w).alloc _).H j);clear j c0 c1 c2 c3 V c6;obtain hz|⟨hz,hy⟩:=a0.o;all_goals
   clear a0;go_wp2
  all_goals
   exact aG (v:=jr 6 0 0 0 0 0 OO) (by simp[results,results224,go_sem,jr,Y,Z,n2,n3,n4,n5,n6]) rfl ⟨_,rfl,mC,D.B (bz.sf (S:=λb=>b=w.heap.size) rfl _ _ _ _ _ _ _) λn e=>cY e.symm⟩
 have h0:(n9 a b c d x).2.2=0:=by
  obtain h|h:=Int.decEq (n9 a b c d x).2.2 0
  .exact absurd (.inl h) A
  exact h
 have a2:(n9 a b c d x).1=ch:=by
  obtain h|h:=Int.decEq (n9 a b c d x).1 ch
  .exact absurd (.inr h) A
  exact h
 obtain⟨i,hi,y⟩:=uL h0;rw[a2]at y;have F:Hid (jQ a b c d ch mk ct x=if x<mk then(4,mk,{ct i with val:=[]})else if(ct i).kd=0 then(3,0,⟨0,0,0,[]⟩)else(2,0,ct i)):=by unfold Hid jQ;rw[az A,y];simp
 have q0:=(H.f.cell (7+4*i) C).H (Z5 some (H.kd i hi));have q1:=(H.f.cell (8+4*i) C).H (Z5 some (H.cl i hi));have q2:=(H.f.cell (9+4*i) C).H (Z5 some (H.ca i hi));have q3:=H.f.cell (10+4*i) C;rw[show 7+4*i=7+i*4 by omega]at q0;rw[show 8+4*i=7+i*4+1 by omega]at q1;rw[show 9+4*i=7+i*4+2 by omega]at q2;have a3:10+4*i=7+i*4+3:=C;have Hv:=fu (mi (H.val i hi));obtain⟨va,vc,ev⟩:=Hv.len;rw[ay]at ev;rw[ev]at q3 Hv;rw[a3]at q3;have a4:=fu (Hl i hi);clear A h0 a2 ev a3;rw[F.o];clear F;generalize ct i=t at*;obtain⟨tk,tl,ta,tv⟩:=t;simp only at a4 Hv q0 q1 q2 q3|-;by_cases hx:x<mk
 .rw[aE hx];simp only;go_enter func224,ntmps224;go_wp2_with fail;refine(kM a b c d x _).L ?_;rw[y];unfold I4;rintro e w'⟨rfl,j⟩;have D:=fu (((Bl.refl w).alloc _).H j);obtain⟨d4,d6,r0⟩:=D.F Q V c6 q0;obtain⟨r1,r2,r3⟩:=D.F Q q1 q2 q3;have HN:=fu ((j.heap aq).H (ao w (gO kX 215)));have lN:w.heap.size<w'.heap.size:=(ae.1 HN).1;have lP:p<w'.heap.size:=eR Q lN;clear j c0 c1 c2 c3 V c6 q0 q1 q2 q3 y;have a5:(i:Int)<16:=C;obtain⟨Y,Z,n2,n3,n4,n5,n6,f0,f1,f2,f3,f4,f5,f6⟩:=kt HN;go_wp2;go_region;all_goals
   go_wp2
  all_goals
   exact aG (v:=jr 4 0 mk tk tl ta OO) (by simp[results,results224,go_sem,jr,Y,Z,n2,n3,n4,n5,n6,lN]) rfl ⟨_,rfl,mC,by first|exact((D.B (bz.sf (S:=λb=>b=w.heap.size) rfl _ _ _ _ _ _ _) λn e=>cY e.symm).alloc _).drew|exact((D.B (bz.sf (S:=λb=>b=w.heap.size) rfl _ _ _ _ _ _ _) λn e=>cY e.symm).alloc _).drewN _⟩
 rw[az hx];by_cases hk:tk=0
 .rw[aE hk];subst hk;simp only;go_enter func224,ntmps224;go_wp2_with fail;refine(kM a b c d x _).L ?_;rw[y];unfold I4;rintro e w'⟨rfl,j⟩;have D:=fu (((Bl.refl w).alloc _).H j);obtain⟨d4,d6,r0⟩:=D.F Q V c6 q0;obtain⟨r1,r2,r3⟩:=D.F Q q1 q2 q3;have HN:=fu ((j.heap aq).H (ao w (gO kX 215)));have lN:w.heap.size<w'.heap.size:=(ae.1 HN).1;have lP:p<w'.heap.size:=eR Q lN;clear j c0 c1 c2 c3 V c6 q0 q1 q2 q3 y;have a5:(i:Int)<16:=C;obtain⟨Y,Z,n2,n3,n4,n5,n6,f0,f1,f2,f3,f4,f5,f6⟩:=kt HN;go_wp2;exact aG (v:=jr 3 0 0 0 0 0 OO) (by simp[results,results224,go_sem,jr,Y,Z,n2,n3,n4,n5,n6,lN]) rfl ⟨_,rfl,mC,(D.B (bz.sf (S:=λb=>b=w.heap.size) rfl _ _ _ _ _ _ _) λn e=>cY e.symm).alloc _⟩
 rw[az hk];have ac:(tk==0)=false:=iG hk;clear hk;simp only;go_enter func224,ntmps224;go_wp2_with fail;refine(kM a b c d x _).L ?_;rw[y];unfold I4;rintro e w'⟨rfl,j⟩;have D:=fu (((Bl.refl w).alloc _).H j);obtain⟨d4,d6,r0⟩:=D.F Q V c6 q0;obtain⟨r1,r2,r3⟩:=D.F Q q1 q2 q3;have HN:=fu ((j.heap aq).H (ao w (gO kX 215)));have lN:w.heap.size<w'.heap.size:=(ae.1 HN).1;have lP:p<w'.heap.size:=eR Q lN;clear j c0 c1 c2 c3 V c6 q0 q1 q2 q3 y;have a5:(i:Int)<16:=C;obtain⟨Y,Z,n2,n3,n4,n5,n6,f0,f1,f2,f3,f4,f5,f6⟩:=kt HN;have bA:=fu ((Bl.refl w').alloc (gO (qe tk tl ta va tv vc) 91));go_wp2_with fail;refine(ze tk tl ta _ tv _ ((Hv.bl D).bl bA) (gI a4.o)).L ?_;rintro e w2⟨v',rfl,a1,P⟩;obtain⟨a6,a7,ev⟩:∃a c,v'=dk a tv.length c:=by obtain⟨a',c',e'⟩:=(iC P).len;rw[iF P]at e';exact⟨a',c',e'⟩
 subst ev;obtain⟨a8,aa,lw⟩:=gV (((bA.H a1).heap lN).H HN) (D.H (bA.H a1)) (aF (eS lN) bA.lt);have a9:=fu (gL (base':=w.heap.size) P λb ab=>aF lw (P.lt b ab).1);clear Y Z n2 n3 n4 n5 n6 f0 f1 f2 f3 f4 f5 f6 a1 P bA;obtain⟨Y,Z,n2,n3,n4,n5,n6,f0,f1,f2,f3,f4,f5,f6⟩:=kt a8;go_wp2;have F:=bz.sf (w:=w2) (S:=λb=>b=w.heap.size) rfl (I 2) (I 0) (I 0) (I tk) (I tl) (I ta) (lI a6 tv a7);exact aG (v:=jr 2 0 0 tk tl ta (lI a6 tv a7)) (by simp[results,results224,go_sem,jr,Y,Z,n2,n3,n4,n5,n6]) rfl ⟨_,rfl,F.iJ a9 λb hb e=>gJ a9 a8 au (j4 hb e),aa.B F λn e=>cY e.symm⟩
open Go.RowKit
attribute [local go_sem ↓] Go.wp_at_zero Go.wp_at_succ
def Ks.bl{base:Nat}{b y:Int}(h:Ks base w p a b c d ch y mk ct iT K)(j:Bl w w'):Ks base w' p a b c d ch y mk ct iT K:=
 ⟨h.f.bl j,h.k0,h.k1,h.k2,h.k3,h.k4,h.k5,h.k6,(bz.E j).iJ h.gZ λ_ _ e=>e,h.kd,h.cl,h.ca,λi A=>(iD j).iJ (h.val i A) λ_ _ e=>e,h.lM⟩
def Ks.B{base:Nat}{b A:Int}(h:Ks base w p a b c d ch A mk ct iT K)(j:bz (λx=>x=g) w w')(D:w.heap[g]?=some (gO cs 215 (0,0)))(H:p≠g):Ks base w' p a b c d ch A mk ct iT K:=
 ⟨h.f.only j H,h.k0,h.k1,h.k2,h.k3,h.k4,h.k5,h.k6,j.iJ h.gZ λb e y=>gJ h.gZ D au (j4 e y),h.kd,h.cl,h.ca,λi F=>j.iJ (h.val i F) λb e y=>gJ (h.val i F) D au (j4 e y),h.lM⟩
def bz.wu{a b c:World}(h:bz S a b)(k:bz T b c)(y:∀n,T n->a.heap.size<=n):bz S a c:=
 ⟨k.os.H h.os,k.tape.H h.tape,k.output.H h.output,aF h.size k.size,λi j A=>by rw[k.block i (af j h.size) λe=>by have:=y i e;omega,h.block i j A]⟩
theorem Ed(base p)(a b c d ch ep mk)(ct)(iT)(K)(ep')(w)(h:Ks base w p a b c d ch ep mk ct iT K)(hb:base<=w.heap.size)(hl:iT.length<=1000000000000):ib 178 #[O p,I ep'] w λe w'=>∃D,e=gG (if ep'<ep then jr 5 ep 0 0 0 0 OO else jr 1 ep' 0 0 0 0 OO)/\Ks base w' p a b c d ch (if ep'<ep then ep else ep') mk ct (if ep'<ep\/ep'=ep then iT else iT++iB 1 [ep'] []) D/\Gk p K D w w':=by
 have H:=fu h;have hp:=h.f.lt;have c5:=h.f.cell 5 au;rw[h.k5]at c5;clear h;obtain⟨A,HN⟩:=fl ((Bl.refl w).alloc (gO kX 215)) (ao w (gO kX 215));by_cases L:ep'<ep
 .simp only[L,if_true,true_or];go_enter func178,ntmps178;go_wp2_with fail;refine gF (rK p K ep _ (H.f.bl A) H.k5) λw' j=>?_;obtain⟨i,y,V⟩:=gV ((j.heap aq).H HN) ((H.bl A).bl j) (A.H j);have lN:w.heap.size<w'.heap.size:=(ae.1 i).1;obtain⟨Y,Z,n2,n3,n4,n5,n6,f0,f1,f2,f3,f4,f5,f6⟩:=kt i;unfold jr;clear j;go_wp2;have F:=bz.sf (w:=w') (S:=λb=>b=w.heap.size) rfl (I 5) (I ep) (I 0) (I 0) (I 0) (I 0) OO;refine aG (v:=jr 5 ep 0 0 0 0 OO) (by simp[results,results178,go_sem,jr,Y,Z,n2,n3,n4,n5,n6]) rfl ⟨K,rfl,y.B F i C,Gk.E (V.B F λn e=>cY e.symm)⟩
 have E:Hid ((if ep'<ep\/ep'=ep then iT else iT++iB 1 [ep'] [])=iT++if ep'=ep then []else iB 1 [ep'] []):=by
  unfold Hid;by_cases P:ep'=ep
  .rw[aE (.inr P),aE P,cF]
  rw[az λh=>h.elim L P,az P]
 rw[E.o,az L,az L];have Hr:=fu (qM base p a b c d ch ep mk ct iT K ep' _ (H.bl A) (aF hb A.lt) hl);generalize (iT++if ep'=ep then []else iB 1 [ep'] [])=a2 at*;clear E;go_enter func178,ntmps178;go_wp2_with fail;refine Hr.L ?_;rintro e w'⟨D,rfl,Q,ho,_⟩;have a0:Hid (¬(w.heap.size=p\/(K 71).ownBlock=some w.heap.size)):=by
  rintro(e|e)
  .omega
  exact fQ _ (H.gZ.lt _ e).2
 obtain⟨i,y⟩:=fl ((ho.only.block _ aq a0).H HN) Q;have d5:=Q.f.cell 5 au;rw[Q.k5]at d5;have a1:=fu (ho.F A);have lN:w.heap.size<w'.heap.size:=(ae.1 i).1;obtain⟨Y,Z,n2,n3,n4,n5,n6,f0,f1,f2,f3,f4,f5,f6⟩:=kt i;clear Q ho c5 Hr;go_wp2;have F:=bz.sf (w:=w') (S:=λb=>b=w.heap.size) rfl (I 1) (I ep') (I 0) (I 0) (I 0) (I 0) OO;refine aG (v:=jr 1 ep' 0 0 0 0 OO) (by simp[results,results178,go_sem,jr,Y,Z,n2,n3,n4,n5,n6]) rfl ⟨D,rfl,y.B F i C,a1.new F λb e=>cY e.symm⟩
theorem C9(base p)(a b c d ch ep mk)(ct)(iT)(K)(ep' x)(w)(h:Ks base w p a b c d ch ep mk ct iT K)(he:ep'<ep):ib 171 #[O p,I ep',I x] w λe w'=>e=gG (jr 5 ep 0 0 0 0 OO)/\Ks base w' p a b c d ch ep mk ct iT K/\Bl w w':=by
 have H:=fu h;have hp:=h.f.lt;have L:=h.f.cell 5 au;rw[h.k5]at L;clear h;obtain⟨y,P⟩:=fl ((Bl.refl w).alloc (gO kX 215)) (ao w (gO kX 215));go_enter func171,ntmps171;go_wp2_with fail;refine gF (rK p K ep _ (H.f.bl y) H.k5) λw' i=>?_;obtain⟨j,A,D⟩:=gV ((i.heap aq).H P) ((H.bl y).bl i) (y.H i);have lN:w.heap.size<w'.heap.size:=(ae.1 j).1;obtain⟨Q,V,Y,Z,n4,n5,n6,f0,f1,f2,f3,f4,f5,f6⟩:=kt j;unfold jr;clear i;go_wp2;have F:=bz.sf (w:=w') (S:=λb=>b=w.heap.size) rfl (I 5) (I ep) (I 0) (I 0) (I 0) (I 0) OO;exact aG (v:=jr 5 ep 0 0 0 0 OO) (by simp[results,results171,go_sem,jr,Q,V,Y,Z,n4,n5,n6]) rfl ⟨rfl,A.B F j C,D.B F λn e=>cY e.symm⟩
theorem Ef(base p)(a b c d ch ep mk)(ct)(iT)(K)(ep' x)(w)(h:Ks base w p a b c d ch ep mk ct iT K)(hb:base<=w.heap.size)(hl:iT.length<=1000000000000)(Y:∀i,i<16->(ct i).val.length<=255)(he:¬ep'<ep)(wh m)(t)(y:jQ a b c d ch mk ct x=(wh,m,t)):ib 171 #[O p,I ep',I x] w λe w'=>∃j Z,e=gG (jr wh 0 m t.kd t.cl t.ca Z)/\w'.ownsRow w.heap.size 5 1 Z t.val.length (t.val.map B8)/\Ks base w' p a b c d ch ep' mk ct (iT++if ep'=ep then []else iB 1 [ep'] []) j/\Gk p K j w w'/\(ep'=ep->j=K/\Bl w w')/\∀g,Z.ownBlock=some g->¬KF j g:=by
 have H:=fu h;have hp:=h.f.lt;have c5:=h.f.cell 5 au;rw[h.k5]at c5;clear h;obtain⟨bA,HN⟩:=fl ((Bl.refl w).alloc (gO kX 215)) (ao w (gO kX 215));have Hr:=fu (qM base p a b c d ch ep mk ct iT K ep' _ (H.bl bA) (aF hb bA.lt) hl);generalize (iT++if ep'=ep then []else iB 1 [ep'] [])=D at*;have HL:Hid (∀W j,Ks base W p a b c d ch ep' mk ct D j->_):=λW j hk=>vG base p a b c d ch ep' mk ct D j x W hk Y;rw[y]at HL;obtain⟨tk,tl,ta,tv⟩:=t;simp only at HL|-;clear Y y;go_enter func171,ntmps171;go_wp2_with fail;refine Hr.L ?_;rintro e w'⟨j,rfl,hk,ho,hs⟩;have Hs:=fu hs;have a2:Hid (¬(w.heap.size=p\/(K 71).ownBlock=some w.heap.size)):=by
  rintro(e|e)
  .omega
  exact fQ _ (H.gZ.lt _ e).2
 obtain⟨a0,P,a3⟩:=gV ((ho.only.block _ aq a2).H HN) hk (ho.F bA);have lN:w.heap.size<w'.heap.size:=(ae.1 a0).1;clear hk ho hs c5 Hr;go_wp2_with fail;refine(HL _ _ P).L ?_;rintro e w2⟨Z,rfl,V,A⟩;obtain⟨va,vc,ev⟩:∃a c,Z=dk a tv.length c:=by obtain⟨a',c',e'⟩:=(iC V).len;rw[iF V]at e';exact⟨a',c',e'⟩
 subst ev;obtain⟨Q,a4,a5,Hv⟩:=ju ((A.heap lN).H a0) (P.bl A) (a3.post A) (gL (base':=w.heap.size) V λb a6=>aF (eS lN) (V.lt b a6).1);obtain⟨n0,n1,n2,n3,n4,n5,n6,f0,f1,f2,f3,f4,f5,f6⟩:=kt Q;unfold jr;have a1:Hid (ep'=ep->j=K/\Bl w w2):=λe=>⟨(Hs e).1,(bA.H (Hs e).2).H A⟩;have a7:Hid (∀g,(lI va tv vc).ownBlock=some g->¬KF j g):=λg e hF=>by have:=(V.lt g e).1;have:=(P.Fu hF).2;omega
 clear A V HL;go_wp2;have F:=bz.sf (w:=w2) (S:=λb=>b=w.heap.size) rfl (I wh) (I 0) (I m) (I tk) (I tl) (I ta) (lI va tv vc);exact aG (v:=jr wh 0 m tk tl ta (lI va tv vc)) (by simp[results,results171,go_sem,jr,n0,n1,n2,n3,n4,n5,n6]) rfl ⟨j,_,rfl,F.iJ Hv λb hb e=>gJ Hv Q au (j4 hb e),a4.B F Q C,a5.new F λb e=>cY e.symm,λe=>⟨(a1 e).1,(a1 e).2.B F λn e=>C⟩,a7⟩
theorem E4(base p)(a b c d ch ep mk)(ct)(iT)(K)(ep' x)(w)(h:Ks base w p a b c d ch ep mk ct iT K)(he:ep'<ep):ib 177 #[O p,I ep',I x] w λe w'=>e=gG (jr 5 ep 0 0 0 0 OO)/\Ks base w' p a b c d ch ep mk ct iT K/\Bl w w':=by
 have H:=fu h;have hp:=h.f.lt;have L:=h.f.cell 5 au;rw[h.k5]at L;clear h;obtain⟨y,P⟩:=fl ((Bl.refl w).alloc (gO kX 215)) (ao w (gO kX 215));go_enter func177,ntmps177;go_wp2_with fail;refine gF (rK p K ep _ (H.f.bl y) H.k5) λw' i=>?_;obtain⟨j,A,D⟩:=gV ((i.heap aq).H P) ((H.bl y).bl i) (y.H i);have lN:w.heap.size<w'.heap.size:=(ae.1 j).1;obtain⟨Q,V,Y,Z,n4,n5,n6,f0,f1,f2,f3,f4,f5,f6⟩:=kt j;unfold jr;clear i;go_wp2;have F:=bz.sf (w:=w') (S:=λb=>b=w.heap.size) rfl (I 5) (I ep) (I 0) (I 0) (I 0) (I 0) OO;exact aG (v:=jr 5 ep 0 0 0 0 OO) (by simp[results,results177,go_sem,jr,Q,V,Y,Z,n4,n5,n6]) rfl ⟨rfl,A.B F j C,D.B F λn e=>cY e.symm⟩
theorem xz(base p)(a b c d ch ep mk)(ct)(iT)(K)(ep' mk')(w)(h:Ks base w p a b c d ch ep mk ct iT K)(hb:base<=w.heap.size)(hl:iT.length<=1000000000000)(he:¬ep'<ep):ib 177 #[O p,I ep',I mk'] w λe w'=>∃L,e=gG (jr 1 0 (if mk<mk' then mk' else mk) 0 0 0 OO)/\Ks base w' p a b c d ch ep' (if mk<mk' then mk' else mk) ct (iT++if mk<mk' then iB 2 [ep',mk'] []else if ep'=ep then []else iB 1 [ep'] []) L/\Gk p K L w w':=by
 have H:=fu h;have hp:=h.f.lt;have c5:=h.f.cell 5 au;rw[h.k5]at c5;have c6:=h.f.cell 6 au;rw[h.k6]at c6;clear h;obtain⟨P,HN⟩:=fl ((Bl.refl w).alloc (gO kX 215)) (ao w (gO kX 215));have Q:Hid (¬(w.heap.size=p\/(K 71).ownBlock=some w.heap.size)):=by
  rintro(e|e)
  .omega
  exact fQ _ (H.gZ.lt _ e).2
 by_cases Z:mk<mk'
 .rw[aE Z,aE Z];have V:=fu (QL base p a b c d ch ep mk ct iT K ep' mk' _ (H.bl P) (aF hb P.lt) hl);generalize (iT++iB 2 [ep',mk'] [])=Y at*;go_enter func177,ntmps177;go_wp2_with fail;refine V.L ?_;rintro e w'⟨L,rfl,j,y⟩;obtain⟨i,A⟩:=fl ((y.only.block _ aq Q).H HN) j;have d6:=j.f.cell 6 au;rw[j.k6]at d6;have D:=fu (y.F P);have lN:w.heap.size<w'.heap.size:=(ae.1 i).1;obtain⟨n0,n1,n2,n3,n4,n5,n6,f0,f1,f2,f3,f4,f5,f6⟩:=kt i;clear j y c5 c6 V;go_wp2;have F:=bz.sf (w:=w') (S:=λb=>b=w.heap.size) rfl (I 1) (I 0) (I mk') (I 0) (I 0) (I 0) OO;exact aG (v:=jr 1 0 mk' 0 0 0 OO) (by simp[results,results177,go_sem,jr,n0,n1,n2,n3,n4,n5,n6]) rfl ⟨L,rfl,A.B F i C,D.new F λb e=>cY e.symm⟩
 rw[az Z,az Z];have V:=fu (qM base p a b c d ch ep mk ct iT K ep' _ (H.bl P) (aF hb P.lt) hl);generalize (iT++if ep'=ep then []else iB 1 [ep'] [])=Y at*;go_enter func177,ntmps177;go_wp2_with fail;refine V.L ?_;rintro e w'⟨L,rfl,j,y,_⟩;obtain⟨i,A⟩:=fl ((y.only.block _ aq Q).H HN) j;have d6:=j.f.cell 6 au;rw[j.k6]at d6;have D:=fu (y.F P);have lN:w.heap.size<w'.heap.size:=(ae.1 i).1;obtain⟨n0,n1,n2,n3,n4,n5,n6,f0,f1,f2,f3,f4,f5,f6⟩:=kt i;clear j y c5 c6 V;go_wp2;have F:=bz.sf (w:=w') (S:=λb=>b=w.heap.size) rfl (I 1) (I 0) (I mk) (I 0) (I 0) (I 0) OO;exact aG (v:=jr 1 0 mk 0 0 0 OO) (by simp[results,results177,go_sem,jr,n0,n1,n2,n3,n4,n5,n6]) rfl ⟨L,rfl,A.B F i C,D.new F λb e=>cY e.symm⟩
end
section
def tH(K:Nat->Value)(i:Nat)(ep kd cl ca:Value)(v:Value):Nat->Value:=tZ (tZ (tZ (tZ (tZ K 5 ep) (7+i*4) kd) (7+i*4+1) cl) (7+i*4+2) ca) (7+i*4+3) v
def TN(K)(i)(ep kd cl ca v):tH K i ep kd cl ca v 5=ep:=by unfold tH;rw[iK _ _ _ _ C,iK _ _ _ _ C,iK _ _ _ _ C,iK _ _ _ _ C,lO]
def FH(K)(i j)(ep kd cl ca v)(y:j≠5)(h:j<7+i*4\/7+i*4+3<j):tH K i ep kd cl ca v j=K j:=by unfold tH;rw[iK _ _ _ _ C,iK _ _ _ _ C,iK _ _ _ _ C,iK _ _ _ _ C,iK _ _ _ _ y]
def P8(K)(i)(ep kd cl ca v):tH K i ep kd cl ca v (7+4*i)=kd:=by unfold tH;rw[show 7+4*i=7+i*4 by omega,iK _ _ _ _ C,iK _ _ _ _ C,iK _ _ _ _ C,lO]
def QS(K)(i)(ep kd cl ca v):tH K i ep kd cl ca v (8+4*i)=cl:=by unfold tH;rw[show 8+4*i=7+i*4+1 by omega,iK _ _ _ _ C,iK _ _ _ _ C,lO]
def RR(K)(i)(ep kd cl ca v):tH K i ep kd cl ca v (9+4*i)=ca:=by unfold tH;rw[show 9+4*i=7+i*4+2 by omega,iK _ _ _ _ C,lO]
def FP(K)(i)(ep kd cl ca v):tH K i ep kd cl ca v (10+4*i)=v:=by unfold tH;rw[show 10+4*i=7+i*4+3 by omega,lO]
def Ks.put{base:Nat}{b ep ep':Int}{F:List Int}{Z u:Value}{P Q:Int}(h:Ks base w p a b c d ch ep mk ct iT K)(i)(hi:i<16)(hW:bz (λb=>b=p) w W)(L:AH base W w' p (tH K i (I ep') (I kd) (I P) (I Q) u) (K 71) Z n xs)(hn:n=iT.length+F.length)(hx:xs=iT.map B8++F.map B8)(hu:w'.ownsRow base 5 1 u ys.length (ys.map B8))(V:∀g,u.ownBlock=some g->g<W.heap.size/\(K 71).ownBlock≠some g):Ks base w' p a b c d ch ep' mk (λj=>if j=i then⟨kd,P,Q,ys⟩else ct j) (iT++F) (tZ (tH K i (I ep') (I kd) (I P) (I Q) u) 71 Z)/\((∀g,u.ownBlock=some g->w.heap.size<=g)->Gk p K (tZ (tH K i (I ep') (I kd) (I P) (I Q) u) 71 Z) w w'):=by
 have oQ:=(hW.L (T:=λb=>b=p\/(K 71).ownBlock=some b) λb _ e=>.inl e).H L.only;have D:∀j,j≠71->j≠5->(j<7+i*4\/7+i*4+3<j)->tZ (tH K i (I ep') (I kd) (I P) (I Q) u) 71 Z j=K j:=λj h1 h2 h3=>by rw[iK _ _ _ _ h1,FH _ _ _ _ _ _ _ _ h2 h3]
 refine⟨⟨L.f,by rw[D 0 au au C];exact h.k0,by rw[D 1 au au C];exact h.k1,by rw[D 2 au au C];exact h.k2,by rw[D 3 au au C];exact h.k3,by rw[D 4 au au C];exact h.k4,by rw[iK _ _ _ _ au,TN],by rw[D 6 au au C];exact h.k6,by rw[lO,aO,aZ,<-hx,<-hn];exact L.gZ,λj A=>?_,λj A=>?_,λj A=>?_,λj A=>?_,λj A g y=>?_⟩,λY=>⟨oQ,λg y=>?_⟩⟩
 .by_cases e:j=i
  .subst e;rw[iK _ _ _ _ C,P8,aE rfl]
  rw[az e,D _ C C C];exact h.kd j A
 .by_cases e:j=i
  .subst e;rw[iK _ _ _ _ C,QS,aE rfl]
  rw[az e,D _ C C C];exact h.cl j A
 .by_cases e:j=i
  .subst e;rw[iK _ _ _ _ C,RR,aE rfl]
  rw[az e,D _ C C C];exact h.ca j A
 .by_cases e:j=i
  .subst e;rw[iK _ _ _ _ C,FP,aE rfl];exact hu
  rw[az e,D _ C C C];refine oQ.iJ (h.val j A) λg y e=>?_;obtain e|e:=e
  .exact h.f.nG (h.val j A) au (j4 y e)
  exact h.lM j A g y e
 .rw[lO];intro e';have a0:=hW.size;by_cases e:j=i
  .subst e;rw[iK _ _ _ _ C,FP]at y;obtain e2|e2:=L.h g e'
   .exact(V g y).2 e2
   have:=(V g y).1;omega
  rw[D _ C C C]at y;obtain e2|e2:=L.h g e'
  .exact h.lM j A g y e2
  have:=((h.val j A).lt g y).2;omega
 obtain y|⟨j,A,y⟩:=y
 .rw[lO]at y;obtain e|e:=L.h g y
  .exact .inl (.inl e)
  exact .inr (aF hW.size e)
 by_cases e:j=i
 .subst e;rw[iK _ _ _ _ C,FP]at y;exact .inr (Y g y)
 rw[D _ C C C]at y;exact .inl (.inr ⟨j,A,y⟩)
theorem PQ(base p)(a b c d ch ep mk)(ct)(iT)(K)(ep' x kd cl ca)(v)(ys)(i:Nat)(w)(h:Ks base w p a b c d ch ep mk ct iT K)(hb:base<=w.heap.size)(hl:iT.length<=1000000000000)(hv:Bs w v (ys.map B8))(hy:ys.length<=255)(a5:∀g,v.ownBlock=some g->g<w.heap.size/\(K 71).ownBlock≠some g/\g≠p)(hi:i<16)(a0:n9 a b c d x=(ch,(i:Int),0)):ib 226 #[O p,I ep',I x,.agg #[I kd,I cl,I ca,v]] w λe w'=>∃K',e=gS/\Ks base w' p a b c d ch ep' mk (λj=>if j=i then⟨kd,cl,ca,ys⟩else ct j) (iT++iB 3 [ep',x,kd,cl,ca] ys) K'/\Gk p K K' w w':=by
 have H:=fu h;have hp:=h.f.lt;have c0:=h.f.cell 0 au;have c1:=h.f.cell 1 au;have c2:=h.f.cell 2 au;have c3:=h.f.cell 3 au;have c5:=h.f.cell 5 au;have f5:=h.f.frozen 5;rw[h.k0]at c0;rw[h.k1]at c1;rw[h.k2]at c2;rw[h.k3]at c3;rw[h.k5]at c5;obtain⟨va,vc,ev⟩:=hv.len;rw[ay]at ev;subst ev;obtain⟨Hv,Q⟩:=fl hv a5;clear h hv a5;have aa:(i:Int)<16:=C;go_enter func226,ntmps226;go_wp2_with fail;refine(kM a b c d x _).L ?_;rw[a0];unfold I4;rintro e w'⟨rfl,a2⟩;obtain⟨HB,HX⟩:=fl (((Bl.refl w).alloc _).H a2) ((a2.heap aq).H (ao w (gO (qe kd cl ca va ys vc) 91)));have HK:=fu (H.bl HB);have lX:w.heap.size<w'.heap.size:=(ae.1 HX).1;obtain⟨x0,x1,x2,x3⟩:=nN HX 0 1 2 3 rfl;simp at x0 x1 x2 x3;have d5:=HK.f.cell 5 au;have g5:=HK.f.frozen 5;rw[HK.k5]at d5;have lP:p<w'.heap.size:=eR hp lX;clear a2 c0 c1 c2 c3 c5 f5 a0;have A5:=fu (HK.f.set 5 (I ep'));have O5:Hid (bz (λb=>b=p) w' (w'.setCell (U p 5) (I ep'))):=(bz.refl (λb=>b=p) w').setCell (U p 5) (.inl rfl) (I ep');have A:w.heap.size≠p:=C;have X5:=fu ((O5.block _ lX A).H HX);have V5:Hid (Bs (w'.setCell (U p 5) (I ep')) (lI va ys vc) (ys.map B8)):=(Hv.bl HB).only O5 λg e e'=>(Q g e).2.2 e';go_wp2;generalize a6:w'.setCell (U p 5) (I ep')=W0 at*;have l0:w.heap.size<W0.heap.size:=(ae.1 X5).1;obtain⟨y0,y1,y2,y3⟩:=nN X5 0 1 2 3 rfl;simp at y0 y1 y2 y3;have ab:=fu a6;clear x0 x1 x2 x3 d5 g5 a6;go_region_with(go_at_call 258;refine(ze kd cl ca _ ys _ (by exact V5.bl (jo.drewN _)) C).L ?_;rintro e w2⟨v',rfl,V,Y⟩;obtain⟨ua,uc,eu⟩:∃a c,v'=dk a ys.length c:=(by obtain⟨a',c',e'⟩:=(iC Y).len;rw[iF Y]at e';exact⟨a',c',e'⟩);subst eu;have y:=(A5.bl (jo.drewN _)).bl V;have q0:=y.cell (7+i*4) C;have q1:=y.cell (7+i*4+1) C;have q2:=y.cell (7+i*4+2) C;have q3:=y.cell (7+i*4+3) C;have g0:=y.frozen (7+i*4);have g1:=y.frozen (7+i*4+1);have g2:=y.frozen (7+i*4+2);have g3:=y.frozen (7+i*4+3);obtain⟨a7,a3,Z⟩:=gV y V Y;obtain⟨z0,z1,z2,z3⟩:=V.J l0 y0 y1 y2 y3;clear y V Y);all_goals
  have O4:Hid (bz (λb=>b=p) w2 ((((w2.setCell (U p (7+i*4)) (I kd)).setCell (U p (7+i*4+1)) (I cl)).setCell (U p (7+i*4+2)) (I ca)).setCell (U p (7+i*4+3)) (lI ua ys uc))):=((((bz.refl (λb=>b=p) w2).setCell (U p (7+i*4)) (.inl rfl) (I kd)).setCell (U p (7+i*4+1)) (.inl rfl) (I cl)).setCell (U p (7+i*4+2)) (.inl rfl) (I ca)).setCell (U p (7+i*4+3)) (.inl rfl) (lI ua ys uc);have A4:=fu ((((a7.set (7+i*4) (I kd)).set (7+i*4+1) (I cl)).set (7+i*4+2) (I ca)).set (7+i*4+3) (lI ua ys uc));have B2:Hid (Bl W0 w2):=by first|exact(jo.drew).H a3.o|exact(jo.drewN _).H a3
  have S2:Hid (w2.ownsRow w.heap.size 5 1 (lI ua ys uc) ys.length (ys.map B8)):=gL Z λg hg=>aF (by have:=l0;simp;omega) (Z.lt g hg).1;have N2:Hid (∀g,(lI ua ys uc).ownBlock=some g->W0.heap.size<=g):=λg hg=>aF aq (Z.lt g hg).1;clear a3 Z a7 q0 q1 q2 q3 g0 g1 g2 g3;generalize ((((w2.setCell (U p (7+i*4)) (I kd)).setCell (U p (7+i*4+1)) (I cl)).setCell (U p (7+i*4+2)) (I ca)).setCell (U p (7+i*4+3)) (lI ua ys uc))=D at*;have l2:Hid (w.heap.size<w2.heap.size):=af l0 B2.lt;have u0:=(O4.cell (o:=0) l2 A).H z0;have u1:=(O4.cell (o:=1) l2 A).H z1;have u2:=(O4.cell (o:=2) l2 A).H z2;have u3:=(O4.cell (o:=3) l2 A).H z3;clear z0 z1 z2 z3 y0 y1 y2 y3;have l4:w.heap.size<D.heap.size:=af l2 O4.size;have O6:Hid (bz (λb=>b=p) w D):=((bz.E HB).H O5).H ((bz.E B2).H O4);have F:Hid (D.ownsRow base 5 1 (K 71) iT.length (iT.map B8)):=O6.iJ H.gZ λg e e'=>H.f.nG H.gZ au (j4 e e');have a1:Hid (Bs D (lI va ys vc) (ys.map B8)):=Hv.only O6 λg e e'=>(Q g e).2.2 e';have P:Hid (Bl D (D.alloc (gO #[I ep',I x,I kd,I cl,I ca] 3))):=(Bl.refl D).alloc _;have hN:Hid (Bs (D.alloc (gO #[I ep',I x,I kd,I cl,I ca] 3)) (dk (G D.heap.size) 5 5) ([ep',x,kd,cl,ca].map I)):=vR D 3 #[I ep',I x,I kd,I cl,I ca] 5 rfl;have a9:Hid (tZ (tZ (tZ (tZ (tZ K 5 (I ep')) (7+i*4) (I kd)) (7+i*4+1) (I cl)) (7+i*4+2) (I ca)) (7+i*4+3) (lI ua ys uc) 71=K 71):=by unfold Hid;rw[iK _ _ _ _ C,iK _ _ _ _ C,iK _ _ _ _ C,iK _ _ _ _ C,iK _ _ _ _ C]
  have a4:Hid (∀W,Bl (D.alloc (gO #[I ep',I x,I kd,I cl,I ca] 3)) W->_):=λW hW=>yj base p _ (K 71) iT.length (iT.map B8) 3 _ _ [ep',x,kd,cl,ca] ys W (A4.bl (P.H hW)) a9 ((iD (P.H hW)).iJ F λ_ _ e=>e) (gI ((P.H hW).lt)) hl (hN.bl hW) (a1.bl (P.H hW)) au au aq hy (λg e e'=>by simp[Value.ownBlock]at e';have:=(F.lt g e).2;omega) (λg e e'=>(Q g e').2.1 e) (λg e=>by simp[Value.ownBlock]at e;have:=hW.lt;simp at this;omega) (λg e=>by have:=(Q g e).1;have:=(P.H hW).lt;omega);clear hN a1 F;go_wp2_with fail;go_region_with(go_at_call 257;refine(a4 _ (by exact jo.drewN _)).L ?_;rintro e w6⟨v6,rfl,hk⟩;have a8:=fu hk;clear hk);all_goals
   go_end0;have P:=fu (P.H (jo.drewN 1));have hS:∀g,(lI ua ys uc).ownBlock=some g->g≠p/\(K 71).ownBlock≠some g:=λg e=>by have h1:=(S2.lt g e).1;refine⟨C,λe'=>?_⟩;have:=(H.gZ.lt g e').2;omega
   have S4:=O4.iJ S2 λg e e'=>(hS g e).1 e';have S5:=(iD P).iJ S4 λ_ _ e=>e;have S6:=a8.only.iJ S5 λg e e'=>by
    obtain e'|e':=e'
    .exact(hS g e).1 e'
    exact(hS g e).2 e'
   have R:=H.put i hi (O6.H (bz.E P)) a8 rfl rfl (gL (base':=base) S6 λg e=>aF hb (S6.lt g e).1) λg e=>⟨af (S4.lt g e).2 P.lt,(hS g e).2⟩;exact⟨_,rfl,R.1,R.2 λg e=>(S2.lt g e).1⟩
open Go.RowKit
attribute [local go_sem ↓] Go.wp_at_zero Go.wp_at_succ
theorem AG(base p o)(v)(iT:List Int)(w)(_hp:p<w.heap.size)(j:w.cell? (U p o)=some v)(i:w.ownsRow base 5 1 v iT.length (iT.map B8))(Q:iT.length<=1000000000000):ib 221 #[.pointer (some (U p o))] w λe w'=>∃y,e=gG y/\Bl w w'/\w'.ownsRow w.heap.size 5 1 y iT.length (iT.map B8):=by
 have A:=fu (mi i);clear i;obtain⟨V,Y,D⟩:=A.len;rw[ay]at D;rw[D]at j A;clear D;go_enter func221,ntmps221;go_wp2_with fail;refine(nY _ iT _ A C).L ?_;rintro e w'⟨y,rfl,F,i⟩;obtain⟨H,P⟩:=fl F i;clear F i;go_wp2;go_ret;exact⟨_,rfl,H,P⟩
theorem JM(base p)(a b c d ch ep mk)(ct)(iT)(K)(w)(h:Ks base w p a b c d ch ep mk ct iT K)(A:iT.length<=1000000000000):ib 169 #[O p] w λe w'=>∃i,e=gG i/\Bl w w'/\w'.ownsRow w.heap.size 5 1 i iT.length (iT.map B8):=by
 have D:=h.f.lt;have H:=fu h;clear h;go_enter func169,ntmps169;go_wp2_with fail;refine(AG base p 71 _ iT _ D (H.f.cell 71 au) H.gZ A).L ?_;rintro e w'⟨i,rfl,j,y⟩;obtain⟨F,P⟩:=fl j y;clear j y;go_wp2;go_ret;exact⟨_,rfl,F,P⟩
theorem Cc(base p)(a b c d ch ep mk)(ct)(iT)(K)(ep' x kd cl ca)(va)(vn vc)(w)(h:Ks base w p a b c d ch ep mk ct iT K)(he:ep'<ep):ib 175 #[O p,I ep',I x,.agg #[I kd,I cl,I ca,dk va vn vc]] w λe w'=>e=gG (jr 5 ep 0 0 0 0 OO)/\Ks base w' p a b c d ch ep mk ct iT K/\Bl w w':=by
 have H:=fu h;have hp:=h.f.lt;have P:=h.f.cell 5 au;rw[h.k5]at P;clear h;obtain⟨y,L⟩:=fl (((Bl.refl w).alloc (gO #[I kd,I cl,I ca,dk va vn vc] 91)).alloc (gO kX 215)) (ao (w.alloc (gO #[I kd,I cl,I ca,dk va vn vc] 91)) (gO kX 215));rw[show(w.alloc (gO #[I kd,I cl,I ca,dk va vn vc] 91)).heap.size=w.heap.size+1 from by simp]at L;go_enter func175,ntmps175;go_wp2_with fail;refine gF (rK p K ep _ (H.f.bl y) H.k5) λw' i=>?_;obtain⟨j,A,D⟩:=gV ((i.heap aq).H L) ((H.bl y).bl i) (y.H i);have lN:w.heap.size+1<w'.heap.size:=(ae.1 j).1;obtain⟨Q,V,Y,Z,n4,n5,n6,f0,f1,f2,f3,f4,f5,f6⟩:=kt j;unfold jr;clear i;go_wp2;have F:=bz.sf (w:=w') (S:=λb=>b=w.heap.size+1) rfl (I 5) (I ep) (I 0) (I 0) (I 0) (I 0) OO;exact aG (v:=jr 5 ep 0 0 0 0 OO) (by simp[results,results175,go_sem,jr,Q,V,Y,Z,n4,n5,n6]) rfl ⟨rfl,A.B F j C,D.B F λn e=>C⟩
end
section
def Sr{b:Int}{x:Int}(h:(jQ a b c d ch mk ct x).1=3):jQ a b c d ch mk ct x=(3,0,⟨0,0,0,[]⟩)/\∃i:Nat,i<16/\n9 a b c d x=(ch,(i:Int),0):=by
 unfold jQ at h|-;by_cases y:(n9 a b c d x).2.2≠0\/(n9 a b c d x).1≠ch
 .rw[aE y]at h;simp at h
 rw[az y]at h|-;have F:(n9 a b c d x).2.2=0:=by omega
 have j:(n9 a b c d x).1=ch:=by omega
 by_cases A:x<mk
 .rw[aE A]at h;simp at h
 rw[az A]at h|-;by_cases D:(ct (n9 a b c d x).2.1.toNat).kd=0
 .rw[aE D];obtain⟨i,H,e⟩:=uL F;exact⟨rfl,i,H,by rwa[j]at e⟩
 rw[az D]at h;simp at h
theorem sV(base p)(a b c d ch ep mk)(ct)(iT)(K)(ep' x kd cl ca)(v)(ys)(i:Nat)(w)(h:Ks base w p a b c d ch ep mk ct iT K)(hb:base<=w.heap.size)(hl:iT.length<=1000000000000)(a0:∀i,i<16->(ct i).val.length<=255)(hv:Bs w v (ys.map B8))(hy:ys.length<=255)(A:∀g,v.ownBlock=some g->g<w.heap.size/\(K 71).ownBlock≠some g/\g≠p)(he:¬ep'<ep)(hi:i<16)(P:n9 a b c d x=(ch,(i:Int),0))(y:jQ a b c d ch mk ct x=(3,0,⟨0,0,0,[]⟩))(hc:qd kd ys.length=true):ib 175 #[O p,I ep',I x,.agg #[I kd,I cl,I ca,v]] w λe w'=>∃K',e=gG (jr 1 0 0 0 0 0 OO)/\Ks base w' p a b c d ch ep' mk (λj=>if j=i then⟨kd,cl,ca,ys⟩else ct j) (iT++iB 3 [ep',x,kd,cl,ca] ys) K'/\Gk p K K' w w':=by
 obtain⟨Z,vc,ev⟩:=hv.len;rw[ay]at ev;subst ev;have H:=fu h;have hp:=h.f.lt;have c5:=h.f.cell 5 au;rw[h.k5]at c5;obtain⟨Hv,al,Hc⟩:=gV hv A hc;obtain⟨HX,bA,HN⟩:=gV (fJ (w.alloc (gO (qe kd cl ca Z ys vc) 91)) (gO kX 215) w.heap.size aq) (((Bl.refl w).alloc (gO (qe kd cl ca Z ys vc) 91)).alloc (gO kX 215)) (ao (w.alloc (gO (qe kd cl ca Z ys vc) 91)) (gO kX 215));rw[show(w.alloc (gO (qe kd cl ca Z ys vc) 91)).heap.size=w.heap.size+1 from by simp]at HN;obtain⟨a1,HL⟩:=fl (HX.H (ao w (gO (qe kd cl ca Z ys vc) 91))) (vG base p a b c d ch ep mk ct iT K x _ (H.bl bA) a0);rw[y]at HL;simp only at HL;have HP:Hid (∀W,Bl w W->_):=λW hW=>PQ base p a b c d ch ep mk ct iT K ep' x kd cl ca _ ys i W (H.bl hW) (aF hb hW.lt) hl (hv.bl hW) hy (λg e=>⟨af (A g e).1 hW.lt,(A g e).2⟩) hi P;generalize (iT++iB 3 [ep',x,kd,cl,ca] ys)=ak at*;generalize (λj=>if j=i then(⟨kd,cl,ca,ys⟩:Ct)else ct j)=am at*;clear h hv A hc HX a0 y P;go_enter func175,ntmps175;go_wp2_with fail;refine HL.L ?_;rintro e w1⟨v1,rfl,a2,D⟩;obtain⟨a3,a4,ev⟩:∃a c,v1=dk a 0 c:=by obtain⟨a',c',e'⟩:=(iC a2).len;exact⟨a',c',e'⟩
 subst ev;have a9:=fu ((D.heap gM).H a1);have a5:=fu ((D.heap aq).H HN);have lN:w.heap.size+1<w1.heap.size:=(ae.1 a5).1;obtain⟨x0,x1,x2,x3⟩:=nN a9 0 1 2 3 rfl;simp at x0 x1 x2 x3;have aa:=fu (bA.H D);have lX:w.heap.size<w1.heap.size:=C;unfold jr;clear D a2 HL a1 HN;go_wp2_with fail;refine(qH kd cl ca Z ys.length vc _ C).L ?_;rw[Hc.o];rintro e w2⟨rfl,V⟩;obtain⟨bE,HY⟩:=fl ((Bl.refl w1).alloc (gO #[I 3,I 0,I 0,I 0,I 0,I 0,dk a3 0 a4] 215)) (ao w1 (gO #[I 3,I 0,I 0,I 0,I 0,I 0,dk a3 0 a4] 215));have b2:=fu (bE.H V);have y0:=ax w2 w1.heap.size 0 _ 215 (0,0) ((V.heap aq).H HY);obtain⟨q0,q1,q2,q3⟩:=b2.J lX x0 x1 x2 x3;simp at y0;obtain⟨a6,ab⟩:=fl (aa.H b2) ((b2.heap lN).H a5);have Q:=fu (HP w2 a6);have ac:=af lN b2.lt;clear V x0 x1 x2 x3 HY bE;go_wp2_with fail;refine Q.L ?_;rintro e w3⟨K3,rfl,a7,Y⟩;have ad:Hid (¬(w.heap.size+1=p\/(K 71).ownBlock=some (w.heap.size+1))):=by
  rintro(e|e)
  .omega
  have:=(H.gZ.lt _ e).2;omega
 obtain⟨a8,ag,ai⟩:=gV ((Y.only.block _ ac ad).H ab) a7 (Y.F a6);obtain⟨n0,n1,n2,n3,n4,n5,n6,f0,f1,f2,f3,f4,f5,f6⟩:=kt a8;clear a7 Y Q;go_wp2;have F:=bz.sf (w:=w3) (S:=λb=>b=w.heap.size+1) rfl (I 1) (I 0) (I 0) (I 0) (I 0) (I 0) OO;exact aG (v:=jr 1 0 0 0 0 0 OO) (by simp[results,results175,go_sem,jr,n0,n1,n2,n3,n4,n5,n6]) rfl ⟨K3,rfl,ag.B F a8 C,ai.new F λb e=>C⟩
theorem Ap(base p)(a b c d ch ep mk)(ct)(iT)(K)(ep' x kd cl ca)(va)(vn vc)(w)(h:Ks base w p a b c d ch ep mk ct iT K)(hb:base<=w.heap.size)(hl:iT.length<=1000000000000)(a5:∀i,i<16->(ct i).val.length<=255)(b1:vn<=255)(he:¬ep'<ep)(wh m)(t)(D:jQ a b c d ch mk ct x=(wh,m,t))(a6:wh≠3)(hc:qd kd vn=true):ib 175 #[O p,I ep',I x,.agg #[I kd,I cl,I ca,dk va vn vc]] w λe w'=>∃K' v',e=gG (jr wh 0 m t.kd t.cl t.ca v')/\w'.ownsRow w.heap.size 5 1 v' t.val.length (t.val.map B8)/\Ks base w' p a b c d ch ep' mk ct (iT++if ep'=ep then []else iB 1 [ep'] []) K'/\Gk p K K' w w'/\(ep'=ep->K'=K/\Bl w w')/\∀g,v'.ownBlock=some g->¬KF K' g:=by
 have H:=fu h;have hp:=h.f.lt;have c5:=h.f.cell 5 au;rw[h.k5]at c5;obtain⟨Hc,HX,bA,HN⟩:=ju hc (fJ (w.alloc (gO #[I kd,I cl,I ca,dk va vn vc] 91)) (gO kX 215) w.heap.size aq) (((Bl.refl w).alloc (gO #[I kd,I cl,I ca,dk va vn vc] 91)).alloc (gO kX 215)) (ao (w.alloc (gO #[I kd,I cl,I ca,dk va vn vc] 91)) (gO kX 215));rw[show(w.alloc (gO #[I kd,I cl,I ca,dk va vn vc] 91)).heap.size=w.heap.size+1 from by simp]at HN;obtain⟨a7,HL⟩:=fl (HX.H (ao w (gO #[I kd,I cl,I ca,dk va vn vc] 91))) (vG base p a b c d ch ep mk ct iT K x _ (H.bl bA) a5);rw[D]at HL;obtain⟨tk,tl,ta,Q⟩:=t;simp only at HL|-;have HP:Hid (∀W,Bl w W->_):=λW hW=>qM base p a b c d ch ep mk ct iT K ep' W (H.bl hW) (aF hb hW.lt) hl;generalize (iT++if ep'=ep then []else iB 1 [ep'] [])=b0 at*;have b3:(wh==3)=false:=iG a6;clear h hc HX a5 D a6;go_enter func175,ntmps175;go_wp2_with fail;refine HL.L ?_;rintro e Y⟨v1,rfl,P,V⟩;obtain⟨j,y,ev⟩:∃a c,v1=dk a Q.length c:=by obtain⟨a',c',e'⟩:=(iC P).len;rw[iF P]at e';exact⟨a',c',e'⟩
 subst ev;have ai:=fu ((V.heap gM).H a7);have a8:=fu ((V.heap aq).H HN);have lN:w.heap.size+1<Y.heap.size:=(ae.1 a8).1;obtain⟨x0,x1,x2,x3⟩:=nN ai 0 1 2 3 rfl;simp at x0 x1 x2 x3;have ak:=fu (bA.H V);have lX:w.heap.size<Y.heap.size:=C;have al:Hid (Y.ownsRow w.heap.size 5 1 (lI j Q y) Q.length (Q.map B8)):=gL P λg hg=>aF bA.lt (P.lt g hg).1;unfold jr;clear V P HL a7 HN;go_wp2_with fail;refine(qH kd cl ca va vn vc _ C).L ?_;rw[Hc.o];rintro e w2⟨rfl,Z⟩;obtain⟨bE,HY⟩:=fl ((Bl.refl Y).alloc (gO #[I wh,I 0,I m,I tk,I tl,I ta,dk j Q.length y] 215)) (ao Y (gO #[I wh,I 0,I m,I tk,I tl,I ta,dk j Q.length y] 215));obtain⟨b2,a0⟩:=fl (bE.H Z) ((Z.heap aq).H HY);have y0:=ax w2 Y.heap.size 0 _ 215 (0,0) a0;simp at y0;obtain⟨a1,am,a2⟩:=gV (ak.H b2) ((b2.heap lN).H a8) ((iD b2).iJ al λ_ _ e=>e);have an:=af lN b2.lt;have ap:Y.heap.size<w2.heap.size:=(ae.1 a0).1;have a9:=fu (HP w2 a1);clear Z x0 x1 x2 x3 HY bE;go_wp2_with fail;refine a9.L ?_;rintro e w3⟨K3,rfl,aa,A,ab⟩;have ac:=fu ab;have a3:Hid (∀g,w.heap.size<=g->¬(g=p\/(K 71).ownBlock=some g)):=by
  rintro g hg (e|e)
  .omega
  have:=(H.gZ.lt _ e).2;omega
 obtain⟨a4,ad,ag⟩:=gV ((A.only.block _ an (a3 _ C)).H am) ((A.only.block _ ap (a3 _ C)).H a0) (A.only.iJ a2 λg hg=>a3.o g (a2.lt g hg).1);obtain⟨ar,av⟩:=fl aa (A.F a1);have aw:Hid (∀g,(lI j Q y).ownBlock=some g->¬KF K3 g):=λg e hF=>by
  have h1:=a2.lt g e;obtain h2|h2:=A.h g hF
  .have:=(H.Fu h2).2;omega
  omega
 obtain⟨n0,n1,n2,n3,n4,n5,n6,f0,f1,f2,f3,f4,f5,f6⟩:=kt a4;obtain⟨z0,z1,z2,z3⟩:=nN ad 0 1 2 3 rfl;obtain⟨z4,z5,z6⟩:=px ad 4 5 6 rfl;simp at z0 z1 z2 z3 z4 z5 z6;clear aa A ab a9;go_wp2;have F:=bz.sf (w:=w3) (S:=λb=>b=w.heap.size+1) rfl (I wh) (I 0) (I m) (I tk) (I tl) (I ta) (lI j Q y);exact aG (v:=jr wh 0 m tk tl ta (lI j Q y)) (by simp[results,results175,go_sem,jr,n0,n1,n2,n3,n4,n5,n6]) rfl ⟨K3,_,rfl,F.iJ ag λb hb e=>gJ ag a4 au (j4 hb e),ar.B F a4 C,av.new F λb e=>C,λe=>⟨(ac e).1,(a1.H (ac e).2).B F λn e=>C⟩,aw⟩
def J8{H F D A y j i:Value}(h:w.heap[g]?=some (gO #[H,F,D,A,y,j,i] 215 (0,0)))(u0 u1 u2 u3 u4 u5 u6):(((((((w.setCell (U g 0) u0).setCell (U g 1) u1).setCell (U g 2) u2).setCell (U g 3) u3).setCell (U g 4) u4).setCell (U g 5) u5).setCell (U g 6) u6).heap[g]?=some (gO #[u0,u1,u2,u3,u4,u5,u6] 215 (0,0)):=by have L:=cH _ g 0 _ 215 u0 h;rw[show(#[H,F,D,A,y,j,i]:Array Value).setIfInBounds 0 u0=#[u0,F,D,A,y,j,i]from rfl]at L;have P:=cH _ g 1 _ 215 u1 L;rw[show(#[u0,F,D,A,y,j,i]:Array Value).setIfInBounds 1 u1=#[u0,u1,D,A,y,j,i]from rfl]at P;have Q:=cH _ g 2 _ 215 u2 P;rw[show(#[u0,u1,D,A,y,j,i]:Array Value).setIfInBounds 2 u2=#[u0,u1,u2,A,y,j,i]from rfl]at Q;have V:=cH _ g 3 _ 215 u3 Q;rw[show(#[u0,u1,u2,A,y,j,i]:Array Value).setIfInBounds 3 u3=#[u0,u1,u2,u3,y,j,i]from rfl]at V;have Y:=cH _ g 4 _ 215 u4 V;rw[show(#[u0,u1,u2,u3,y,j,i]:Array Value).setIfInBounds 4 u4=#[u0,u1,u2,u3,u4,j,i]from rfl]at Y;have Z:=cH _ g 5 _ 215 u5 Y;rw[show(#[u0,u1,u2,u3,u4,j,i]:Array Value).setIfInBounds 5 u5=#[u0,u1,u2,u3,u4,u5,i]from rfl]at Z;have h6:=cH _ g 6 _ 215 u6 Z;rw[show(#[u0,u1,u2,u3,u4,u5,i]:Array Value).setIfInBounds 6 u6=#[u0,u1,u2,u3,u4,u5,u6]from rfl]at h6;exact h6
theorem PM(base p)(a b c d ch ep mk)(ct)(iT)(K)(ep' x kd cl ca)(va)(vn vc)(w)(h:Ks base w p a b c d ch ep mk ct iT K)(hb:base<=w.heap.size)(hl:iT.length<=1000000000000)(a0:∀i,i<16->(ct i).val.length<=255)(ap:vn<=255)(he:¬ep'<ep)(wh m)(t)(A:jQ a b c d ch mk ct x=(wh,m,t))(hc:qd kd vn=false):ib 175 #[O p,I ep',I x,.agg #[I kd,I cl,I ca,dk va vn vc]] w λe w'=>∃K',e=gG (jr 6 0 0 0 0 0 OO)/\Ks base w' p a b c d ch ep' mk ct (iT++if ep'=ep then []else iB 1 [ep'] []) K'/\Gk p K K' w w':=by
 have H:=fu h;have hp:=h.f.lt;have c5:=h.f.cell 5 au;rw[h.k5]at c5;obtain⟨Hc,HX,bA,HN⟩:=ju hc (fJ (w.alloc (gO #[I kd,I cl,I ca,dk va vn vc] 91)) (gO kX 215) w.heap.size aq) (((Bl.refl w).alloc (gO #[I kd,I cl,I ca,dk va vn vc] 91)).alloc (gO kX 215)) (ao (w.alloc (gO #[I kd,I cl,I ca,dk va vn vc] 91)) (gO kX 215));rw[show(w.alloc (gO #[I kd,I cl,I ca,dk va vn vc] 91)).heap.size=w.heap.size+1 from by simp]at HN;obtain⟨a1,HL⟩:=fl (HX.H (ao w (gO #[I kd,I cl,I ca,dk va vn vc] 91))) (vG base p a b c d ch ep mk ct iT K x _ (H.bl bA) a0);rw[A]at HL;obtain⟨tk,tl,ta,tv⟩:=t;simp only at HL;have HP:Hid (∀W,Bl w W->_):=λW hW=>qM base p a b c d ch ep mk ct iT K ep' W (H.bl hW) (aF hb hW.lt) hl;generalize (iT++if ep'=ep then []else iB 1 [ep'] [])=an at*;clear h hc HX a0 A;go_enter func175,ntmps175;go_wp2_with fail;refine HL.L ?_;rintro e y⟨v1,rfl,D,P⟩;obtain⟨V,Y,ev⟩:∃a c,v1=dk a tv.length c:=by obtain⟨a',c',e'⟩:=(iC D).len;rw[iF D]at e';exact⟨a',c',e'⟩
 subst ev;have aa:=fu ((P.heap gM).H a1);have a2:=fu ((P.heap aq).H HN);have lN:w.heap.size+1<y.heap.size:=(ae.1 a2).1;obtain⟨x0,x1,x2,x3⟩:=nN aa 0 1 2 3 rfl;simp at x0 x1 x2 x3;have ab:=fu (bA.H P);have lX:w.heap.size<y.heap.size:=C;have ar:Hid (y.ownsRow w.heap.size 5 1 (lI V tv Y) tv.length (tv.map B8)):=gL D λg hg=>aF bA.lt (D.lt g hg).1;unfold jr;clear P D HL a1 HN;go_wp2_with fail;refine(qH kd cl ca va vn vc _ C).L ?_;rw[Hc.o];rintro e w2⟨rfl,Z⟩;obtain⟨bE,HY⟩:=fl ((Bl.refl y).alloc (gO #[I wh,I 0,I m,I tk,I tl,I ta,dk V tv.length Y] 215)) (ao y (gO #[I wh,I 0,I m,I tk,I tl,I ta,dk V tv.length Y] 215));obtain⟨b2,j⟩:=fl (bE.H Z) ((Z.heap aq).H HY);have y0:=ax w2 y.heap.size 0 _ 215 (0,0) j;have g0:=aP w2 y.heap.size 0 _ 215 j;have y1:=ax w2 y.heap.size 1 _ 215 (0,0) j;have g1:=aP w2 y.heap.size 1 _ 215 j;have y2:=ax w2 y.heap.size 2 _ 215 (0,0) j;have g2:=aP w2 y.heap.size 2 _ 215 j;have y3:=ax w2 y.heap.size 3 _ 215 (0,0) j;have g3:=aP w2 y.heap.size 3 _ 215 j;have y4:=ax w2 y.heap.size 4 _ 215 (0,0) j;have g4:=aP w2 y.heap.size 4 _ 215 j;have y5:=ax w2 y.heap.size 5 _ 215 (0,0) j;have g5:=aP w2 y.heap.size 5 _ 215 j;have y6:=ax w2 y.heap.size 6 _ 215 (0,0) j;have g6:=aP w2 y.heap.size 6 _ 215 j;simp at y0 y1 y2 y3 y4 y5 y6;obtain⟨ac,ad⟩:=fl (ab.H b2) ((b2.heap lN).H a2);have a3:=af lN b2.lt;have ag:y.heap.size<w2.heap.size:=(ae.1 j).1;obtain⟨O7,ai⟩:=fl (bz.sf (w:=w2) (S:=λb=>b=y.heap.size) rfl (I 6) (I 0) (I 0) (I 0) (I 0) (I 0) OO) (J8 j (I 6) (I 0) (I 0) (I 0) (I 0) (I 0) OO);have a4:=fu (ac.B O7 λg e=>C);obtain⟨a5,ak⟩:=fl (HP _ a4) ((O7.block _ a3 C).H ad);clear Z x0 x1 x2 x3 HY bE;go_wp2_with fail;refine a5.L ?_;rintro e w3⟨K3,rfl,a6,Q,_⟩;have a7:Hid (∀g,w.heap.size<=g->¬(g=p\/(K 71).ownBlock=some g)):=by
  rintro g hg (e|e)
  .omega
  have:=(H.gZ.lt _ e).2;omega
 obtain⟨a8,a9,al,am⟩:=ju ((Q.only.block _ (af a3 O7.size) (a7 _ C)).H ak) ((Q.only.block _ (af ag O7.size) (a7 _ C)).H ai) a6 (Q.F a4);obtain⟨n0,n1,n2,n3,n4,n5,n6,f0,f1,f2,f3,f4,f5,f6⟩:=kt a8;obtain⟨z0,z1,z2,z3⟩:=nN a9 0 1 2 3 rfl;obtain⟨z4,z5,z6⟩:=px a9 4 5 6 rfl;simp at z0 z1 z2 z3 z4 z5 z6;clear a6 Q a5;go_wp2;have F:=bz.sf (w:=w3) (S:=λb=>b=w.heap.size+1) rfl (I 6) (I 0) (I 0) (I 0) (I 0) (I 0) OO;exact aG (v:=jr 6 0 0 0 0 0 OO) (by simp[results,results175,go_sem,jr,n0,n1,n2,n3,n4,n5,n6]) rfl ⟨K3,rfl,al.B F a8 C,am.new F λb e=>C⟩
open Go.RowKit
attribute [local go_sem ↓] Go.wp_at_zero Go.wp_at_succ
structure St where
 ep:Int
 mark:Int
 ct:Nat->Ct
inductive tL(a b c d ch:Int):St->Rc->St->Prop
 |lE (s:St) (e:Int) (h:s.ep<e):tL a b c d ch s ⟨1,[e],[]⟩ ⟨e,s.mark,s.ct⟩
 |rV (s:St) (e m:Int) (h:¬e<s.ep) (hm:s.mark<m):tL a b c d ch s ⟨2,[e,m],[]⟩ ⟨e,m,s.ct⟩
 |write (s:St) (e x kd cl ca:Int) (ys:List Int) (i:Nat) (h:¬e<s.ep) (hi:i<16) (hloc:n9 a b c d x=(ch,(i:Int),0)) (hlook:jQ a b c d ch s.mark s.ct x=(3,0,⟨0,0,0,[]⟩)) (hc:qd kd ys.length=true):tL a b c d ch s ⟨3,[e,x,kd,cl,ca],ys⟩ ⟨e,s.mark,λj=>if j=i then⟨kd,cl,ca,ys⟩else s.ct j⟩
def xM(h:qd kd n=true):n<=8:=by unfold qd at h;split at h;all_goals simp_all
theorem LC(base p B)(a b c d ch)(s s')(r)(iT)(K)(nv vv)(w)(h:Ks base w p a b c d ch s.ep s.mark s.ct iT K)(hb:base<=w.heap.size)(hl:iT.length<=1000000000000)(a5:∀i,i<16->(s.ct i).val.length<=255)(a6:tL a b c d ch s r s')(y:w.ownsRow B 3 1 nv r.ns.length (r.ns.map I))(hv:w.ownsRow B 5 1 vv r.val.length (r.val.map B8))(a1:∀g,vv.ownBlock=some g->(K 71).ownBlock≠some g):ib 185 #[O p,.agg #[I r.kd,nv,vv]] w λe w'=>∃K',e=gS/\Ks base w' p a b c d ch s'.ep s'.mark s'.ct (iT++r.bytes) K'/\bz (λb=>b=p\/(K 71).ownBlock=some b) w w':=by
 have hp:=h.f.lt;obtain⟨va,vc,ev⟩:=(mi hv).len;rw[ay]at ev;have P:=fu (mi hv);have a2:∀g,vv.ownBlock=some g->g<w.heap.size/\(K 71).ownBlock≠some g/\g≠p:=λg e=>⟨(hv.lt g e).2,a1 g e,λQ=>h.f.nG hv au (j4 e Q)⟩;obtain⟨a3,H⟩:=fl a2 h;clear h hv a1 a2
 cases a6 with
 |lE e he=>simp only at y P ev;obtain⟨g,cap,rfl⟩:=lL y aq;have V:=(y.lt g rfl).2;have q0:=y.cellAt 0 aq;simp only[bj,dh]at q0;have A:Hid (Bl w (w.alloc (gO #[I 1,dk (G g) 1 cap,vv] 320))):=(Bl.refl w).alloc _;have HS:=fu (Ed base p a b c d ch s.ep s.mark s.ct iT K e _ (H.bl A) (aF hb A.lt) hl);rw[az C,az C,az C]at HS;subst ev;simp only[Rc.bytes];clear y;generalize iT++iB 1 [e] []=Y at*;go_enter func185,ntmps185;go_wp2_with fail;refine HS.L ?_;rintro e1 w1⟨K',rfl,Z,D⟩;obtain⟨HK,HO⟩:=fl Z D.only;clear Z D;unfold jr;go_wp2;go_end0;exact⟨K',rfl,HK,(bz.E A).H HO⟩
 |rV e m he hm=>
  simp only at y P ev;obtain⟨g,cap,rfl⟩:=lL y aq;have V:=(y.lt g rfl).2;have q0:=y.cellAt 0 aq;simp only[bj,dh]at q0;have q1:=y.cellAt 1 aq;simp only[bj,dh,dx]at q1;have A:Hid (Bl w (w.alloc (gO #[I 2,dk (G g) 2 cap,vv] 320))):=(Bl.refl w).alloc _;have HS:Hid (∀W,Bl w W->_):=λW hW=>xz base p a b c d ch s.ep s.mark s.ct iT K e m W (H.bl hW) (aF hb hW.lt) hl he;rw[aE hm,aE hm]at HS;subst ev;simp only[Rc.bytes];clear y;generalize iT++iB 2 [e,m] []=Y at*;go_enter func185,ntmps185;go_wp2_with fail;go_region_with(go_at_call 177;refine(HS _ (by exact A.drewN _)).L ?_;rintro e1 w1⟨K',rfl,Z,D⟩;obtain⟨HK,HO⟩:=fl Z D.only;clear Z D;unfold jr);all_goals
   go_end0;exact⟨K',rfl,HK,(bz.E (A.drewN 1)).H HO⟩
 |write e x kd cl ca ys i he hi a4 a0 hc=>
  simp only at y P ev;obtain⟨g,cap,rfl⟩:=lL y aq;have V:=(y.lt g rfl).2;have q0:=y.cellAt 0 aq;have q1:=y.cellAt 1 aq;have q2:=y.cellAt 2 aq;have q3:=y.cellAt 3 aq;have q4:=y.cellAt 4 aq;simp only[bj,dh,dx]at q0 q1 q2 q3 q4;have A:Hid (Bl w (w.alloc (gO #[I 3,dk (G g) 5 cap,vv] 320))):=(Bl.refl w).alloc _;have F:Hid (¬(g=p\/(K 71).ownBlock=some g)):=by
   rintro(Q|Q)
   .exact H.f.nG y au (by rw[<-Q];rfl)
   exact j6 y H.gZ au g rfl Q
  have a7:Hid (¬(w.heap.size=p\/(K 71).ownBlock=some w.heap.size)):=by
   rintro(Q|Q)
   .omega
   have:=(H.gZ.lt _ Q).2;omega
  have lA:g<(w.alloc (gO #[I 3,dk (G g) 5 cap,vv] 320)).heap.size:=af V A.lt;have lB:w.heap.size<(w.alloc (gO #[I 3,dk (G g) 5 cap,vv] 320)).heap.size:=aq;have b2:(w.alloc (gO #[I 3,dk (G g) 5 cap,vv] 320)).cell? (U w.heap.size 2)=some vv:=by rw[ax _ _ 2 _ 320 (0,0) (ao w _)];rfl
  have HS:Hid (∀W,Bl w W->_):=λW hW=>sV base p a b c d ch s.ep s.mark s.ct iT K e x kd cl ca vv ys i W (H.bl hW) (aF hb hW.lt) hl a5 (P.bl hW) (gI (xM hc)) (λg e=>⟨af (a3 g e).1 hW.lt,(a3 g e).2⟩) he hi a4 a0 hc;subst ev;simp only[Rc.bytes];clear y;generalize iT++iB 3 [e,x,kd,cl,ca] ys=Y at*;generalize (λj=>if j=i then(⟨kd,cl,ca,ys⟩:Ct)else s.ct j)=a8 at*;go_enter func185,ntmps185;go_wp2_with fail;go_region_held3(λW=>W.cell? (U g 0)=some (I e)/\W.cell? (U g 1)=some (I x)/\W.cell? (U g 2)=some (I kd)/\W.cell? (U g 3)=some (I cl)/\W.cell? (U g 4)=some (I ca)/\W.cell? (U w.heap.size 2)=some (lI va ys vc)) (go_keep)
   (first|(go_at_call 175;refine(HS _ (by exact A.drewN _)).L ?_;rintro e1 w1⟨K',rfl,Z,D⟩;have z0:=(D.only.cell (o:=0) (by exact lA) F).H (((A.drew).cell V).H q0);have z1:=(D.only.cell (o:=1) (by exact lA) F).H (((A.drew).cell V).H q1);have z2:=(D.only.cell (o:=2) (by exact lA) F).H (((A.drew).cell V).H q2);have z3:=(D.only.cell (o:=3) (by exact lA) F).H (((A.drew).cell V).H q3);have z4:=(D.only.cell (o:=4) (by exact lA) F).H (((A.drew).cell V).H q4);have z5:=(D.only.cell (o:=2) (by exact lB) a7).H b2;obtain⟨HK,HO⟩:=fl Z D.only;clear Z D;unfold jr))
  all_goals
   go_end0;exact⟨K',rfl,HK,(bz.E (A.drewN 1)).H HO⟩
end
def Fa{base:Nat}{c:Nat}(h:w.ownsRow base e 1 (dk (G g) n c) n xs):n<=c:=by
 obtain⟨i,_⟩|⟨D,y,A,i,_,_,j,_⟩:=h.2
 .simp at i
 injection i with _ _ h3
 rw[h3];exact j
structure I3(F:Nat)(recv:Value)(p o base:Nat)(rs:List Rc)(J:World->Nat->World->Prop):Prop where
 iT:∀{w2 W:World} {j:Nat},J w2 j W->j<=rs.length->∃v B,W.cell? (U p o)=some v/\W.ownsRow B 5 1 v (off rs j) ((gY (rs.take j)).map B8)
 wU:∀{w2 W:World} {j:Nat},J w2 j W->∃cs t,w2.heap[p]?=some (.cells cs t (0,0))/\t≠320/\t≠3/\t≠5
 only:∀{w2 W:World} {j:Nat},J w2 j W->bz (λb=>b=p) w2 W
 bl:∀{w2 W W':World} {j:Nat},J w2 j W->Bl W W'->J w2 j W'
 step:∀{w2 W:World} {j:Nat} (nv vv:Value) (h:j<rs.length),J w2 j W->W.ownsRow base 3 1 nv rs[j].ns.length (rs[j].ns.map I)->W.ownsRow base 5 1 vv rs[j].val.length (rs[j].val.map B8)->(∀g,vv.ownBlock=some g->g<w2.heap.size)->
  Calls prog F #[recv,.agg #[I rs[j].kd,nv,vv]] W λe W'=>e=.returned (.tuple #[])/\J w2 (j+1) W'/\∃S,bz S W W'/\∀x cs f,W.heap[x]?=some (.cells cs 320 f)->¬S x
def rS.UE{base:Nat}{v:Value}(h:rS base w v rs xs)(D:bz S w w')(F:∀b cs e f,S b->w.heap[b]?=some (gO cs e f)->e≠320/\e≠3/\e≠5):rS base w' v rs xs:=by
 have i:∀{e:TypeId} {size:Nat} {u:Value} {n:Nat} {ys:List Value},(e=320\/e=3\/e=5)->w.ownsRow base e size u n ys->w'.ownsRow base e size u n ys:=by intro e size u n ys H A;refine D.iJ A λb L P=>?_;obtain⟨c,Q⟩:=ny A b L;obtain⟨Z,n2,n3⟩:=F b _ _ _ P Q;obtain rfl|rfl|rfl:=H<;>contradiction
 refine⟨i (.inl rfl) h.gZ,h.len,λj y=>?_,λj y=>?_,h.kd⟩
 .obtain⟨V,a,b⟩:=h.ns j y;exact⟨V,a,i (.inr (.inl rfl)) b⟩
 obtain⟨Y,a,b⟩:=h.val j y;exact⟨Y,a,i (.inr (.inr rfl)) b⟩
structure Gr(F:Nat)(recv:Value)(p o bm base:Nat)(rs:List Rc)(J:World->Nat->World->Prop):Prop where
 iT:∀{w2 W:World} {j:Nat},J w2 j W->j<=rs.length->∃v B,W.cell? (U p o)=some v/\W.ownsRow B 5 1 v (off rs j) ((gY (rs.take j)).map B8)
 VK:∀{w2 W:World} {j:Nat},J w2 j W->p<w2.heap.size
 MB:∀{w2 W:World} {j:Nat},J w2 j W->∀b cs e f,(b=p\/b=bm)->w2.heap[b]?=some (.cells cs e f)->e≠320/\e≠3/\e≠5
 only:∀{w2 W:World} {j:Nat},J w2 j W->bz (λb=>b=p\/b=bm) w2 W
 bl:∀{w2 W W':World} {j:Nat},J w2 j W->Bl W W'->J w2 j W'
 step:∀{w2 W:World} {j:Nat} (nv vv:Value) (h:j<rs.length),J w2 j W->W.ownsRow base 3 1 nv rs[j].ns.length (rs[j].ns.map I)->W.ownsRow base 5 1 vv rs[j].val.length (rs[j].val.map B8)->(∀g,vv.ownBlock=some g->g<w2.heap.size)->
  Calls prog F #[recv,.agg #[I rs[j].kd,nv,vv]] W λe W'=>e=.returned (.tuple #[])/\J w2 (j+1) W'/\∃S,bz S W W'/\∀x cs f,W.heap[x]?=some (.cells cs 320 f)->¬S x
theorem uK(F:Nat)(hF:F=185\/F=187)(a8:Value)(p o bm:Nat)(ad:Option Addr)(b o' c n bs os cs:Nat)(rs:List Rc)(kJ:List (Int×Int×Int))(w:World)(J:World->Nat->World->Prop)(hD:Gr F a8 p o bm w.heap.size rs J)(al:∀w2,Bl w w2->J w2 0 w2)(hn:n<=(gY rs).length)(bc:n<=c)(bV:n<=1000000000000)(bd:c<=9223372036854775807)(kS:0<n->ad=some (U b o')/\b<w.heap.size)(hc:∀j d,j<n->(gY rs)[j]?=some d->w.cell? (U b (o'+j))=some (B8 d))(am:lK w bs os kJ)(hs:kJ.length<=1000)(ok:∀r∈rs,r.Ok kJ):ib 183 #[.pointer (some (U p o)),dk ad n c,dk (some (U bs os)) kJ.length cs,.func (.func F) #[a8] #[]] w λe w'=>∃k w2,e=gG (.bool true)/\k<=rs.length/\off rs k<=n/\(∀h:k<rs.length,n<off rs k+rs[k].bytes.length)/\Bl w w2/\J w2 k w':=by
 obtain⟨HS,D,HJ,Ok⟩:=ju (vS ad b o' c n bs os cs rs kJ w hn bc C bd kS hc am hs ok) hD al ok;clear hn kS hc am hs ok hD al;go_enter func183,ntmps183;go_wp2_with fail;refine HS.L ?_;rintro e w2⟨k,v,xs,rfl,hk,a9,a1,hR,an⟩;have aa:(rs.take k).length=k:=gM;obtain⟨HR,HB,Hn⟩:=gV hR an a1;obtain⟨ap,ar⟩:=fl hk a9;have bW:k<=400000000000:=by have:=Ci rs k hk;omega
 obtain⟨va,vc,ev⟩:∃a c,v=dk a k c:=by
  obtain⟨e1,e2⟩|⟨g,cap,be,e1,_⟩:=hR.gZ.2
  .exact⟨none,0,by rw[e1];congr 1;omega⟩
  exact⟨_,cap,j4 e1 aa⟩
 subst ev;clear hR an a1 hk a9 HS;have c0:((k:Nat):Int)<=400000000000:=C;go_wp2;go_loopw[22](λi wr=>∃j:Nat,j<=k/\i=I j/\Hid (J w2 j wr)) λi _=>k-(intOf i).toNat
 case atStart=>exact⟨0,jd,rfl,HJ w2 HB⟩
 obtain⟨j,hj,rfl,A⟩:=hrel;by_cases iV:j<k
 .have V:j<rs.length:=af iV ap;have Y:j<(rs.take k).length:=C;have a2:(rs.take k)[j]=rs[j]:=aq;have Z:rS w.heap.size wr _ _ _:=HR.UE (D.only A) (D.MB A);obtain⟨g,cap,bg⟩:∃g cap,va=G g/\vc=cap:=by
   obtain⟨e1,e2⟩|⟨g,cap,be,e1,_⟩:=Z.gZ.2
   .exact absurd e2 C
   injection e1 with h1 h2 h3
   exact⟨g,cap,h1,h3⟩
  obtain⟨rfl,rfl⟩:=bg;have lg:g<wr.heap.size:=(Z.gZ.lt g rfl).2;have ho:wr.ownsRow w.heap.size 320 3 (dk (G g) k vc) k xs:=by have:=Z.gZ;rwa[aa]at this
  have q0:wr.cell? (U g (3*j))=xs[3*j]?:=ho.cellAt (3*j) C;have q1:wr.cell? (U g (3*j+1))=xs[3*j+1]?:=ho.cellAt (3*j+1) C;have q2:wr.cell? (U g (3*j+2))=xs[3*j+2]?:=ho.cellAt (3*j+2) C;rw[Z.kd j Y,a2]at q0;obtain⟨nv,e1,a3⟩:=Z.ns j Y;obtain⟨vv,e2,a4⟩:=Z.val j Y;rw[a2]at a3 a4;rw[e1]at q1;rw[e2]at q2;obtain⟨bi,bn⟩:=fl a3 a4;obtain⟨v0,B0,cP,hP⟩:=D.iT A C;obtain⟨ia,ic,ei⟩:∃a c,v0=dk a (off rs j) c:=by obtain⟨a',c',e'⟩:=(iC hP).len;rw[iF hP]at e';exact⟨a',c',e'⟩
  subst ei;have lp:p<wr.heap.size:=by exact af (D.VK A) (D.only A).size
  obtain⟨na,nc,en⟩:∃a c,nv=dk a rs[j].ns.length c:=by obtain⟨a',c',e'⟩:=(iC a3).len;rw[iF a3]at e';exact⟨a',c',e'⟩
  obtain⟨wa,wc,ew⟩:∃a c,vv=dk a rs[j].val.length c:=by obtain⟨a',c',e'⟩:=(iC a4).len;rw[iF a4]at e';exact⟨a',c',e'⟩
  have bo:Hid (∀g,vv.ownBlock=some g->g<w2.heap.size):=by obtain⟨bq,e3,av⟩:=HR.val j Y;obtain rfl:bq=vv:=dY (e3.symm.H e2);exact λg hg=>(av.lt g hg).2
  have aw:Hid (∀W,bz (λb=>b=p\/b=bm) w2 W->W.ownsRow w.heap.size 3 1 nv rs[j].ns.length (rs[j].ns.map I)):=by obtain⟨ab,e3,y⟩:=HR.ns j Y;obtain rfl:ab=nv:=dY (e3.symm.H e1);rw[a2]at y;exact λW hW=>hW.iJ y λb hb e'=>by obtain⟨c1,ac⟩:=ny y b hb;exact(D.MB A b _ _ _ e' ac).2.1 rfl
  have b0:Hid (∀W,bz (λb=>b=p\/b=bm) w2 W->W.ownsRow w.heap.size 5 1 vv rs[j].val.length (rs[j].val.map B8)):=by obtain⟨ab,e3,y⟩:=HR.val j Y;obtain rfl:ab=vv:=dY (e3.symm.H e2);rw[a2]at y;exact λW hW=>hW.iJ y λb hb e'=>by obtain⟨c1,ac⟩:=ny y b hb;exact(D.MB A b _ _ _ e' ac).2.2 rfl
  have bv:=fu λW=>D.step (w2:=w2) (W:=W) (j:=j) nv vv V;have bw:=(Ok _ (aL V)).k0;have b1:=(Ok _ (aL V)).k1;have b2:=(Ok _ (aL V)).n1;have b3:=(Ok _ (aL V)).v1;have c2:=qQ rs j V;have b4:Hid (gY (rs.take (j+1))=gY (rs.take j)++rs[j].bytes):=by unfold Hid;rw[aM V,kY];simp[gY]
  subst en ew;have c3:=rs[j].len;have b5:rs[j].bytes=iB rs[j].kd rs[j].ns rs[j].val:=rfl;generalize rs[j]=r at*;obtain⟨rk,rn,rv⟩:=r;simp only at*;clear a3 a4 e1 e2 Z ho a2 Y;rw[cN 3 j]at q0 q1 q2;obtain⟨b6,bX⟩:=fl (ao wr (gO #[I rk,dk na rn.length nc,dk wa rv.length wc] 320)) ((Bl.refl wr).alloc (gO #[I rk,dk na rn.length nc,dk wa rv.length wc] 320));have HC:=fu (bv _ (D.bl A bX) ((iD bX).iJ bi λ_ _ e=>e) ((iD bX).iJ bn λ_ _ e=>e) bo);obtain rfl|rfl:=hF;all_goals
   go_wp2_with fail;refine HC.L ?_;rintro e w3⟨rfl,a7,S,ag,b7⟩;have P:=(ag.block wr.heap.size aq (b7 _ _ _ b6)).H b6;have bA:=fu a7;have ai:wr.heap.size<w3.heap.size:=(ae.1 P).1;have x0:w3.cell? (U wr.heap.size 0)=some (I rk):=by rw[ax _ _ 0 _ 320 (0,0) P];rfl
   have x1:w3.cell? (U wr.heap.size 1)=some (lI na rn nc):=by rw[ax _ _ 1 _ 320 (0,0) P];rfl
   have x2:w3.cell? (U wr.heap.size 2)=some (dk wa rv.length wc):=by rw[ax _ _ 2 _ 320 (0,0) P];rfl
   obtain⟨v3,B3,bB,a6⟩:=D.iT a7 C;obtain⟨g3,Q,e3⟩:=lL a6 C;subst e3;have l3:g3<w3.heap.size:=(a6.lt g3 rfl).2;have bC:p<w3.heap.size:=af lp (aF bX.lt ag.size);have bT:=(Fa a6);have bD:=fu a6;have o2:=D.only A;have o3:=D.only a7;obtain⟨b8,b9⟩:=fl (aw w3 o3) (b0 w3 o3);have hL:off rs (j+1)-off rs j=(iB rk rn rv).length:=Vz b5;have HA:Hid (∀W,Bl w3 W->ib 234 #[.agg #[I rk,dk na rn.length nc,dk wa rv.length wc],OO] W λe w5=>∃a5 c5,e=gG (dk a5 (iB rk rn rv).length c5)/\Bl w3 w5/\Sl w5 (dk a5 (iB rk rn rv).length c5) ((iB rk rn rv).map B8)):=by intro W hW;refine(mT W.heap.size OO 0 [] rk (lI na rn nc) (dk wa rv.length wc) rn rv W mC jc C ((mi b8).bl hW) ((mi b9).bl hW) bw b1 b2 b3 (λb e=>mX e) (λb e=>mX e) (λb e=>af (b8.lt b e).2 hW.lt) λb e=>af (b9.lt b e).2 hW.lt).L ?_;rintro e w5⟨v5,rfl,hG⟩;have ak:=hG.gZ;rw[bP,dz]at ak;obtain⟨a5,c5,e5⟩:=(iC ak).len;rw[ay]at e5;subst e5;exact⟨a5,c5,rfl,hW.H (hG.only.qp λb _ e=>mX e),iC ak⟩
   have HE:Hid (∀W,Bl w3 W->Sl W (dk (some (U g3 (off rs j))) (iB rk rn rv).length (Q-off rs j)) ((iB rk rn rv).map B8)):=by intro W hW;refine .inr ⟨g3,off rs j,Q-off rs j,aq,af l3 hW.lt,λi hi=>?_⟩;rw[ay]at hi;rw[hW.cell l3,bD.cellAt (off rs j+i) C,b4.o,aZ,aC (by simp[off]),b5];simp[off];exact⟨_,ah hi,rfl⟩
   have m0:((off rs j:Nat):Int)<=((off rs (j+1):Nat):Int):=C;have m1:((off rs (j+1):Nat):Int)<=(Q:Int):=C;have m2:(0:Int)<=((off rs j:Nat):Int):=C;have m3:(0:Int)<=((off rs (j+1):Nat):Int):=C;have m4:((off rs j:Nat):Int)<=(Q:Int):=C;have m5:off rs j<=off rs (j+1):=C;clear a7 ag b7 P a6 HC b4 o2 o3 cP q0 q1 q2;generalize iB rk rn rv=bE at*;go_wp2_with fail;go_region_held (λW=>W.cell? (U p o)=some (dk (G g3) (off rs (j+1)) Q)/\W.cell? (U wr.heap.size 0)=some (I rk)/\W.cell? (U wr.heap.size 1)=some (lI na rn nc)/\W.cell? (U wr.heap.size 2)=some (dk wa rv.length wc)) (go_keep)
    (first
     |(go_at_call 234;refine(HA _ (by exact jo.drewN _)).L ?_;rintro e w5⟨a5,c5,rfl,a0,ba⟩;have z0:=(a0.cell (o:=o) bC).H bB;have z1:=(a0.cell (o:=0) ai).H x0;have z2:=(a0.cell (o:=1) ai).H x1;have z3:=(a0.cell (o:=2) ai).H x2;obtain⟨bb,bR⟩:=fl a0 ba;clear a0 ba)
     |(go_at_call 231;refine(AE _ _ bE _ (by exact HE _ bb) (by exact bR)).L ?_;rintro e w6⟨rfl,rfl⟩))
   all_goals
    go_wp2;go_roundw
    case rel=>exact⟨j+1,C,gX,D.bl bA bb⟩
    simp[intOf];omega
 obtain rfl:j=k:=C;go_wp2;go_ret;exact⟨j,w2,rfl,ap,ar,Hn,HB,A⟩
def I3.v{F:Nat}{i:Value}{o base:Nat}(h:I3 F i p o base rs J):Gr F i p o p base rs J where
 iT:=h.iT
 VK:=λj=>by obtain⟨_,_,e,_⟩:=h.wU j;exact(ae.1 e).1
 MB:=λj b _ _ _ D y=>by obtain⟨_,_,e,A⟩:=h.wU j;rw[show b=p by omega,e]at y;simp at y;obtain⟨_,rfl,_⟩:=y;exact A
 only:=λj=>(h.only j).L λ_ _ e=>.inl e
 bl:=h.bl
 step:=h.step
def Du(recv)(p o)(ad)(b o' c n bs os cs)(rs)(kJ)(w)(J)(H:I3 185 recv p o w.heap.size rs J)(i:∀w2,Bl w w2->J w2 0 w2)(L:n<=(gY rs).length)(y:n<=c)(A:n<=1000000000000)(D:c<=9223372036854775807)(P:0<n->ad=some (U b o')/\b<w.heap.size)(Q:∀j d,j<n->(gY rs)[j]?=some d->w.cell? (U b (o'+j))=some (B8 d))(F:lK w bs os kJ)(V:kJ.length<=1000)(Y:∀r∈rs,r.Ok kJ):ib 183 #[.pointer (some (U p o)),dk ad n c,dk (some (U bs os)) kJ.length cs,.func (.func 185) #[recv] #[]] w λe w'=>∃k w2,e=gG (.bool true)/\k<=rs.length/\off rs k<=n/\(∀h:k<rs.length,n<off rs k+rs[k].bytes.length)/\Bl w w2/\J w2 k w':=
 uK 185 (.inl rfl) recv p o p ad b o' c n bs os cs rs kJ w J H.v i L y A D P Q F V Y
section
def Rv:Value->Option (DataW Value×List MemPlace):=λv=>some (.held v,[])
def TV:Value:= .agg #[I 0,I 0,OO]
def TB(w):(zeroValue 311).run prog w=.ok TV w:=rfl
def Lu:Keyed prog 3:=int_keyed underlying3
def FJ:Value->Int
 | .agg a=>Go.RowKit.intOf ((a[0]?).getD undef)
 |_=>0
def Mp(w:World)(b n:Nat)(M:Int->Value):Prop:=
 ∃D:DataW Value,w.ownsMap prog 3 Rv b n D/\IsMap D/\(∀k,D.atKey (.int .i64 k) (.held TV)=.held (M k))/\∀k,has D (.int .i64 k)=true->FJ (M k)≠0
def BH(M:Int->Value)(k:Int)(v:Value):Int->Value:=λj=>if j=k then v else M j
def Mp.lt(h:Mp w b n M):b<w.heap.size:=by obtain⟨D,i,_⟩:=h;exact i.lt
def Mp.ox(h:Mp w b n M)(e:w'.heap[b]?=w.heap[b]?):Mp w' b n M:=by obtain⟨D,⟨j,i,y,A⟩,F⟩:=h;exact⟨D,⟨j,i,e.H y,A⟩,F⟩
def Mp.only(h:Mp w b n M)(i:bz S w w')(j:¬S b):Mp w' b n M:=h.ox (i.block b h.lt j)
def Mp.bl(h:Mp w b n M)(i:Bl w w'):Mp w' b n M:=h.ox (i.heap h.lt)
def Mp.mono{i:Nat}(h:Mp w b n M)(j:n<=i):Mp w b i M:=by obtain⟨D,y,A⟩:=h;exact⟨D,y.mono j,A⟩
def Mp.ne(h:Mp w b n M){f:Nat×Nat}(j:w.heap[g]?=some (gO cs t f)):g≠b:=by rintro rfl;obtain⟨D,⟨y,i,A,_⟩,_⟩:=h;simp_all
def Mp.nG(h:Mp w b n M){base:Nat}{size:Nat}{v:Value}(i:w.ownsRow base e size v k xs):v.ownBlock≠some b:=by intro j;obtain⟨c,y⟩:=ny i b j;exact h.ne y rfl
def Mp.Cr(w:World):Mp (w.alloc (.map #[] 0)) w.heap.size 0 (λ_=>TV):=
 ⟨.map [],World.ownsMap_made w prog 3 Rv,⟨_,rfl⟩,λ_=>rfl,λk h=>by simp[has]at h⟩
def Mp.oH(h:Mp w b n M)(k)(j:(Lit.int .i64 k).wf=true):(Instr.lookup 251 (.map (some b)) (I k) false).run prog w=.ok (M k) w:=by obtain⟨D,y,F,A,_⟩:=h;obtain⟨v,ps,H,i⟩:=y.lookup Lu underlying251 (TB w) rfl (keyOf_int_mk underlying3 j);rw[A]at i;simp only[Rv,aJ,Prod.mk.injEq,DataW.held.injEq]at i;simp_all
def Mp.put(h:Mp w b n M)(k)(i:(Lit.int .i64 k).wf=true)(v)(F:n<maxLen)(H:FJ v≠0):∃w',(Instr.mapUpdate 251 (.map (some b)) (I k) v).run prog w=.ok () w'/\Mp w' b (n+1) (BH M k v)/\bz (λx=>x=b) w w':=by
 obtain⟨D,P,y,Q,V⟩:=h;obtain⟨w',Y,Z,hg⟩:=P.update (e:=311) Lu underlying251 F (keyOf_int_mk underlying3 i) (val:=v) (ps:=[]) rfl;refine⟨w',Y,⟨_,Z,?_,λj=>?_,λj A=>?_⟩,(bz.B hg).L λx _ e=>iG e⟩
 .obtain⟨es,rfl⟩:=y;exact⟨_,rfl⟩
 .unfold BH;by_cases e:j=k
  .subst e;rw[aE rfl,atKey_put_same y (Lu.key (keyOf_int_mk underlying3 i))]
  rw[az e,atKey_put_other (iG e),Q]
 unfold BH;by_cases e:j=k
 .simp_all
 rw[az e];rw[has_put_other (iG e)]at A;exact V j A
open Go.RowKit Go.Maps
attribute [local go_sem ↓] Go.wp_at_zero Go.wp_at_succ
structure Ep where
 pr:Int
 ba:Int
 val:List Int
def nD(E:Int->Ep)(k:Int)(s:Ep):Int->Ep:=λj=>if j=k then s else E j
structure Vs(base:Nat)(w:World)(p bm n:Nat)(E:Int->Ep)(iT:List Int)(M:Int->Value)(vi:Value)(t:TypeId):Prop where
 f:w.heap[p]?=some (.cells #[.map (some bm),vi] t (0,0))
 ty:t=253\/t=255
 mp:Mp w bm n M
 ep:∀e,∃vv,M e=.agg #[I (E e).pr,I (E e).ba,vv]/\w.ownsRow base 5 1 vv (E e).val.length ((E e).val.map B8)/\∀g,vv.ownBlock=some g->vi.ownBlock≠some g
 gZ:w.ownsRow base 5 1 vi iT.length (iT.map B8)
def Vs.lt{base:Nat}{E:Int->Ep}(h:Vs base w p bm n E iT M vi t):p<w.heap.size:=(ae.1 h.f).1
def Vs.c0{base:Nat}{E:Int->Ep}(h:Vs base w p bm n E iT M vi t):w.cell? (U p 0)=some (.map (some bm)):=by rw[ax w p 0 _ t _ h.f];rfl
def Vs.c1{base:Nat}{E:Int->Ep}(h:Vs base w p bm n E iT M vi t):w.cell? (U p 1)=some vi:=by rw[ax w p 1 _ t _ h.f];rfl
def Vs.pm{base:Nat}{E:Int->Ep}(h:Vs base w p bm n E iT M vi t):p≠bm:=h.mp.ne h.f
def Vs.FQ{base:Nat}{E:Int->Ep}(h:Vs base w p bm n E iT M vi t){B:Nat}{v:Value}(i:w.ownsRow B 5 1 v k xs):v.ownBlock≠some p:=gJ i h.f (by obtain e|e:=h.ty<;>rw[e]<;>decide)
def Vs.only{base:Nat}{E:Int->Ep}(h:Vs base w p bm n E iT M vi t)(i:bz S w w')(y:∀b,S b->b≠p/\b≠bm/\∀cs f,w.heap[b]?≠some (gO cs 5 f)):Vs base w' p bm n E iT M vi t:=by
 have j:∀{v:Value} {k:Nat} {xs:List Value},w.ownsRow base 5 1 v k xs->w'.ownsRow base 5 1 v k xs:=λA=>i.iJ A λb e D=>by obtain⟨c,F⟩:=ny A b e;simp_all
 refine⟨(i.block p h.lt λe=>(y p e).1 rfl).H h.f,h.ty,h.mp.only i λe=>(y bm e).2.1 rfl,λe=>?_,j h.gZ⟩;obtain⟨L,P,Q,V⟩:=h.ep e;simp_all
def Vs.bl{base:Nat}{E:Int->Ep}(h:Vs base w p bm n E iT M vi t)(i:Bl w w'):Vs base w' p bm n E iT M vi t:=h.only (iD i) λ_ e=>e.elim
def Wr:Value->Value
 | .agg a=>(a.toList[2]?).getD OO
 |v=>v
def CN(M:Int->Value)(vi:Value)(g:Nat):Prop:=vi.ownBlock=some g\/∃e,(Wr (M e)).ownBlock=some g
def Vs.vM{base:Nat}{E:Int->Ep}(h:Vs base w p bm n E iT M vi t)(i:CN M vi g):base<=g/\g<w.heap.size:=by
 obtain i|⟨e,i⟩:=i
 .exact h.gZ.lt g i
 obtain⟨A,j,y,_⟩:=h.ep e;rw[j]at i;exact y.lt g i
structure sb(p bm:Nat)(M:Int->Value)(vi:Value)(M':Int->Value)(vi':Value)(w w':World):Prop where
 only:bz (λb=>b=p\/b=bm\/vi.ownBlock=some b) w w'
 h:∀g,CN M' vi' g->CN M vi g\/w.heap.size<=g
def sb.F{i:Value}(h:sb p bm M vi M' i W w')(j:Bl w W):sb p bm M vi M' i w w':=
 ⟨(bz.E j).H h.only,λg y=>(h.h g y).imp id (aF j.lt)⟩
def sb.post{i:Value}{j:World}(h:sb p bm M vi M' i w j)(y:Bl j w'):sb p bm M vi M' i w w':=
 ⟨h.only.H (bz.E y),h.h⟩
def Vs.Ro{base:Nat}{w2:World}{E:Int->Ep}{D:List Int}{i:Value}(h:Vs base w p bm n E iT M vi t)(e)(s)(vv){L:Nat}(hW:Bl w W)(hm:bz (λx=>x=bm) W w2)(a2:Mp w2 bm (n+1) (BH M e (.agg #[I s.pr,I s.ba,vv])))(P:W.ownsRow base 5 1 vv s.val.length (s.val.map B8))(Q:∀g,vv.ownBlock=some g->vi.ownBlock≠some g)(a3:∀g,vv.ownBlock=some g->CN M vi g\/w.heap.size<=g){w3:World}(V:Bl w2 w3)(hk:Kept base w3 w' p 1 vi i L xs)(hL:L=iT.length+D.length)(hx:xs=iT.map B8++D.map B8):Vs base w' p bm (n+1) (nD E e s) (iT++D) (BH M e (.agg #[I s.pr,I s.ba,vv])) i t/\sb p bm M vi (BH M e (.agg #[I s.pr,I s.ba,vv])) i w w':=by
 obtain⟨W4,w5,Y,F,rfl⟩:=hk.ex;have y:=h.bl hW;have O3:bz (λb=>b=bm) W W4:=hm.H (bz.E (V.H Y));have O5:bz (λb=>b=bm\/vi.ownBlock=some b) W w5:=(O3.L λb _ e=>.inl e).H (F.only.L λb _ e=>.inr e);have Z:vi.ownBlock≠some p:=y.FQ y.gZ;have a0:w5.heap[p]?=some (gO #[.map (some bm),vi] t (0,0)):=(O5.block p y.lt (by rintro(e|e);exact y.pm e;exact Z e)).H y.f;have OS:bz (λb=>b=p) w5 (w5.setCell (U p 1) i):=(bz.refl (λb=>b=p) w5).setCell (U p 1) (.inl rfl) i;have O6:bz (λb=>b=p\/b=bm\/vi.ownBlock=some b) W (w5.setCell (U p 1) i):=(O5.L λb _ e=>.inr e).H (OS.L λb _ e=>.inl e);have oj:∀{v:Value} {k:Nat} {ys:List Value},W.ownsRow base 5 1 v k ys->(∀g,v.ownBlock=some g->vi.ownBlock≠some g)->(w5.setCell (U p 1) i).ownsRow base 5 1 v k ys:=λhr ha=>O6.iJ hr λb e hS=>by
  obtain rfl|rfl|hS:=hS
  .exact y.FQ hr e
  .exact y.mp.nG hr e
  exact ha b e hS
 have lM:∀{v:Value} {k:Nat} {ys:List Value},W.ownsRow base 5 1 v k ys->(∀g,v.ownBlock=some g->vi.ownBlock≠some g)->∀g,v.ownBlock=some g->i.ownBlock≠some g:=λhr ha g e e'=>by
  obtain e'|e':=F.h g e'
  .exact ha g e e'
  have:=(hr.lt g e).2;have:=O3.size;omega
 have a1:vi.ownBlock≠some bm:=y.mp.nG y.gZ;refine⟨⟨?_,h.ty,?_,λj=>?_,?_⟩,(bz.E hW).H O6,λg A=>?_⟩
 rotate_left 4
 .obtain A|⟨j,A⟩:=A
  .obtain e'|e':=F.h g A
   .exact .inl (.inl e')
   exact .inr (aF hW.lt (aF O3.size e'))
  unfold BH at A;split at A
  .exact a3 g A
  exact .inl (.inr ⟨j,A⟩)
 .have:=cH w5 p 1 _ t i a0;exact this
 .refine((a2.bl (V.H Y)).only F.only a1).only OS λe=>y.pm e.symm
 .unfold BH nD;by_cases e1:j=e
  .rw[aE e1,aE e1];exact⟨vv,rfl,oj P Q,lM P Q⟩
  rw[az e1,az e1];obtain⟨u,h1,h2,h3⟩:=y.ep j;exact⟨u,h1,oj h2 h3,lM h2 h3⟩
 rw[aO,aZ,<-hx,<-hL];exact OS.iJ F.gZ λb e e'=>gJ F.gZ a0 (by obtain e|e:=h.ty<;>rw[e]<;>decide) (j4 e e')
end
theorem D6(base p bm n)(E)(iT)(M)(vi)(t)(e b)(a0:b≠0)(w)(h:Vs base w p bm n E iT M vi t)(hb:base<=w.heap.size)(hl:iT.length<=1000000000000)(hn:n<=1000000000000)(he:(Lit.int .i64 e).wf=true):ib 229 #[O p,I e,I b] w λen w'=>∃M' A,en=gS/\Vs base w' p bm (n+1) (nD E e ⟨b,(E e).ba,(E e).val⟩) (iT++iB 1 [e,b] []) M' A t/\sb p bm M vi M' A w w':=by
 obtain⟨vv,hM,j,F⟩:=h.ep e;obtain⟨Z,vc,rfl⟩:∃a c,vv=dk a (E e).val.length c:=by obtain⟨a',c',e'⟩:=(iC j).len;rw[iF j]at e';exact⟨a',c',e'⟩
 have hp:=h.lt;have c0:=h.c0;have D:=h.mp.oH e he;rw[hM]at D;have L:=fu ((Bl.refl w).alloc (gO #[I b,I (E e).ba,dk Z (E e).val.length vc] 311));obtain⟨w2,a2,y,P⟩:=(h.mp.bl (L.drew)).put e he (.agg #[I b,I (E e).ba,dk Z (E e).val.length vc]) (by unfold maxLen;omega) (by simpa [FJ,Go.RowKit.intOf]using a0);obtain⟨H,HM,HO⟩:=gV h y P;obtain⟨HV,HA,a1⟩:=gV j F hM;clear h y P j F hM;generalize hs:(E e).ba=eb at*;generalize hv:(E e).val=ev at*;obtain⟨Hs,Hv⟩:=fl hs hv;clear hs hv;go_enter func229,ntmps229;go_wp2;go_region;obtain⟨bB,i⟩:=fl ((Bl.refl w2).alloc (gO #[I e,I b] 3)) (H.bl (L.drew));have OW:Hid (bz (λx=>x=bm) (w.alloc (gO #[I b,I eb,dk Z ev.length vc] 311)).drew (w2.alloc (gO #[I e,I b] 3))):=HO.H (bz.E bB);have Q:=(OW.block p i.lt i.pm).H i.f;have V:=OW.iJ i.gZ λb' Y e2=>i.mp.nG i.gZ (j4 Y e2);have hN:Bs (w2.alloc (gO #[I e,I b] 3)) (dk (G w2.heap.size) 2 2) ([e,b].map I):=vR w2 3 #[I e,I b] 2 rfl;have l2:w.heap.size<=w2.heap.size:=aF L.lt HO.size;have HK:=fu (yt base p 1 _ t vi iT.length (iT.map B8) 1 (dk (G w2.heap.size) 2 2) OO [e,b] [] _ Q rfl (by obtain e|e:=H.ty<;>rw[e]<;>decide) V gM hl hN (.inl ⟨rfl,rfl⟩) au au aq aq (λg Y e2=>by
  simp[Value.ownBlock]at e2
  have:=(H.gZ.lt g Y).2
  omega) (λg e e'=>mX e') (λg e=>by simp[Value.ownBlock]at e;subst e;simp) λg e=>mX e)
 clear Q V hN;go_wp2_with fail;refine HK.L ?_;rintro en w'⟨A,rfl,hk⟩;have R:=fu (H.Ro e ⟨b,eb,ev⟩ (lI Z ev vc) (L.drew) HO HM ((iD L.drew).iJ HV λ_ _ e=>e) HA (λg Y=>.inl (.inr ⟨e,jP a1.o Y⟩)) bB hk rfl rfl);clear hk HK;go_wp2;go_end0;exact⟨_,_,rfl,R.1,R.2⟩
theorem D2(base p bm n)(E)(iT)(M)(vi)(t)(e b)(a4:b≠0)(v)(ys)(w)(h:Vs base w p bm n E iT M vi t)(hb:base<=w.heap.size)(hl:iT.length<=1000000000000)(hn:n<=1000000000000)(he:(Lit.int .i64 e).wf=true)(hv:Bs w v (ys.map B8))(hy:ys.length<=255)(a0:∀g,v.ownBlock=some g->g<w.heap.size/\vi.ownBlock≠some g/\g≠bm):ib 232 #[O p,I e,I b,v] w λen w'=>∃M' V,en=gS/\Vs base w' p bm (n+1) (nD E e ⟨b,b,ys⟩) (iT++iB 2 [e,b] ys) M' V t/\sb p bm M vi M' V w w':=by
 obtain⟨va,vc,ev⟩:=hv.len;rw[ay]at ev;subst ev;have hp:=h.lt;have c0:=h.c0;obtain⟨H,Hv,Y⟩:=gV h hv a0;clear h hv a0;have HC:Hid (∀W,Bl w W->ib 87 #[dk va ys.length vc] W λen F=>∃y A w2,en=gG (lI y ys A)/\Bl w F/\F.cell? (U p 0)=some (.map (some bm))/\F.ownsRow w.heap.size 5 1 (lI y ys A) ys.length (ys.map B8)/\(Instr.mapUpdate 251 (.map (some bm)) (I e) (.agg #[I b,I b,dk y ys.length A])).run prog F=.ok () w2/\Mp w2 bm (n+1) (BH M e (.agg #[I b,I b,dk y ys.length A]))/\bz (λx=>x=bm) F w2):=by
  intro W hW;refine(nY (lI va ys vc) ys W (Hv.bl hW) C).L ?_;rintro en F⟨u,rfl,a5,Z⟩;obtain⟨y,A,rfl⟩:∃a c,u=dk a ys.length c:=by obtain⟨a',c',P⟩:=(iC Z).len;rw[iF Z]at P;exact⟨a',c',P⟩
  have hB:=hW.H a5;obtain⟨w2,Q,i,D⟩:=(H.mp.bl hB).put e he (.agg #[I b,I b,dk y ys.length A]) (by unfold maxLen;omega) (by simpa [FJ,Go.RowKit.intOf]using a4);exact⟨y,A,w2,rfl,hB,(H.bl hB).c0,gL Z λg e=>aF hW.lt (Z.lt g e).1,Q,i,D⟩
 go_enter func232,ntmps232;go_wp2;go_region_with(go_at_call 87;refine(HC _ (by exact jo.drewN _)).L ?_;rintro en F⟨y,A,w2,rfl,hB,c1,Z,Q,i,D⟩;obtain⟨HB,HU,HM,HO⟩:=ju hB Z i D;clear hB Z i D);all_goals
  obtain⟨bB,j⟩:=fl ((Bl.refl w2).alloc (gO #[I e,I b] 3)) (H.bl HB);have OW:Hid (bz (λx=>x=bm) F (w2.alloc (gO #[I e,I b] 3))):=HO.H (bz.E bB);have a1:=(OW.block p j.lt j.pm).H j.f;have a2:=OW.iJ j.gZ λb' e1 e2=>j.mp.nG j.gZ (j4 e1 e2);have a3:=(Hv.bl HB).only OW λg e P=>(Y g e).2.2 P;have hN:Bs (w2.alloc (gO #[I e,I b] 3)) (dk (G w2.heap.size) 2 2) ([e,b].map I):=vR w2 3 #[I e,I b] 2 rfl;have l2:w.heap.size<=w2.heap.size:=aF HB.lt HO.size;have HK:=fu (yt base p 1 _ t vi iT.length (iT.map B8) 2 (dk (G w2.heap.size) 2 2) (lI va ys vc) [e,b] ys _ a1 rfl (by obtain e|e:=H.ty<;>rw[e]<;>decide) a2 gM hl hN a3 au au aq hy (λg e1 e2=>by
   simp[Value.ownBlock]at e2
   have:=(H.gZ.lt g e1).2
   omega) (λg e P=>(Y g P).2.1 e) (λg e=>by simp[Value.ownBlock]at e;subst e;simp) λg e=>by have:=(Y g e).1;simp;omega)
  clear a1 a2 hN a3;go_wp2_with fail;refine HK.L ?_;rintro en w'⟨V,rfl,hk⟩;have R:=fu (H.Ro e ⟨b,b,ys⟩ (lI y ys A) HB HO HM (gL HU λg e=>aF hb (HU.lt g e).1) (λg e P=>by have:=(HU.lt g e).1;have:=(H.gZ.lt g P).2;omega) (λg e=>.inr (HU.lt g e).1) bB hk rfl rfl);clear hk HK;go_wp2;go_end0;exact⟨_,_,rfl,R.1,R.2⟩
theorem wP(pr ba)(a)(n c)(w):ib 228 #[.agg #[I pr,I ba,dk a n c]] w λe w'=>e=gG (.agg #[I 6,I pr,I 0,OO])/\Bl w w':=by
 go_enter func228,ntmps228;go_wp2;exact aG (by simp[results,results228,go_sem]) rfl ⟨rfl,(jo.alloc _).alloc _⟩
theorem pX(a)(n c:Nat)(w)(y:(n:Int)<=9223372036854775807):ib 230 #[dk a n c] w λe w'=>e=gG (.bool (decide (1<=n/\n<=255)))/\Bl w w':=by
 by_cases A:1<=n
 .by_cases D:n<=255
  .have i:(1:Int)<=(n:Int):=C;have j:(n:Int)<=255:=C;go_enter func230,ntmps230;go_wp2;go_ret;exact⟨by rw[show decide (1<=n/\n<=255)=true from by simp;omega];rfl,jo⟩
  have i:(1:Int)<=(n:Int):=C;have j:¬(n:Int)<=255:=C;go_enter func230,ntmps230;go_wp2;go_ret;exact⟨rfl,jo⟩
 have i:¬(1:Int)<=(n:Int):=C;go_enter func230,ntmps230;go_wp2;go_ret;exact⟨rfl,jo⟩
def sb.Dq{i:Value}{j:World}(h:sb p bm M vi M' i w j)(k:bz T j w')(y:∀n,T n->w.heap.size<=n):sb p bm M vi M' i w w':=
 ⟨h.only.wu k y,h.h⟩
def kP(wh pr ba:Int)(v:Value):Value:= .agg #[I wh,I pr,I ba,v]
def jW:Array Value:=#[I 0,I 0,I 0,OO]
def nf(h:w.heap[g]?=some (gO jW 222 (0,0))):w.cell? (U g 0)=some (I 0)/\w.cell? (U g 1)=some (I 0)/\w.cell? (U g 2)=some (I 0)/\w.cell? (U g 3)=some OO/\w.frozen? (U g 0)=false/\w.frozen? (U g 1)=false/\w.frozen? (U g 2)=false/\w.frozen? (U g 3)=false:=
 ⟨ax w g 0 _ 222 (0,0) h,ax w g 1 _ 222 (0,0) h,ax w g 2 _ 222 (0,0) h,ax w g 3 _ 222 (0,0) h,aP w g 0 _ 222 h,aP w g 1 _ 222 h,aP w g 2 _ 222 h,aP w g 3 _ 222 h⟩
def bz.Gp(i:S g)(u0 u1 u2 u3):bz S w ((((w.setCell (U g 0) u0).setCell (U g 1) u1).setCell (U g 2) u2).setCell (U g 3) u3):=
 ((((bz.refl S w).setCell (U g 0) (.inl i) u0).setCell (U g 1) (.inl i) u1).setCell (U g 2) (.inl i) u2).setCell (U g 3) (.inl i) u3
def Vs.B{base:Nat}{E:Int->Ep}(h:Vs base w p bm n E iT M vi t)(y:bz (λx=>x=g) w w'){i:TypeId}(j:w.heap[g]?=some (gO cs i (0,0)))(A:i≠5)(D:p≠g):Vs base w' p bm n E iT M vi t:=
 h.only y λb e=>by subst e;refine⟨Ne.symm D,h.mp.ne j,λcs f e=>?_⟩;rw[j]at e;simp only[aJ,Obj.cells.injEq]at e;exact A e.2.1
abbrev FG(p0:World):=p0.alloc (gO jW 222)
theorem Ar(base p bm n)(E)(iT)(M)(vi)(t)(e b)(w)(h:Vs base w p bm n E iT M vi t)(he:(Lit.int .i64 e).wf=true)(D:e<1\/b<1\/b<=(E e).pr):ib 180 #[O p,I e,I b] w λen w'=>en=gG (kP 6 (E e).pr 0 OO)/\Vs base w' p bm n E iT M vi t/\Bl w w':=by
 obtain⟨vv,hM,L,Q⟩:=h.ep e;obtain⟨V,Y,rfl⟩:∃a c,vv=dk a (E e).val.length c:=by obtain⟨a',c',e'⟩:=(iC L).len;rw[iF L]at e';exact⟨a',c',e'⟩
 have hp:=h.lt;have c0:=h.c0;have bA:=fu ((Bl.refl w).alloc (gO jW 222));have y:=(h.mp.bl bA).oH e he;rw[hM]at y;unfold jW at y;have H:=fu h;clear h L Q hM;have a0:=fu D;generalize (E e).pr=pr at*;generalize (E e).ba=Z at*;generalize (E e).val.length=vl at*;have HR:Hid (∀W,_):=λW=>wP pr Z V vl Y W;obtain⟨bB,HN⟩:=fl (bA.alloc (gO #[I pr,I Z,dk V vl Y] 311)) (ao w (gO jW 222));have fin:Hid (∀w2,Bl ((FG w).alloc (gO #[I pr,I Z,dk V vl Y] 311)) w2->w2.heap[w.heap.size]?=some (gO jW 222 (0,0))):=λw2 h2=>(h2.heap gM).H ((fJ (FG w) _ w.heap.size aq).H HN);by_cases h1:e<1
 case' neg=>
  by_cases h2:b<1
  case neg=>have h3:b<=pr:=C;clear D;go_enter func180,ntmps180;go_wp2_with fail;refine gF (HR _) λw2 j=>?_;have i:=fin w2 j;have lN:w.heap.size<w2.heap.size:=(ae.1 i).1;obtain⟨n0,n1,n2,n3,f0,f1,f2,f3⟩:=nf i;obtain⟨P,A⟩:=fl i (bB.H j);clear i j;go_wp2;have F:=bz.Gp (w:=w2) (S:=λb=>b=w.heap.size) rfl (I 6) (I pr) (I 0) OO;exact aG (v:=kP 6 pr 0 OO) (by simp[results,results180,go_sem,kP,n0,n1,n2,n3]) rfl ⟨rfl,(H.bl A).B F P au C,A.B F λn e=>C⟩
 all_goals
  clear D;go_enter func180,ntmps180;go_wp2_with fail;refine gF (HR _) λw2 j=>?_;have i:=fin w2 j;have lN:w.heap.size<w2.heap.size:=(ae.1 i).1;obtain⟨n0,n1,n2,n3,f0,f1,f2,f3⟩:=nf i;obtain⟨P,A⟩:=fl i (bB.H j);clear i j;go_wp2;have F:=bz.Gp (w:=w2) (S:=λb=>b=w.heap.size) rfl (I 6) (I pr) (I 0) OO;exact aG (v:=kP 6 pr 0 OO) (by simp[results,results180,go_sem,kP,n0,n1,n2,n3]) rfl ⟨rfl,(H.bl A).B F P au C,A.B F λn e=>C⟩
theorem sI(base p bm n)(E)(iT)(M)(vi)(t)(e b)(w)(h:Vs base w p bm n E iT M vi t)(hb:base<=w.heap.size)(hl:iT.length<=1000000000000)(hn:n<=1000000000000)(he:(Lit.int .i64 e).wf=true)(ak:(E e).val.length<=255)(h1:1<=e)(h2:1<=b)(h3:(E e).pr<b):ib 180 #[O p,I e,I b] w λen w'=>∃M' y v',en=gG (kP 1 b (E e).ba v')/\w'.ownsRow w.heap.size 5 1 v' (E e).val.length ((E e).val.map B8)/\Vs base w' p bm (n+1) (nD E e ⟨b,(E e).ba,(E e).val⟩) (iT++iB 1 [e,b] []) M' y t/\sb p bm M vi M' y w w'/\∀g,v'.ownBlock=some g->¬CN M' y g:=by
 obtain⟨vv,hM,Q,a2⟩:=h.ep e;obtain⟨va,vc,rfl⟩:∃a c,vv=dk a (E e).val.length c:=by obtain⟨a',c',e'⟩:=(iC Q).len;rw[iF Q]at e';exact⟨a',c',e'⟩
 have hp:=h.lt;have c0:=h.c0;have bA:=fu ((Bl.refl w).alloc (gO jW 222));have A:=(h.mp.bl bA).oH e he;rw[hM]at A;unfold jW at A;have HP:Hid (∀W,Bl w W->_):=λW hW=>D6 base p bm n E iT M vi t e b C W (h.bl hW) (aF hb hW.lt) hl hn he;obtain⟨H,HV,HA⟩:=gV h Q a2;clear h Q a2 hM;generalize nD E e ⟨b,(E e).ba,(E e).val⟩=E' at*;generalize iT++iB 1 [e,b] []=ai at*;generalize (E e).pr=pr at*;generalize (E e).ba=ba at*;generalize (E e).val=j at*;obtain⟨bB,HN⟩:=fl (bA.alloc (gO #[I pr,I ba,dk va j.length vc] 311)) (ao w (gO jW 222));obtain⟨aa,HX⟩:=fl ((fJ (FG w) (gO #[I pr,I ba,dk va j.length vc] 311) w.heap.size aq).H HN) (ao (FG w) (gO #[I pr,I ba,dk va j.length vc] 311));rw[show(FG w).heap.size=w.heap.size+1 from by simp]at HX;have a3:=fu (HP _ bB);have a4:Hid (∀g,w.heap.size<=g->¬(g=p\/g=bm\/vi.ownBlock=some g)):=by
  rintro g hg (e|e|e)
  .omega
  .have:=H.mp.lt;omega
  have:=(H.gZ.lt _ e).2;omega
 have al:¬e<1:=C;have am:¬b<1:=C;have an:¬b<=pr:=C;go_enter func180,ntmps180;go_wp2_with fail;refine a3.L ?_;rintro en w2⟨M',y,rfl,a5,D⟩;have V:=(D.only.block w.heap.size gM (a4 _ jc)).H aa;have Y:=(D.only.block (w.heap.size+1) aq (a4 _ C)).H HX;have P:w.heap.size<w2.heap.size:=(ae.1 V).1;have lX:w.heap.size+1<w2.heap.size:=(ae.1 Y).1;have ab:=fu V;have x1:w2.cell? (U (w.heap.size+1) 1)=some (I ba):=by rw[ax _ _ 1 _ 311 (0,0) Y];rfl
 have x2:w2.cell? (U (w.heap.size+1) 2)=some (lI va j vc):=by rw[ax _ _ 2 _ 311 (0,0) Y];rfl
 have a6:=fu (H.bl bB);have Z:=(iD bB).iJ HV λ_ _ e=>e;have ac:=fu (D.only.iJ Z λg e1 e2=>by
  obtain e2|e2|e2:=e2
  .exact a6.FQ Z (j4 e1 e2)
  .exact a6.mp.nG Z (j4 e1 e2)
  .exact HA g e1 e2)
 obtain⟨a7,ad⟩:=fl a5 (D.F bB);obtain⟨n0,n1,n2,n3,f0,f1,f2,f3⟩:=nf V;have HC:Hid (∀W,Bl w2 W->ib 87 #[dk va j.length vc] W λen w3=>∃ua uc,en=gG (lI ua j uc)/\Bl w2 w3/\w3.ownsRow w2.heap.size 5 1 (lI ua j uc) j.length (j.map B8)):=by
  intro W hW;refine(nY (lI va j vc) j W ((mi ac).bl hW) C).L ?_;rintro en w3⟨u,rfl,ag,hu⟩;obtain⟨ua,uc,rfl⟩:∃a c,u=dk a j.length c:=by obtain⟨a',c',e'⟩:=(iC hu).len;rw[iF hu]at e';exact⟨a',c',e'⟩
  exact⟨ua,uc,rfl,hW.H ag,gL hu λg e=>aF hW.lt (hu.lt g e).1⟩
 clear V Y Z a5 D a3;go_wp2_with fail;go_region_held3(λW=>W.cell? (U (w.heap.size+1) 1)=some (I ba)/\W.cell? (U (w.heap.size+1) 2)=some (lI va j vc)/\w2.heap.size<=W.heap.size/\True) (first|go_keep|(simp only[ZU,ZS];trivial))
  (first|(go_at_call 87;refine(HC _ (by exact jo.drewN _)).L ?_;rintro en w3⟨ua,uc,rfl,i,a8⟩;have y1:=(i.cell (o:=1) lX).H x1;have y2:=(i.cell (o:=2) lX).H x2;have l3:=i.lt;have m0:=(i.cell (o:=0) P).H n0;have m1:=(i.cell (o:=1) P).H n1;have m2:=(i.cell (o:=2) P).H n2;have m3:=(i.cell (o:=3) P).H n3;have k0:=(i.frozen (o:=0) P).H f0;have k1:=(i.frozen (o:=1) P).H f1;have k2:=(i.frozen (o:=2) P).H f2;have k3:=(i.frozen (o:=3) P).H f3;obtain⟨a0,a1⟩:=fl i a8;clear i a8))
 all_goals
  go_wp2;have a9:w3.heap[w.heap.size]?=some (gO jW 222 (0,0)):=(a0.heap P).H ab;have F:=bz.Gp (w:=w3) (S:=λb=>b=w.heap.size) rfl (I 1) (I b) (I ba) (lI ua j uc);have hu:=gL (base':=w.heap.size) a1 λg e=>aF (eS P) (a1.lt g e).1;exact aG (v:=kP 1 b ba (lI ua j uc)) (by simp[results,results180,go_sem,kP,m0,m1,m2,m3]) rfl ⟨M',y,_,rfl,F.iJ hu λg e e'=>gJ hu a9 au (j4 e e'),(a7.bl a0).B F a9 au C,(ad.post a0).Dq F λg e=>cY e.symm,λg e hF=>by have:=(a1.lt g e).1;have:=(a7.vM hF).2;omega⟩
section
theorem mE(ys):(ik ys).data.toList=ys.map (λn=>UInt8.ofNat n.toNat):=by
 have i:∀(ys:List Int) (r:ByteArray),(ys.foldl (λr n=>r.push (UInt8.ofNat n.toNat)) r).data.toList=r.data.toList++ys.map (λn=>UInt8.ofNat n.toNat):=by
  intro ys;induction ys with
  |nil=>intro r;simp
  |cons y ys j=>intro r;rw[dF,j];simp[ByteArray.push]
 have:=i ys ByteArray.empty;unfold ik;rw[this];rfl
theorem oN:∀{xs ys:List Int},(∀d∈xs,0<=d/\d<=255)->(∀d∈ys,0<=d/\d<=255)->(ik xs).toList=(ik ys).toList->xs=ys:=by
 intro xs ys A D h;have i:xs.map (λn:Int=>UInt8.ofNat n.toNat)=ys.map (λn=>UInt8.ofNat n.toNat):=by rw[<-mE,<-mE,<-ey,<-ey,h]
 clear h;induction xs generalizing ys with
 |nil=>
  cases ys with
  |nil=>rfl
  |cons y ys=>simp at i
 |cons x xs F=>
  cases ys with
  |nil=>simp at i
  |cons y ys=>simp only[bj,List.cons.injEq]at i;have e:=Z5 UInt8.toNat i.1;simp only[UInt8.toNat_ofNat']at e;have H:=A x (aN ..);have L:=D y (aN ..);rw[F (λd j=>A d (aX _ j)) (λd j=>D d (aX _ j)) i.2];congr 1;omega
theorem DA(u v)(xs ys:List Int)(w)(j:Sl w u (xs.map B8))(y:Sl w v (ys.map B8))(A:∀d∈xs,0<=d/\d<=255)(D:∀d∈ys,0<=d/\d<=255)(i:xs≠ys):ib 231 #[u,v] w λe w'=>e=gG (.bool false)/\w'=w:=by
 obtain⟨a,c,e⟩:=j.len;obtain⟨V,c',F⟩:=y.len;have H:=lC u xs w j;have L:=lC v ys w y;have P:¬(ik xs).toList=(ik ys).toList:=λh=>i (oN A D h);subst e F;simp only[ay]at H L|-;generalize ik xs=Y at*;generalize ik ys=Q at*;clear j y A D i;go_enter func231,ntmps231;go_wp2;go_ret;exact⟨kG (mY P),rfl⟩
open Go.RowKit Go.Maps
attribute [local go_sem ↓] Go.wp_at_zero Go.wp_at_succ
theorem CI(base p bm n)(E)(iT)(M)(vi)(t)(e b)(ua)(P uc:Nat)(w)(h:Vs base w p bm n E iT M vi t)(he:(Lit.int .i64 e).wf=true)(a2:(P:Int)<=9223372036854775807)(Q:e<1\/b<1\/b<(E e).pr\/¬(1<=P/\P<=255)):ib 182 #[O p,I e,I b,dk ua P uc] w λen w'=>en=gG (kP 6 (E e).pr 0 OO)/\Vs base w' p bm n E iT M vi t/\Bl w w':=by
 obtain⟨vv,hM,V,a3⟩:=h.ep e;obtain⟨va,vc,rfl⟩:∃a c,vv=dk a (E e).val.length c:=by obtain⟨a',c',e'⟩:=(iC V).len;rw[iF V]at e';exact⟨a',c',e'⟩
 have hp:=h.lt;have c0:=h.c0;have bA:=fu ((Bl.refl w).alloc (gO jW 222));have y:=(h.mp.bl bA).oH e he;rw[hM]at y;unfold jW at y;have H:=fu h;clear h V a3 hM;generalize (E e).pr=A at*;generalize (E e).ba=ba at*;generalize (E e).val.length=vl at*;have HR:Hid (∀W,_):=λW=>wP A ba va vl vc W;have a0:Hid (∀W,_):=λW=>pX ua P uc W a2;obtain⟨bB,HN⟩:=fl (bA.alloc (gO #[I A,I ba,dk va vl vc] 311)) (ao w (gO jW 222));have fin:Hid (∀w2,Bl ((FG w).alloc (gO #[I A,I ba,dk va vl vc] 311)) w2->w2.heap[w.heap.size]?=some (gO jW 222 (0,0))):=λw2 h2=>(h2.heap gM).H ((fJ (FG w) _ w.heap.size aq).H HN);by_cases h1:e<1
 case' neg=>
  by_cases h2:b<1
  case' neg=>
   by_cases h3:b<A
   case neg=>
    have h4:decide (1<=P/\P<=255)=false:=by obtain h|h|h|h:=Q;omega;omega;omega;simp;omega
    rw[h4]at a0;clear Q h4;go_enter func182,ntmps182;go_wp2_with fail;refine gF (a0 _) λw1 Y=>?_;have D:w1.heap[w.heap.size+1]?=some (gO #[I A,I ba,dk va vl vc] 311 (0,0)):=by have:=ao (FG w) (gO #[I A,I ba,dk va vl vc] 311);rw[show(FG w).heap.size=w.heap.size+1 from by simp]at this;exact(Y.heap aq).H this
    have lX:w.heap.size+1<w1.heap.size:=(ae.1 D).1;have x0:w1.cell? (U (w.heap.size+1) 0)=some (I A):=by rw[ax _ _ 0 _ 311 (0,0) D];rfl
    have x1:w1.cell? (U (w.heap.size+1) 1)=some (I ba):=by rw[ax _ _ 1 _ 311 (0,0) D];rfl
    have x2:w1.cell? (U (w.heap.size+1) 2)=some (dk va vl vc):=by rw[ax _ _ 2 _ 311 (0,0) D];rfl
    have a1:=fu Y;clear Y D;go_wp2_with fail;refine gF (HR _) λw2 j=>?_;have i:=fin w2 (a1.H j);have lN:w.heap.size<w2.heap.size:=(ae.1 i).1;obtain⟨n0,n1,n2,n3,f0,f1,f2,f3⟩:=nf i;obtain⟨Z,L⟩:=fl i (bB.H (a1.H j));clear i j;go_wp2;have F:=bz.Gp (w:=w2) (S:=λb=>b=w.heap.size) rfl (I 6) (I A) (I 0) OO;exact aG (v:=kP 6 A 0 OO) (by simp[results,results182,go_sem,kP,n0,n1,n2,n3]) rfl ⟨rfl,(H.bl L).B F Z au C,L.B F λn e=>C⟩
 all_goals
  clear Q;go_enter func182,ntmps182;go_wp2_with fail;refine gF (HR _) λw2 j=>?_;have i:=fin w2 (j);have lN:w.heap.size<w2.heap.size:=(ae.1 i).1;obtain⟨n0,n1,n2,n3,f0,f1,f2,f3⟩:=nf i;obtain⟨Z,L⟩:=fl i (bB.H (j));clear i j;go_wp2;have F:=bz.Gp (w:=w2) (S:=λb=>b=w.heap.size) rfl (I 6) (I A) (I 0) OO;exact aG (v:=kP 6 A 0 OO) (by simp[results,results182,go_sem,kP,n0,n1,n2,n3]) rfl ⟨rfl,(H.bl L).B F Z au C,L.B F λn e=>C⟩
theorem qC(base p bm n)(E)(iT)(M)(vi)(t)(e b)(v)(ys)(w)(h:Vs base w p bm n E iT M vi t)(hb:base<=w.heap.size)(hl:iT.length<=1000000000000)(hn:n<=1000000000000)(he:(Lit.int .i64 e).wf=true)(hv:Bs w v (ys.map B8))(ap:1<=ys.length)(hy:ys.length<=255)(Y:∀g,v.ownBlock=some g->g<w.heap.size/\vi.ownBlock≠some g/\g≠bm)(a1:∀d∈ys,0<=d/\d<=255)(a2:∀d∈(E e).val,0<=d/\d<=255)(h1:1<=e)(h2:1<=b)(h3:(E e).pr<=b)(hd:b≠(E e).ba\/ys≠(E e).val):ib 182 #[O p,I e,I b,v] w λen w'=>∃M' y,en=gG (kP 1 b 0 OO)/\Vs base w' p bm (n+1) (nD E e ⟨b,b,ys⟩) (iT++iB 2 [e,b] ys) M' y t/\sb p bm M vi M' y w w':=by
 obtain⟨vv,hM,A,a7⟩:=h.ep e;obtain⟨va,vc,rfl⟩:∃a c,vv=dk a (E e).val.length c:=by obtain⟨a',c',e'⟩:=(iC A).len;rw[iF A]at e';exact⟨a',c',e'⟩
 have hp:=h.lt;have c0:=h.c0;have bA:=fu ((Bl.refl w).alloc (gO jW 222));have i:=(h.mp.bl bA).oH e he;rw[hM]at i;unfold jW at i;obtain⟨ua,uc,V⟩:=hv.len;rw[ay]at V;subst V;obtain⟨H,HV,HU⟩:=gV h A hv;have a3:Hid (∀W,Bl w W->_):=λW hW=>D2 base p bm n E iT M vi t e b C (lI ua ys uc) ys W (h.bl hW) (aF hb hW.lt) hl hn he (hv.bl hW) hy λg e=>⟨af (Y g e).1 hW.lt,(Y g e).2⟩;clear h A a7 hM Y hv;generalize nD E e ⟨b,b,ys⟩=E' at*;generalize iT++iB 2 [e,b] ys=an at*;generalize (E e).pr=pr at*;generalize (E e).ba=ba at*;generalize (E e).val=V at*;have a4:Hid (∀W,ib 230 #[dk ua ys.length uc] W λe w'=>e=gG (.bool true)/\Bl W w'):=λW=>by have:=pX ua ys.length uc W C;rwa[show decide (1<=ys.length/\ys.length<=255)=true by simp;omega]at this
 obtain⟨bB,HN⟩:=fl (bA.alloc (gO #[I pr,I ba,dk va V.length vc] 311)) (ao w (gO jW 222));obtain⟨a8,HX⟩:=fl ((fJ (FG w) (gO #[I pr,I ba,dk va V.length vc] 311) w.heap.size aq).H HN) (ao (FG w) (gO #[I pr,I ba,dk va V.length vc] 311));rw[show(FG w).heap.size=w.heap.size+1 from by simp]at HX;have a9:Hid (∀g,w.heap.size<=g->¬(g=p\/g=bm\/vi.ownBlock=some g)):=by
  rintro g hg (e|e|e)
  .omega
  .have:=H.mp.lt;omega
  have:=(H.gZ.lt _ e).2;omega
 obtain⟨Hd,aa,ab⟩:=gV hd a1 a2;clear hd a1 a2;have ar:¬e<1:=C;have av:¬b<1:=C;have aw:¬b<pr:=C;go_enter func182,ntmps182;go_wp2_with fail;refine gF (a4 _) λw1 D=>?_;have j:=(D.heap aq).H HX;have lX:w.heap.size+1<w1.heap.size:=(ae.1 j).1;have x0:w1.cell? (U (w.heap.size+1) 0)=some (I pr):=by rw[ax _ _ 0 _ 311 (0,0) j];rfl
 have x1:w1.cell? (U (w.heap.size+1) 1)=some (I ba):=by rw[ax _ _ 1 _ 311 (0,0) j];rfl
 have x2:w1.cell? (U (w.heap.size+1) 2)=some (lI va V vc):=by rw[ax _ _ 2 _ 311 (0,0) j];rfl
 have P:=fu (bB.H D);have ac:=fu ((D.heap gM).H a8);obtain⟨ad,ag,a5⟩:=gV ((iC HV).bl P) ((HU.sl).bl P) (a3 w1 P);clear D j a3 a4;by_cases Z:b=ba;all_goals
  first
  |(have ai:=fu (Hd.resolve_left λq=>q Z);subst Z;go_wp2_with fail;refine(DA _ _ ys V w1 ag (by exact ad) aa ab ai).L ?_;rintro en W⟨rfl,rfl⟩)
  |have b0:(b==ba)=false:=iG Z
  go_wp2_with fail;refine a5.L ?_;rintro en w2⟨M',y,rfl,a6,a0⟩;have Q:=(a0.only.block w.heap.size C (a9 _ jc)).H ac;have lN:w.heap.size<w2.heap.size:=(ae.1 Q).1;obtain⟨n0,n1,n2,n3,f0,f1,f2,f3⟩:=nf Q;obtain⟨ak,al,am⟩:=gV Q a6 (a0.F P);clear Q a6 a0 a5;go_wp2;have F:=bz.Gp (w:=w2) (S:=λb=>b=w.heap.size) rfl (I 1) (I b) (I 0) OO;exact aG (v:=kP 1 b 0 OO) (by simp[results,results182,go_sem,kP,n0,n1,n2,n3]) rfl ⟨M',y,rfl,al.B F ak au C,am.Dq F λg e=>cY e.symm⟩
theorem zH(base p bm n)(E)(iT)(M)(vi)(t)(e b)(v)(ys)(w)(h:Vs base w p bm n E iT M vi t)(hb:base<=w.heap.size)(hl:iT.length<=1000000000000)(hn:n<=1000000000000)(he:(Lit.int .i64 e).wf=true)(hv:Bs w v (ys.map B8))(a7:1<=ys.length)(hy:ys.length<=255)(P:∀g,v.ownBlock=some g->g<w.heap.size/\vi.ownBlock≠some g/\g≠bm)(_hys:∀d∈ys,0<=d/\d<=255)(_hev:∀d∈(E e).val,0<=d/\d<=255)(h1:1<=e)(h2:1<=b)(h3:(E e).pr<=b)(a1:b=(E e).ba)(a2:ys=(E e).val):ib 182 #[O p,I e,I b,v] w λen w'=>en=gG (kP 1 b 0 OO)/\Vs base w' p bm n E iT M vi t/\Bl w w':=by
 obtain⟨vv,hM,A,a3⟩:=h.ep e;obtain⟨va,vc,rfl⟩:∃a c,vv=dk a (E e).val.length c:=by obtain⟨a',c',e'⟩:=(iC A).len;rw[iF A]at e';exact⟨a',c',e'⟩
 have hp:=h.lt;have c0:=h.c0;have bA:=fu ((Bl.refl w).alloc (gO jW 222));have i:=(h.mp.bl bA).oH e he;rw[hM]at i;unfold jW at i;obtain⟨ua,uc,Q⟩:=hv.len;rw[ay]at Q;subst Q;obtain⟨H,HV,HU⟩:=gV h A hv;have Y:Hid (∀W,Bl w W->_):=λW hW=>D2 base p bm n E iT M vi t e b C (lI ua ys uc) ys W (h.bl hW) (aF hb hW.lt) hl hn he (hv.bl hW) hy λg e=>⟨af (P g e).1 hW.lt,(P g e).2⟩;clear _hys _hev;clear h A a3 hM P hv;generalize (E e).pr=pr at*;generalize (E e).ba=ba at*;generalize (E e).val=Q at*;have Z:Hid (∀W,ib 230 #[dk ua ys.length uc] W λe w'=>e=gG (.bool true)/\Bl W w'):=λW=>by have:=pX ua ys.length uc W C;rwa[show decide (1<=ys.length/\ys.length<=255)=true by simp;omega]at this
 obtain⟨bB,HN⟩:=fl (bA.alloc (gO #[I pr,I ba,dk va Q.length vc] 311)) (ao w (gO jW 222));obtain⟨a4,HX⟩:=fl ((fJ (FG w) (gO #[I pr,I ba,dk va Q.length vc] 311) w.heap.size aq).H HN) (ao (FG w) (gO #[I pr,I ba,dk va Q.length vc] 311));rw[show(FG w).heap.size=w.heap.size+1 from by simp]at HX;have a8:Hid (∀g,w.heap.size<=g->¬(g=p\/g=bm\/vi.ownBlock=some g)):=by
  rintro g hg (e|e|e)
  .omega
  .have:=H.mp.lt;omega
  have:=(H.gZ.lt _ e).2;omega
 subst a1;subst a2;have a9:¬e<1:=C;have aa:¬b<1:=C;have ab:¬b<pr:=C;go_enter func182,ntmps182;go_wp2_with fail;refine gF (Z _) λV D=>?_;have j:=(D.heap aq).H HX;have lX:w.heap.size+1<V.heap.size:=(ae.1 j).1;have x0:V.cell? (U (w.heap.size+1) 0)=some (I pr):=by rw[ax _ _ 0 _ 311 (0,0) j];rfl
 have x1:V.cell? (U (w.heap.size+1) 1)=some (I b):=by rw[ax _ _ 1 _ 311 (0,0) j];rfl
 have x2:V.cell? (U (w.heap.size+1) 2)=some (lI va ys vc):=by rw[ax _ _ 2 _ 311 (0,0) j];rfl
 have y:=fu (bB.H D);have a0:=fu ((D.heap gM).H a4);obtain⟨a5,a6,ac⟩:=gV ((iC HV).bl y) ((HU.sl).bl y) (Y V y);clear D j Y Z;go_wp2_with fail;refine(AE _ _ ys V a6 (by exact a5)).L ?_;rintro en W⟨rfl,rfl⟩;have lN:w.heap.size<W.heap.size:=C;obtain⟨n0,n1,n2,n3,f0,f1,f2,f3⟩:=nf a0;go_wp2;have F:=bz.Gp (w:=W) (S:=λb=>b=w.heap.size) rfl (I 1) (I b) (I 0) OO;exact aG (v:=kP 1 b 0 OO) (by simp[results,results182,go_sem,kP,n0,n1,n2,n3]) rfl ⟨rfl,(H.bl y).B F a0 au C,y.B F λn e=>C⟩
end
inductive sJ:(Int->Ep)->Rc->(Int->Ep)->Prop
 |prep (E:Int->Ep) (e b:Int) (h1:1<=e) (h2:1<=b) (h3:(E e).pr<b):sJ E ⟨1,[e,b],[]⟩ (nD E e ⟨b,(E e).ba,(E e).val⟩)
 |acc (E:Int->Ep) (e b:Int) (ys:List Int) (h1:1<=e) (h2:1<=b) (h3:(E e).pr<=b) (hy1:1<=ys.length) (hy:ys.length<=255) (hys:∀d∈ys,0<=d/\d<=255) (hne:b≠(E e).ba\/ys≠(E e).val):sJ E ⟨2,[e,b],ys⟩ (nD E e ⟨b,b,ys⟩)
theorem G7(base p bm n B)(E E')(r)(iT)(M)(vi)(t)(nv vv)(w)(h:Vs base w p bm n E iT M vi t)(hb:base<=w.heap.size)(hl:iT.length<=1000000000000)(Q:n<=1000000000000)(hE:∀e,(E e).val.length<=255/\∀d∈(E e).val,0<=d/\d<=255)(a5:sJ E r E')(V:∀n∈r.ns,(Lit.int .i64 n).wf=true)(j:w.ownsRow B 3 1 nv r.ns.length (r.ns.map I))(Y:w.ownsRow B 5 1 vv r.val.length (r.val.map B8))(Z:∀g,vv.ownBlock=some g->vi.ownBlock≠some g):ib 187 #[O p,.agg #[I r.kd,nv,vv]] w λen w'=>∃M' i,en=gS/\Vs base w' p bm (n+1) E' (iT++r.bytes) M' i t/\bz (λb=>b=p\/b=bm\/vi.ownBlock=some b) w w':=by
 have hp:=h.lt;obtain⟨va,vc,A⟩:=(mi Y).len;rw[ay]at A;have D:=fu (mi Y);have a0:∀g,vv.ownBlock=some g->g<w.heap.size/\vi.ownBlock≠some g/\g≠bm:=λg e=>⟨(Y.lt g e).2,Z g e,λe'=>h.mp.nG Y (j4 e e')⟩;obtain⟨a1,H⟩:=fl a0 h;clear h Y Z a0
 cases a5 with
 |prep e b h1 h2 h3=>
  simp only at j D A;have we:=V e aq;have y:=hE e;obtain⟨g,cap,rfl⟩:=lL j aq;have lg:=(j.lt g rfl).2;have q0:=j.cellAt 0 aq;have q1:=j.cellAt 1 aq;simp only[bj,dh,dx]at q0 q1;have bA:Hid (Bl w (w.alloc (gO #[I 1,dk (G g) 2 cap,vv] 320))):=(Bl.refl w).alloc _;have HS:Hid (∀W,Bl w W->_):=λW F=>sI base p bm n E iT M vi t e b W (H.bl F) (aF hb F.lt) hl Q we y.1 h1 h2 h3;subst A;simp only[Rc.bytes];clear j hE y;generalize iT++iB 1 [e,b] []=a2 at*;generalize nD E e ⟨b,(E e).ba,(E e).val⟩=E' at*;generalize (E e).ba=ba at*;generalize (E e).val=A at*;go_enter func187,ntmps187;go_wp2_with fail;go_quiet(fail);go_wp2_with fail;refine(HS _ (by exact bA.drewN _)).L ?_;rintro e1 w1⟨M',i,v',rfl,P,hk,ho,_⟩;obtain⟨HK,HO⟩:=fl hk ho;obtain⟨sa,sc,rfl⟩:∃a c,v'=dk a A.length c:=by obtain⟨a',c',e'⟩:=(iC P).len;rw[iF P]at e';exact⟨a',c',e'⟩
  clear hk ho P;unfold kP;go_wp2;go_end0;exact⟨M',i,rfl,HK,(bz.E (bA.drewN _)).H HO.only⟩
 |acc e b ys h1 h2 h3 a6 hy a7 a3=>
  simp only at j D A;have we:=V e aq;have y:=hE e;obtain⟨g,cap,rfl⟩:=lL j aq;have lg:=(j.lt g rfl).2;have q0:=j.cellAt 0 aq;have q1:=j.cellAt 1 aq;simp only[bj,dh,dx]at q0 q1;have bA:Hid (Bl w (w.alloc (gO #[I 2,dk (G g) 2 cap,vv] 320))):=(Bl.refl w).alloc _;have HS:Hid (∀W,Bl w W->ib 182 #[O p,I e,I b,vv] W λen w'=>∃M' i,en=gG (kP 1 b 0 OO)/\Vs base w' p bm (n+1) (nD E e ⟨b,b,ys⟩) (iT++iB 2 [e,b] ys) M' i t/\sb p bm M vi M' i W w'):=λW F=>by
   have a4:∀g,vv.ownBlock=some g->g<W.heap.size/\vi.ownBlock≠some g/\g≠bm:=λg e=>⟨af (a1 g e).1 F.lt,(a1 g e).2⟩;by_cases a8:b=(E e).ba;iterate 2
    .exact qC base p bm n E iT M vi t e b vv ys W (H.bl F) (aF hb F.lt) hl Q we (D.bl F) a6 hy a4 a7 y.2 h1 h2 h3 a3
  subst A;simp only[Rc.bytes];clear j hE y a3 h3;generalize iT++iB 2 [e,b] ys=a2 at*;generalize nD E e ⟨b,b,ys⟩=E' at*;go_enter func187,ntmps187;go_wp2_with fail;go_quiet(fail);go_wp2_with fail;refine(HS _ (by exact bA.drewN _)).L ?_;rintro e1 w1⟨M',i,rfl,hk,ho⟩;obtain⟨HK,HO⟩:=fl hk ho;clear hk ho;unfold kP;go_wp2;go_end0;exact⟨M',i,rfl,HK,(bz.E (bA.drewN _)).H HO.only⟩
end Go.Proofs.YtbghhbpacijmmaaGreat
