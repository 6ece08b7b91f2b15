import Derived.Deep.DeepCutAuto
import Derived.Test.YtbghhbpacijmmaaGreatL01
open Go.Proofs.Tryz
namespace Go.Proofs.YtbghhbpacijmmaaGreat
set_option maxRecDepth 99999
set_option maxHeartbeats 0
set_option linter.defProp false
open Go.RowKit Go.Maps
attribute [local go_sem ↓] Go.wp_at_zero Go.wp_at_succ
open Go.ChangeMaps (setBlock)
variable {t e:TypeId} {vi v x0 x1 x2:Value} {n p bm g tg k B:Nat} {w' W:World} {xs:List Value} {S T:Nat->Prop} {a b c d ch kd:Int} {cP:Nat->Nat} {K:Nat->Value} {M':Int->Value} {cs:Array Value} {ds ys:List Int} {ct:Nat->Ct} {x y:MapEntry}
section
def uX(K:Nat->Value)(i:Nat)(ep kd cl ca:Value)(v:Value):Nat->Value:=vX (vX (vX (vX (vX K 5 ep) (7+i*4) kd) (7+i*4+1) cl) (7+i*4+2) ca) (7+i*4+3) v
def Wo(K)(i)(ep kd cl ca v):uX K i ep kd cl ca v 5=ep:=by unfold uX;rw[jF _ _ _ _ C,jF _ _ _ _ C,jF _ _ _ _ C,jF _ _ _ _ C,nP]
def Jo(K)(i j)(ep kd cl ca v)(A:j≠5)(h:j<7+i*4\/7+i*4+3<j):uX K i ep kd cl ca v j=K j:=by unfold uX;rw[jF _ _ _ _ C,jF _ _ _ _ C,jF _ _ _ _ C,jF _ _ _ _ C,jF _ _ _ _ A]
def Tk(K)(i)(ep kd cl ca v):uX K i ep kd cl ca v (7+4*i)=kd:=by unfold uX;rw[show 7+4*i=7+i*4 by omega,jF _ _ _ _ C,jF _ _ _ _ C,jF _ _ _ _ C,nP]
def TU(K)(i)(ep kd cl ca v):uX K i ep kd cl ca v (8+4*i)=cl:=by unfold uX;rw[show 8+4*i=7+i*4+1 by omega,jF _ _ _ _ C,jF _ _ _ _ C,nP]
def UD(K)(i)(ep kd cl ca v):uX K i ep kd cl ca v (9+4*i)=ca:=by unfold uX;rw[show 9+4*i=7+i*4+2 by omega,jF _ _ _ _ C,nP]
def I3(K)(i)(ep kd cl ca v):uX K i ep kd cl ca v (10+4*i)=v:=by unfold uX;rw[show 10+4*i=7+i*4+3 by omega,nP]
def Ks.put{base:Nat}{w:World}{ep mk ep':Int}{M rec:List Int}{v' u:Value}{Q V:Int}(h:Ks base w p a b c d ch ep mk ct M K)(i)(hi:i<16)(hW:gI (λb=>b=p) w W)(P:CD base W w' p (uX K i (I ep') (I kd) (I Q) (I V) u) (K 71) v' n xs)(hn:n=M.length+rec.length)(hx:xs=M.map B8++rec.map B8)(hu:w'.ownsRow base 5 1 u ys.length (ys.map B8))(Y:∀g,u.ownBlock=some g->g<W.heap.size/\(K 71).ownBlock≠some g):Ks base w' p a b c d ch ep' mk (λj=>if j=i then⟨kd,Q,V,ys⟩else ct j) (M++rec) (vX (uX K i (I ep') (I kd) (I Q) (I V) u) 71 v')/\((∀g,u.ownBlock=some g->w.heap.size<=g)->Gk p K (vX (uX K i (I ep') (I kd) (I Q) (I V) u) 71 v') w w'):=by
 have oQ:=(hW.L (T:=λb=>b=p\/(K 71).ownBlock=some b) λb _ e=>.inl e).H P.only;have L:∀j,j≠71->j≠5->(j<7+i*4\/7+i*4+3<j)->vX (uX K i (I ep') (I kd) (I Q) (I V) u) 71 v' j=K j:=λj h1 h2 h3=>by rw[jF _ _ _ _ h1,Jo _ _ _ _ _ _ _ _ h2 h3]
 refine⟨⟨P.kY,by rw[L 0 bT bT C];exact h.k0,by rw[L 1 bT bT C];exact h.k1,by rw[L 2 bT bT C];exact h.k2,by rw[L 3 bT bT C];exact h.k3,by rw[L 4 bT bT C];exact h.k4,by rw[jF _ _ _ _ bT,Wo],by rw[L 6 bT bT C];exact h.k6,by rw[nP,aO,aZ,<-hx,<-hn];exact P.ij,λj F=>?_,λj F=>?_,λj F=>?_,λj F=>?_,λj F g A=>?_⟩,λZ=>⟨oQ,λg A=>?_⟩⟩
 .by_cases e:j=i
  .subst e;rw[jF _ _ _ _ C,Tk,aE rfl]
  rw[az e,L _ C C C];exact h.kd j F
 .by_cases e:j=i
  .subst e;rw[jF _ _ _ _ C,TU,aE rfl]
  rw[az e,L _ C C C];exact h.cl j F
 .by_cases e:j=i
  .subst e;rw[jF _ _ _ _ C,UD,aE rfl]
  rw[az e,L _ C C C];exact h.ca j F
 .by_cases e:j=i
  .subst e;rw[jF _ _ _ _ C,I3,aE rfl];exact hu
  rw[az e,L _ C C C];refine oQ.jH (h.val j F) λg A e=>?_;obtain e|e:=e
  .exact h.kY.qC (h.val j F) bT (kz A e)
  exact h.ny j F g A e
 .rw[nP];intro e';have a0:=hW.size;by_cases e:j=i
  .subst e;rw[jF _ _ _ _ C,I3]at A;obtain e2|e2:=P.d g e'
   .exact(Y g A).2 e2
   have:=(Y g A).1;omega
  rw[L _ C C C]at A;obtain e2|e2:=P.d g e'
  .exact h.ny j F g A e2
  have:=((h.val j F).lt g A).2;omega
 obtain A|⟨j,F,A⟩:=A
 .rw[nP]at A;obtain e|e:=P.d g A
  .exact .inl (.inl e)
  exact .inr (aF hW.size e)
 by_cases e:j=i
 .subst e;rw[jF _ _ _ _ C,I3]at A;exact .inr (Z g A)
 rw[L _ C C C]at A;exact .inl (.inr ⟨j,F,A⟩)
theorem US(base p)(a b c d ch ep mk)(ct)(img)(K)(ep' x kd cl ca)(v)(ys)(i:Nat)(w)(h:Ks base w p a b c d ch ep mk ct img K)(hb:base<=w.heap.size)(hl:img.length<=1000000000000)(hv:Bs w v (ys.map B8))(hy:ys.length<=255)(a6:∀g,v.ownBlock=some g->g<w.heap.size/\(K 71).ownBlock≠some g/\g≠p)(hi:i<16)(a1:rC a b c d x=(ch,(i:Int),0)):iU 226 #[O p,I ep',I x,.agg #[I kd,I cl,I ca,v]] w λe w'=>∃K',e=iF/\Ks base w' p a b c d ch ep' mk (λj=>if j=i then⟨kd,cl,ca,ys⟩else ct j) (img++j5 3 [ep',x,kd,cl,ca] ys) K'/\Gk p K K' w w':=by
 have H:=gN h;have hp:=h.kY.lt;have c0:=h.kY.cell 0 bT;have c1:=h.kY.cell 1 bT;have c2:=h.kY.cell 2 bT;have c3:=h.kY.cell 3 bT;have c5:=h.kY.cell 5 bT;have f5:=h.kY.frozen 5;rw[h.k0]at c0;rw[h.k1]at c1;rw[h.k2]at c2;rw[h.k3]at c3;rw[h.k5]at c5;obtain⟨va,vc,ev⟩:=hv.len;rw[ay]at ev;subst ev;obtain⟨Hv,V⟩:=gO hv a6;clear h hv a6;have ab:(i:Int)<16:=C;go_enter func226,ntmps226;go_wp2_with fail;refine(mX a b c d x _).L ?_;rw[a1];unfold Ot;rintro e w'⟨rfl,a3⟩;obtain⟨HB,HX⟩:=gO (((Bl.refl w).alloc _).H a3) ((a3.heap bz).H (ao w (ig (rH kd cl ca va ys vc) 91)));have HK:=gN (H.bl HB);have lX:w.heap.size<w'.heap.size:=(ae.1 HX).1;obtain⟨x0,x1,x2,x3⟩:=pD HX 0 1 2 3 rfl;simp at x0 x1 x2 x3;have d5:=HK.kY.cell 5 bT;have g5:=HK.kY.frozen 5;rw[HK.k5]at d5;have lP:p<w'.heap.size:=eR hp lX;clear a3 c0 c1 c2 c3 c5 f5 a1;have A5:=gN (HK.kY.set 5 (I ep'));have O5:Hid (gI (λb=>b=p) w' (w'.setCell (U p 5) (I ep'))):=(gI.refl (λb=>b=p) w').setCell (U p 5) (.inl rfl) (I ep');have F:w.heap.size≠p:=C;have X5:=gN ((O5.block _ lX F).H HX);have V5:Hid (Bs (w'.setCell (U p 5) (I ep')) (mP va ys vc) (ys.map B8)):=(Hv.bl HB).only O5 λg e e'=>(V g e).2.2 e';go_wp2;generalize a7:w'.setCell (U p 5) (I ep')=W0 at*;have l0:w.heap.size<W0.heap.size:=(ae.1 X5).1;obtain⟨y0,y1,y2,y3⟩:=pD X5 0 1 2 3 rfl;simp at y0 y1 y2 y3;have ac:=gN a7;clear x0 x1 x2 x3 d5 g5 a7;go_region_with(go_at_call 258;refine(Ba kd cl ca _ ys _ (by exact V5.bl (jZ.drewN _)) C).L ?_;rintro e w2⟨v',rfl,Y,Z⟩;obtain⟨ua,uc,eu⟩:∃a c,v'=gK a ys.length c:=(by obtain⟨a',c',e'⟩:=(jD Z).len;rw[jQ Z]at e';exact⟨a',c',e'⟩);subst eu;have A:=(A5.bl (jZ.drewN _)).bl Y;have q0:=A.cell (7+i*4) C;have q1:=A.cell (7+i*4+1) C;have q2:=A.cell (7+i*4+2) C;have q3:=A.cell (7+i*4+3) C;have g0:=A.frozen (7+i*4);have g1:=A.frozen (7+i*4+1);have g2:=A.frozen (7+i*4+2);have g3:=A.frozen (7+i*4+3);obtain⟨a8,a4,a0⟩:=iI A Y Z;obtain⟨z0,z1,z2,z3⟩:=Y.N l0 y0 y1 y2 y3;clear A Y Z);all_goals
  have O4:Hid (gI (λb=>b=p) w2 ((((w2.setCell (U p (7+i*4)) (I kd)).setCell (U p (7+i*4+1)) (I cl)).setCell (U p (7+i*4+2)) (I ca)).setCell (U p (7+i*4+3)) (mP ua ys uc))):=((((gI.refl (λb=>b=p) w2).setCell (U p (7+i*4)) (.inl rfl) (I kd)).setCell (U p (7+i*4+1)) (.inl rfl) (I cl)).setCell (U p (7+i*4+2)) (.inl rfl) (I ca)).setCell (U p (7+i*4+3)) (.inl rfl) (mP ua ys uc);have A4:=gN ((((a8.set (7+i*4) (I kd)).set (7+i*4+1) (I cl)).set (7+i*4+2) (I ca)).set (7+i*4+3) (mP ua ys uc));have B2:Hid (Bl W0 w2):=by first|exact(jZ.drew).H a4.o|exact(jZ.drewN _).H a4
  have S2:Hid (w2.ownsRow w.heap.size 5 1 (mP ua ys uc) ys.length (ys.map B8)):=iE a0 λg hg=>aF (by have:=l0;simp;omega) (a0.lt g hg).1;have N2:Hid (∀g,(mP ua ys uc).ownBlock=some g->W0.heap.size<=g):=λg hg=>aF bz (a0.lt g hg).1;clear a4 a0 a8 q0 q1 q2 q3 g0 g1 g2 g3;generalize ((((w2.setCell (U p (7+i*4)) (I kd)).setCell (U p (7+i*4+1)) (I cl)).setCell (U p (7+i*4+2)) (I ca)).setCell (U p (7+i*4+3)) (mP ua ys uc))=M at*;have l2:Hid (w.heap.size<w2.heap.size):=af l0 B2.lt;have u0:=(O4.cell (o:=0) l2 F).H z0;have u1:=(O4.cell (o:=1) l2 F).H z1;have u2:=(O4.cell (o:=2) l2 F).H z2;have u3:=(O4.cell (o:=3) l2 F).H z3;clear z0 z1 z2 z3 y0 y1 y2 y3;have l4:w.heap.size<M.heap.size:=af l2 O4.size;have O6:Hid (gI (λb=>b=p) w M):=((gI.D HB).H O5).H ((gI.D B2).H O4);have P:Hid (M.ownsRow base 5 1 (K 71) img.length (img.map B8)):=O6.jH H.ij λg e e'=>H.kY.qC H.ij bT (kz e e');have a2:Hid (Bs M (mP va ys vc) (ys.map B8)):=Hv.only O6 λg e e'=>(V g e).2.2 e';have Q:Hid (Bl M (M.alloc (ig #[I ep',I x,I kd,I cl,I ca] 3))):=(Bl.refl M).alloc _;have hN:Hid (Bs (M.alloc (ig #[I ep',I x,I kd,I cl,I ca] 3)) (gK (G M.heap.size) 5 5) ([ep',x,kd,cl,ca].map I)):=AO M 3 #[I ep',I x,I kd,I cl,I ca] 5 rfl;have aa:Hid (vX (vX (vX (vX (vX K 5 (I ep')) (7+i*4) (I kd)) (7+i*4+1) (I cl)) (7+i*4+2) (I ca)) (7+i*4+3) (mP ua ys uc) 71=K 71):=by unfold Hid;rw[jF _ _ _ _ C,jF _ _ _ _ C,jF _ _ _ _ C,jF _ _ _ _ C,jF _ _ _ _ C]
  have a5:Hid (∀W,Bl (M.alloc (ig #[I ep',I x,I kd,I cl,I ca] 3)) W->_):=λW hW=>Ij base p _ (K 71) img.length (img.map B8) 3 _ _ [ep',x,kd,cl,ca] ys W (A4.bl (Q.H hW)) aa ((jY (Q.H hW)).jH P λ_ _ e=>e) (gM ((Q.H hW).lt)) hl (hN.bl hW) (a2.bl (Q.H hW)) bT bT bz hy (λg e e'=>by simp[Value.ownBlock]at e';have:=(P.lt g e).2;omega) (λg e e'=>(V g e').2.1 e) (λg e=>by simp[Value.ownBlock]at e;have:=hW.lt;simp at this;omega) (λg e=>by have:=(V g e).1;have:=(Q.H hW).lt;omega);clear hN a2 P;go_wp2_with fail;go_region_with(go_at_call 257;refine(a5 _ (by exact jZ.drewN _)).L ?_;rintro e w6⟨v6,rfl,hk⟩;have a9:=gN hk;clear hk);all_goals
   go_end0;have Q:=gN (Q.H (jZ.drewN 1));have hS:∀g,(mP ua ys uc).ownBlock=some g->g≠p/\(K 71).ownBlock≠some g:=λg e=>by have h1:=(S2.lt g e).1;refine⟨C,λe'=>?_⟩;have:=(H.ij.lt g e').2;omega
   have S4:=O4.jH S2 λg e e'=>(hS g e).1 e';have S5:=(jY Q).jH S4 λ_ _ e=>e;have S6:=a9.only.jH S5 λg e e'=>by
    obtain e'|e':=e'
    .exact(hS g e).1 e'
    exact(hS g e).2 e'
   have R:=H.put i hi (O6.H (gI.D Q)) a9 rfl rfl (iE (base':=base) S6 λg e=>aF hb (S6.lt g e).1) λg e=>⟨af (S4.lt g e).2 Q.lt,(hS g e).2⟩;exact⟨_,rfl,R.1,R.2 λg e=>(S2.lt g e).1⟩
open Go.RowKit
attribute [local go_sem ↓] Go.wp_at_zero Go.wp_at_succ
theorem Cy(base p o)(v)(h:List Int)(w)(_hp:p<w.heap.size)(A:w.cell? (U p o)=some v)(j:w.ownsRow base 5 1 v h.length (h.map B8))(Y:h.length<=1000000000000):iU 221 #[.pointer (some (U p o))] w λe w'=>∃F,e=gU F/\Bl w w'/\w'.ownsRow w.heap.size 5 1 F h.length (h.map B8):=by
 have H:=gN (tr j);clear j;obtain⟨Z,vc,M⟩:=H.len;rw[ay]at M;rw[M]at A H;clear M;go_enter func221,ntmps221;go_wp2_with fail;refine(pA _ h _ H C).L ?_;rintro e w'⟨F,rfl,P,j⟩;obtain⟨Q,V⟩:=gO P j;clear P j;go_wp2;go_ret;exact⟨_,rfl,Q,V⟩
theorem MS(base p)(a b c d ch ep mk)(ct)(img)(K)(w)(h:Ks base w p a b c d ch ep mk ct img K)(M:img.length<=1000000000000):iU 169 #[O p] w λe w'=>∃j,e=gU j/\Bl w w'/\w'.ownsRow w.heap.size 5 1 j img.length (img.map B8):=by
 have P:=h.kY.lt;have H:=gN h;clear h;go_enter func169,ntmps169;go_wp2_with fail;refine(Cy base p 71 _ img _ P (H.kY.cell 71 bT) H.ij M).L ?_;rintro e w'⟨j,rfl,A,F⟩;obtain⟨Q,V⟩:=gO A F;clear A F;go_wp2;go_ret;exact⟨_,rfl,Q,V⟩
theorem EB(base p)(a b c d ch ep mk)(ct)(img)(K)(ep' x kd cl ca)(va)(vn vc)(w)(h:Ks base w p a b c d ch ep mk ct img K)(he:ep'<ep):iU 175 #[O p,I ep',I x,.agg #[I kd,I cl,I ca,gK va vn vc]] w λe w'=>e=gU (lC 5 ep 0 0 0 0 OO)/\Ks base w' p a b c d ch ep mk ct img K/\Bl w w':=by
 have H:=gN h;have hp:=h.kY.lt;have V:=h.kY.cell 5 bT;rw[h.k5]at V;clear h;obtain⟨L,Q⟩:=gO (((Bl.refl w).alloc (ig #[I kd,I cl,I ca,gK va vn vc] 91)).alloc (ig oL 215)) (ao (w.alloc (ig #[I kd,I cl,I ca,gK va vn vc] 91)) (ig oL 215));rw[show(w.alloc (ig #[I kd,I cl,I ca,gK va vn vc] 91)).heap.size=w.heap.size+1 from by simp]at Q;go_enter func175,ntmps175;go_wp2_with fail;refine gS (vM p K ep _ (H.kY.bl L) H.k5) λw' j=>?_;obtain⟨A,M,P⟩:=iI ((j.heap bz).H Q) ((H.bl L).bl j) (L.H j);have lN:w.heap.size+1<w'.heap.size:=(ae.1 A).1;obtain⟨Y,Z,n2,n3,n4,n5,n6,f0,f1,f2,f3,f4,f5,f6⟩:=mH A;unfold lC;clear j;go_wp2;have F:=gI.zf (w:=w') (S:=λb=>b=w.heap.size+1) rfl (I 5) (I ep) (I 0) (I 0) (I 0) (I 0) OO;exact aG (v:=lC 5 ep 0 0 0 0 OO) (by simp[results,results175,go_sem,lC,Y,Z,n2,n3,n4,n5,n6]) rfl ⟨rfl,M.qF F A C,P.A F λn e=>C⟩
end
section
theorem Bc(base p)(a b c d ch ep mk)(ct)(img)(K)(ep' x kd cl ca)(v)(ys)(i:Nat)(w)(h:Ks base w p a b c d ch ep mk ct img K)(hb:base<=w.heap.size)(hl:img.length<=1000000000000)(a0:∀i,i<16->(ct i).val.length<=255)(hv:Bs w v (ys.map B8))(hy:ys.length<=255)(M:∀g,v.ownBlock=some g->g<w.heap.size/\(K 71).ownBlock≠some g/\g≠p)(he:¬ep'<ep)(hi:i<16)(Q:rC a b c d x=(ch,(i:Int),0))(A:mw a b c d ch mk ct x=(3,0,⟨0,0,0,[]⟩))(hc:tE kd ys.length=true):iU 175 #[O p,I ep',I x,.agg #[I kd,I cl,I ca,v]] w λe w'=>∃K',e=gU (lC 1 0 0 0 0 0 OO)/\Ks base w' p a b c d ch ep' mk (λj=>if j=i then⟨kd,cl,ca,ys⟩else ct j) (img++j5 3 [ep',x,kd,cl,ca] ys) K'/\Gk p K K' w w':=by
 obtain⟨va,vc,ev⟩:=hv.len;rw[ay]at ev;subst ev;have H:=gN h;have hp:=h.kY.lt;have c5:=h.kY.cell 5 bT;rw[h.k5]at c5;obtain⟨Hv,al,Hc⟩:=iI hv M hc;obtain⟨HX,bA,HN⟩:=iI (fJ (w.alloc (ig (rH kd cl ca va ys vc) 91)) (ig oL 215) w.heap.size bz) (((Bl.refl w).alloc (ig (rH kd cl ca va ys vc) 91)).alloc (ig oL 215)) (ao (w.alloc (ig (rH kd cl ca va ys vc) 91)) (ig oL 215));rw[show(w.alloc (ig (rH kd cl ca va ys vc) 91)).heap.size=w.heap.size+1 from by simp]at HN;obtain⟨a1,HL⟩:=gO (HX.H (ao w (ig (rH kd cl ca va ys vc) 91))) (zQ base p a b c d ch ep mk ct img K x _ (H.bl bA) a0);rw[A]at HL;simp only at HL;have HP:Hid (∀W,Bl w W->_):=λW hW=>US base p a b c d ch ep mk ct img K ep' x kd cl ca _ ys i W (H.bl hW) (aF hb hW.lt) hl (hv.bl hW) hy (λg e=>⟨af (M g e).1 hW.lt,(M g e).2⟩) hi Q;generalize (img++j5 3 [ep',x,kd,cl,ca] ys)=ak at*;generalize (λj=>if j=i then(⟨kd,cl,ca,ys⟩:Ct)else ct j)=am at*;clear h hv M hc HX a0 A Q;go_enter func175,ntmps175;go_wp2_with fail;refine HL.L ?_;rintro e w1⟨v1,rfl,a2,P⟩;obtain⟨a3,a4,ev⟩:∃a c,v1=gK a 0 c:=by obtain⟨a',c',e'⟩:=(jD a2).len;exact⟨a',c',e'⟩
 subst ev;have a9:=gN ((P.heap ik).H a1);have a5:=gN ((P.heap bz).H HN);have lN:w.heap.size+1<w1.heap.size:=(ae.1 a5).1;obtain⟨x0,x1,x2,x3⟩:=pD a9 0 1 2 3 rfl;simp at x0 x1 x2 x3;have aa:=gN (bA.H P);have lX:w.heap.size<w1.heap.size:=C;unfold lC;clear P a2 HL a1 HN;go_wp2_with fail;refine(vq kd cl ca va ys.length vc _ C).L ?_;rw[Hc.o];rintro e w2⟨rfl,Y⟩;obtain⟨bE,HY⟩:=gO ((Bl.refl w1).alloc (ig #[I 3,I 0,I 0,I 0,I 0,I 0,gK a3 0 a4] 215)) (ao w1 (ig #[I 3,I 0,I 0,I 0,I 0,I 0,gK a3 0 a4] 215));have b2:=gN (bE.H Y);have y0:=ax w2 w1.heap.size 0 _ 215 (0,0) ((Y.heap bz).H HY);obtain⟨q0,q1,q2,q3⟩:=b2.N lX x0 x1 x2 x3;simp at y0;obtain⟨a6,ab⟩:=gO (aa.H b2) ((b2.heap lN).H a5);have V:=gN (HP w2 a6);have ac:=af lN b2.lt;clear Y x0 x1 x2 x3 HY bE;go_wp2_with fail;refine V.L ?_;rintro e w3⟨K3,rfl,a7,Z⟩;have ad:Hid (¬(w.heap.size+1=p\/(K 71).ownBlock=some (w.heap.size+1))):=by
  rintro(e|e)
  .omega
  have:=(H.ij.lt _ e).2;omega
 obtain⟨a8,ag,ai⟩:=iI ((Z.only.block _ ac ad).H ab) a7 (Z.M a6);obtain⟨n0,n1,n2,n3,n4,n5,n6,f0,f1,f2,f3,f4,f5,f6⟩:=mH a8;clear a7 Z V;go_wp2;have F:=gI.zf (w:=w3) (S:=λb=>b=w.heap.size+1) rfl (I 1) (I 0) (I 0) (I 0) (I 0) (I 0) OO;exact aG (v:=lC 1 0 0 0 0 0 OO) (by simp[results,results175,go_sem,lC,n0,n1,n2,n3,n4,n5,n6]) rfl ⟨K3,rfl,ag.qF F a8 C,ai.new F λb e=>C⟩
theorem BO(base p)(a b c d ch ep mk)(ct)(img)(K)(ep' x kd cl ca)(va)(vn vc)(w)(h:Ks base w p a b c d ch ep mk ct img K)(hb:base<=w.heap.size)(hl:img.length<=1000000000000)(a6:∀i,i<16->(ct i).val.length<=255)(aY:vn<=255)(he:¬ep'<ep)(wh m)(t)(Q:mw a b c d ch mk ct x=(wh,m,t))(a7:wh≠3)(hc:tE kd vn=true):iU 175 #[O p,I ep',I x,.agg #[I kd,I cl,I ca,gK va vn vc]] w λe w'=>∃K' v',e=gU (lC wh 0 m t.kd t.cl t.ca v')/\w'.ownsRow w.heap.size 5 1 v' t.val.length (t.val.map B8)/\Ks base w' p a b c d ch ep' mk ct (img++if ep'=ep then []else j5 1 [ep'] []) K'/\Gk p K K' w w'/\(ep'=ep->K'=K/\Bl w w')/\∀g,v'.ownBlock=some g->¬KF K' g:=by
 have H:=gN h;have hp:=h.kY.lt;have c5:=h.kY.cell 5 bT;rw[h.k5]at c5;obtain⟨Hc,HX,bA,HN⟩:=kN hc (fJ (w.alloc (ig #[I kd,I cl,I ca,gK va vn vc] 91)) (ig oL 215) w.heap.size bz) (((Bl.refl w).alloc (ig #[I kd,I cl,I ca,gK va vn vc] 91)).alloc (ig oL 215)) (ao (w.alloc (ig #[I kd,I cl,I ca,gK va vn vc] 91)) (ig oL 215));rw[show(w.alloc (ig #[I kd,I cl,I ca,gK va vn vc] 91)).heap.size=w.heap.size+1 from by simp]at HN;obtain⟨a8,HL⟩:=gO (HX.H (ao w (ig #[I kd,I cl,I ca,gK va vn vc] 91))) (zQ base p a b c d ch ep mk ct img K x _ (H.bl bA) a6);rw[Q]at HL;obtain⟨tk,tl,ta,Y⟩:=t;simp only at HL|-;have HP:Hid (∀W,Bl w W->_):=λW hW=>xy base p a b c d ch ep mk ct img K ep' W (H.bl hW) (aF hb hW.lt) hl;generalize (img++if ep'=ep then []else j5 1 [ep'] [])=aw at*;have b0:(wh==3)=false:=je a7;clear h hc HX a6 Q a7;go_enter func175,ntmps175;go_wp2_with fail;refine HL.L ?_;rintro e w1⟨v1,rfl,V,Z⟩;obtain⟨j,M,ev⟩:∃a c,v1=gK a Y.length c:=by obtain⟨a',c',e'⟩:=(jD V).len;rw[jQ V]at e';exact⟨a',c',e'⟩
 subst ev;have ak:=gN ((Z.heap ik).H a8);have a9:=gN ((Z.heap bz).H HN);have lN:w.heap.size+1<w1.heap.size:=(ae.1 a9).1;obtain⟨x0,x1,x2,x3⟩:=pD ak 0 1 2 3 rfl;simp at x0 x1 x2 x3;have al:=gN (bA.H Z);have lX:w.heap.size<w1.heap.size:=C;have am:Hid (w1.ownsRow w.heap.size 5 1 (mP j Y M) Y.length (Y.map B8)):=iE V λg hg=>aF bA.lt (V.lt g hg).1;unfold lC;clear Z V HL a8 HN;go_wp2_with fail;refine(vq kd cl ca va vn vc _ C).L ?_;rw[Hc.o];rintro e w2⟨rfl,a0⟩;obtain⟨bE,HY⟩:=gO ((Bl.refl w1).alloc (ig #[I wh,I 0,I m,I tk,I tl,I ta,gK j Y.length M] 215)) (ao w1 (ig #[I wh,I 0,I m,I tk,I tl,I ta,gK j Y.length M] 215));obtain⟨b2,a1⟩:=gO (bE.H a0) ((a0.heap bz).H HY);have y0:=ax w2 w1.heap.size 0 _ 215 (0,0) a1;simp at y0;obtain⟨a2,an,a3⟩:=iI (al.H b2) ((b2.heap lN).H a9) ((jY b2).jH am λ_ _ e=>e);have ap:=af lN b2.lt;have aq:w1.heap.size<w2.heap.size:=(ae.1 a1).1;have aa:=gN (HP w2 a2);clear a0 x0 x1 x2 x3 HY bE;go_wp2_with fail;refine aa.L ?_;rintro e w3⟨K3,rfl,ab,P,ac⟩;have ad:=gN ac;have a4:Hid (∀g,w.heap.size<=g->¬(g=p\/(K 71).ownBlock=some g)):=by
  rintro g hg (e|e)
  .omega
  have:=(H.ij.lt _ e).2;omega
 obtain⟨a5,ag,ai⟩:=iI ((P.only.block _ ap (a4 _ C)).H an) ((P.only.block _ aq (a4 _ C)).H a1) (P.only.jH a3 λg hg=>a4.o g (a3.lt g hg).1);obtain⟨ar,au⟩:=gO ab (P.M a2);have av:Hid (∀g,(mP j Y M).ownBlock=some g->¬KF K3 g):=λg e hF=>by
  have h1:=a3.lt g e;obtain h2|h2:=P.d g hF
  .have:=(H.PM h2).2;omega
  omega
 obtain⟨n0,n1,n2,n3,n4,n5,n6,f0,f1,f2,f3,f4,f5,f6⟩:=mH a5;obtain⟨z0,z1,z2,z3⟩:=pD ag 0 1 2 3 rfl;obtain⟨z4,z5,z6⟩:=sy ag 4 5 6 rfl;simp at z0 z1 z2 z3 z4 z5 z6;clear ab P ac aa;go_wp2;have F:=gI.zf (w:=w3) (S:=λb=>b=w.heap.size+1) rfl (I wh) (I 0) (I m) (I tk) (I tl) (I ta) (mP j Y M);exact aG (v:=lC wh 0 m tk tl ta (mP j Y M)) (by simp[results,results175,go_sem,lC,n0,n1,n2,n3,n4,n5,n6]) rfl ⟨K3,_,rfl,F.jH ai λb hb e=>gW ai a5 bT (kz hb e),ar.qF F a5 C,au.new F λb e=>C,λe=>⟨(ad e).1,(a2.H (ad e).2).A F λn e=>C⟩,av⟩
open Go.RowKit
attribute [local go_sem ↓] Go.wp_at_zero Go.wp_at_succ
structure St where
 ep:Int
 mark:Int
 ct:Nat->Ct
def Tu(h:tE kd n=true):n<=8:=by unfold tE at h;split at h;all_goals simp_all
end
section
def Rv:Value->Option (DataW Value×List MemPlace):=λv=>some (.held v,[])
def V6:Value:= .agg #[I 0,I 0,OO]
def Xy(w):(zeroValue 311).run prog w=.ok V6 w:=rfl
def N9:Keyed prog 3:=int_keyed underlying3
def IN:Value->Int
 | .agg a=>Go.RowKit.intOf ((a[0]?).getD undef)
 |_=>0
def Mp(w:World)(b n:Nat)(M:Int->Value):Prop:=
 ∃D:DataW Value,w.ownsMap prog 3 Rv b n D/\IsMap D/\(∀k,D.atKey (.int .i64 k) (.held V6)=.held (M k))/\∀k,has D (.int .i64 k)=true->IN (M k)≠0
def EC(M:Int->Value)(k:Int)(v:Value):Int->Value:=λj=>if j=k then v else M j
def Mp.lt{w:World}{b:Nat}{M:Int->Value}(h:Mp w b n M):b<w.heap.size:=by obtain⟨D,j,_⟩:=h;exact j.lt
def Mp.pF{w:World}{b:Nat}{M:Int->Value}(h:Mp w b n M)(e:w'.heap[b]?=w.heap[b]?):Mp w' b n M:=by obtain⟨D,⟨A,j,F,H⟩,L⟩:=h;exact⟨D,⟨A,j,e.H F,H⟩,L⟩
def Mp.only{w:World}{b:Nat}{M:Int->Value}(h:Mp w b n M)(j:gI S w w')(A:¬S b):Mp w' b n M:=h.pF (j.block b h.lt A)
def Mp.bl{w:World}{b:Nat}{M:Int->Value}(h:Mp w b n M)(j:Bl w w'):Mp w' b n M:=h.pF (j.heap h.lt)
def Mp.ne{w:World}{b:Nat}{M:Int->Value}(h:Mp w b n M){f:Nat×Nat}(A:w.heap[g]?=some (ig cs t f)):g≠b:=by rintro rfl;obtain⟨D,⟨F,j,H,_⟩,_⟩:=h;simp_all
def Mp.qC{w:World}{b:Nat}{M:Int->Value}(h:Mp w b n M){base:Nat}{size:Nat}(j:w.ownsRow base e size v k xs):v.ownBlock≠some b:=by intro e';obtain⟨c,A⟩:=qf j b e';exact h.ne A rfl
def Mp.Eu(w:World):Mp (w.alloc (.map #[] 0)) w.heap.size 0 (λ_=>V6):=
 ⟨.map [],World.ownsMap_made w prog 3 Rv,⟨_,rfl⟩,λ_=>rfl,λk h=>by simp[has]at h⟩
def Mp.qI{w:World}{b:Nat}{M:Int->Value}(h:Mp w b n M)(k)(A:(Lit.int .i64 k).wf=true):(Instr.lookup 251 (.map (some b)) (I k) false).run prog w=.ok (M k) w:=by obtain⟨D,F,L,H,_⟩:=h;obtain⟨v,ps,P,j⟩:=F.lookup N9 underlying251 (Xy w) rfl (keyOf_int_mk underlying3 A);rw[H]at j;simp only[Rv,aJ,Prod.mk.injEq,DataW.held.injEq]at j;simp_all
def Mp.put{w:World}{b:Nat}{M:Int->Value}(h:Mp w b n M)(k)(A:(Lit.int .i64 k).wf=true)(v)(P:n<maxLen)(Q:IN v≠0):∃w',(Instr.mapUpdate 251 (.map (some b)) (I k) v).run prog w=.ok () w'/\Mp w' b (n+1) (EC M k v)/\gI (λx=>x=b) w w':=by
 obtain⟨D,V,F,Y,Z⟩:=h;obtain⟨w',hr,ho,hg⟩:=V.update (e:=311) N9 underlying251 P (keyOf_int_mk underlying3 A) (val:=v) (ps:=[]) rfl;refine⟨w',hr,⟨_,ho,?_,λj=>?_,λj H=>?_⟩,(gI.A hg).L λx _ e=>je e⟩
 .obtain⟨es,rfl⟩:=F;exact⟨_,rfl⟩
 .unfold EC;by_cases e:j=k
  .subst e;rw[aE rfl,atKey_put_same F (N9.key (keyOf_int_mk underlying3 A))]
  rw[az e,atKey_put_other (je e),Y]
 unfold EC;by_cases e:j=k
 .simp_all
 rw[az e];rw[has_put_other (je e)]at H;exact Z j H
open Go.RowKit Go.Maps
attribute [local go_sem ↓] Go.wp_at_zero Go.wp_at_succ
structure Ep where
 pr:Int
 ba:Int
 val:List Int
def oh(E:Int->Ep)(k:Int)(s:Ep):Int->Ep:=λj=>if j=k then s else E j
structure Vs(base:Nat)(w:World)(p bm n:Nat)(E:Int->Ep)(img:List Int)(M:Int->Value)(vi:Value)(t:TypeId):Prop where
 kY:w.heap[p]?=some (.cells #[.map (some bm),vi] t (0,0))
 ty:t=253\/t=255
 mp:Mp w bm n M
 ep:∀e,∃vv,M e=.agg #[I (E e).pr,I (E e).ba,vv]/\w.ownsRow base 5 1 vv (E e).val.length ((E e).val.map B8)/\∀g,vv.ownBlock=some g->vi.ownBlock≠some g
 ij:w.ownsRow base 5 1 vi img.length (img.map B8)
def Vs.lt{base:Nat}{w:World}{E:Int->Ep}{j:List Int}{M:Int->Value}(h:Vs base w p bm n E j M vi t):p<w.heap.size:=(ae.1 h.kY).1
def Vs.c0{base:Nat}{w:World}{E:Int->Ep}{j:List Int}{M:Int->Value}(h:Vs base w p bm n E j M vi t):w.cell? (U p 0)=some (.map (some bm)):=by rw[ax w p 0 _ t _ h.kY];rfl
def Vs.c1{base:Nat}{w:World}{E:Int->Ep}{j:List Int}{M:Int->Value}(h:Vs base w p bm n E j M vi t):w.cell? (U p 1)=some vi:=by rw[ax w p 1 _ t _ h.kY];rfl
def Vs.pm{base:Nat}{w:World}{E:Int->Ep}{j:List Int}{M:Int->Value}(h:Vs base w p bm n E j M vi t):p≠bm:=h.mp.ne h.kY
def Vs.Jm{base:Nat}{w:World}{E:Int->Ep}{j:List Int}{M:Int->Value}(h:Vs base w p bm n E j M vi t)(A:w.ownsRow B 5 1 v k xs):v.ownBlock≠some p:=gW A h.kY (by obtain e|e:=h.ty<;>rw[e]<;>decide)
def Vs.only{base:Nat}{w:World}{E:Int->Ep}{j:List Int}{M:Int->Value}(h:Vs base w p bm n E j M vi t)(A:gI S w w')(L:∀b,S b->b≠p/\b≠bm/\∀cs f,w.heap[b]?≠some (ig cs 5 f)):Vs base w' p bm n E j M vi t:=by
 have F:∀{v:Value} {k:Nat} {xs:List Value},w.ownsRow base 5 1 v k xs->w'.ownsRow base 5 1 v k xs:=λP=>A.jH P λb e Q=>by obtain⟨c,V⟩:=qf P b e;simp_all
 refine⟨(A.block p h.lt λe=>(L p e).1 rfl).H h.kY,h.ty,h.mp.only A λe=>(L bm e).2.1 rfl,λe=>?_,F h.ij⟩;obtain⟨Y,Z,h2,h3⟩:=h.ep e;simp_all
def Vs.bl{base:Nat}{w:World}{E:Int->Ep}{j:List Int}{M:Int->Value}(h:Vs base w p bm n E j M vi t)(A:Bl w w'):Vs base w' p bm n E j M vi t:=h.only (jY A) λ_ e=>e.elim
def ZN:Value->Value
 | .agg a=>(a.toList[2]?).getD OO
 |v=>v
def EL(M:Int->Value)(vi:Value)(g:Nat):Prop:=vi.ownBlock=some g\/∃e,(ZN (M e)).ownBlock=some g
def Vs.DN{base:Nat}{w:World}{E:Int->Ep}{A:List Int}{M:Int->Value}(h:Vs base w p bm n E A M vi t)(j:EL M vi g):base<=g/\g<w.heap.size:=by
 obtain j|⟨e,j⟩:=j
 .exact h.ij.lt g j
 obtain⟨L,F,H,_⟩:=h.ep e;rw[F]at j;exact H.lt g j
structure vQ(p bm:Nat)(M:Int->Value)(vi:Value)(M':Int->Value)(vi':Value)(w w':World):Prop where
 only:gI (λb=>b=p\/b=bm\/vi.ownBlock=some b) w w'
 d:∀g,EL M' vi' g->EL M vi g\/w.heap.size<=g
def vQ.M{M:Int->Value}{j:Value}{w:World}(h:vQ p bm M vi M' j W w')(A:Bl w W):vQ p bm M vi M' j w w':=
 ⟨(gI.D A).H h.only,λg F=>(h.d g F).imp id (aF A.lt)⟩
def vQ.post{M:Int->Value}{j:Value}{w A:World}(h:vQ p bm M vi M' j w A)(F:Bl A w'):vQ p bm M vi M' j w w':=
 ⟨h.only.H (gI.D F),h.d⟩
def Vs.TE{base:Nat}{w w2:World}{E:Int->Ep}{P rec:List Int}{M:Int->Value}{A:Value}(h:Vs base w p bm n E P M vi t)(e)(s)(vv){L:Nat}(hW:Bl w W)(hm:gI (λx=>x=bm) W w2)(a5:Mp w2 bm (n+1) (EC M e (.agg #[I s.pr,I s.ba,vv])))(Y:W.ownsRow base 5 1 vv s.val.length (s.val.map B8))(Z:∀g,vv.ownBlock=some g->vi.ownBlock≠some g)(a6:∀g,vv.ownBlock=some g->EL M vi g\/w.heap.size<=g){w3:World}(a0:Bl w2 w3)(hk:Kept base w3 w' p 1 vi A L xs)(hL:L=P.length+rec.length)(hx:xs=P.map B8++rec.map B8):Vs base w' p bm (n+1) (oh E e s) (P++rec) (EC M e (.agg #[I s.pr,I s.ba,vv])) A t/\vQ p bm M vi (EC M e (.agg #[I s.pr,I s.ba,vv])) A w w':=by
 obtain⟨W4,w5,a1,V,rfl⟩:=hk.ex;have F:=h.bl hW;have O3:gI (λb=>b=bm) W W4:=hm.H (gI.D (a0.H a1));have O5:gI (λb=>b=bm\/vi.ownBlock=some b) W w5:=(O3.L λb _ e=>.inl e).H (V.only.L λb _ e=>.inr e);have a2:vi.ownBlock≠some p:=F.Jm F.ij;have a3:w5.heap[p]?=some (ig #[.map (some bm),vi] t (0,0)):=(O5.block p F.lt (by rintro(e|e);exact F.pm e;exact a2 e)).H F.kY;have OS:gI (λb=>b=p) w5 (w5.setCell (U p 1) A):=(gI.refl (λb=>b=p) w5).setCell (U p 1) (.inl rfl) A;have O6:gI (λb=>b=p\/b=bm\/vi.ownBlock=some b) W (w5.setCell (U p 1) A):=(O5.L λb _ e=>.inr e).H (OS.L λb _ e=>.inl e);have nB:∀{v:Value} {k:Nat} {ys:List Value},W.ownsRow base 5 1 v k ys->(∀g,v.ownBlock=some g->vi.ownBlock≠some g)->(w5.setCell (U p 1) A).ownsRow base 5 1 v k ys:=λhr ha=>O6.jH hr λb e hS=>by
  obtain rfl|rfl|hS:=hS
  .exact F.Jm hr e
  .exact F.mp.qC hr e
  exact ha b e hS
 have ny:∀{v:Value} {k:Nat} {ys:List Value},W.ownsRow base 5 1 v k ys->(∀g,v.ownBlock=some g->vi.ownBlock≠some g)->∀g,v.ownBlock=some g->A.ownBlock≠some g:=λhr ha g e e'=>by
  obtain e'|e':=V.d g e'
  .exact ha g e e'
  have:=(hr.lt g e).2;have:=O3.size;omega
 have a4:vi.ownBlock≠some bm:=F.mp.qC F.ij;refine⟨⟨?_,h.ty,?_,λj=>?_,?_⟩,(gI.D hW).H O6,λg Q=>?_⟩
 rotate_left 4
 .obtain Q|⟨j,Q⟩:=Q
  .obtain e'|e':=V.d g Q
   .exact .inl (.inl e')
   exact .inr (aF hW.lt (aF O3.size e'))
  unfold EC at Q;split at Q
  .exact a6 g Q
  exact .inl (.inr ⟨j,Q⟩)
 .have:=cH w5 p 1 _ t A a3;exact this
 .refine((a5.bl (a0.H a1)).only V.only a4).only OS λe=>F.pm e.symm
 .unfold EC oh;by_cases e1:j=e
  .rw[aE e1,aE e1];exact⟨vv,rfl,nB Y Z,ny Y Z⟩
  rw[az e1,az e1];obtain⟨u,h1,h2,h3⟩:=F.ep j;exact⟨u,h1,nB h2 h3,ny h2 h3⟩
 rw[aO,aZ,<-hx,<-hL];exact OS.jH V.ij λb e e'=>gW V.ij a3 (by obtain e|e:=h.ty<;>rw[e]<;>decide) (kz e e')
end
theorem F8(base p bm n)(E)(img)(M)(vi)(t)(e b)(a2:b≠0)(w)(h:Vs base w p bm n E img M vi t)(hb:base<=w.heap.size)(hl:img.length<=1000000000000)(hn:n<=1000000000000)(he:(Lit.int .i64 e).wf=true):iU 229 #[O p,I e,I b] w λen w'=>∃M' L,en=iF/\Vs base w' p bm (n+1) (oh E e ⟨b,(E e).ba,(E e).val⟩) (img++j5 1 [e,b] []) M' L t/\vQ p bm M vi M' L w w':=by
 obtain⟨vv,hM,A,V⟩:=h.ep e;obtain⟨va,vc,rfl⟩:∃a c,vv=gK a (E e).val.length c:=by obtain⟨a',c',e'⟩:=(jD A).len;rw[jQ A]at e';exact⟨a',c',e'⟩
 have hp:=h.lt;have c0:=h.c0;have P:=h.mp.qI e he;rw[hM]at P;have Y:=gN ((Bl.refl w).alloc (ig #[I b,I (E e).ba,gK va (E e).val.length vc] 311));obtain⟨Q,a4,F,Z⟩:=(h.mp.bl (Y.drew)).put e he (.agg #[I b,I (E e).ba,gK va (E e).val.length vc]) (by unfold maxLen;omega) (by simpa [IN,Go.RowKit.intOf]using a2);obtain⟨H,HM,HO⟩:=iI h F Z;obtain⟨HV,HA,a3⟩:=iI A V hM;clear h F Z A V hM;generalize hs:(E e).ba=eb at*;generalize hv:(E e).val=ev at*;obtain⟨Hs,Hv⟩:=gO hs hv;clear hs hv;go_enter func229,ntmps229;go_wp2;go_region;obtain⟨bB,j⟩:=gO ((Bl.refl Q).alloc (ig #[I e,I b] 3)) (H.bl (Y.drew));have OW:Hid (gI (λx=>x=bm) (w.alloc (ig #[I b,I eb,gK va ev.length vc] 311)).drew (Q.alloc (ig #[I e,I b] 3))):=HO.H (gI.D bB);have a0:=(OW.block p j.lt j.pm).H j.kY;have a1:=OW.jH j.ij λb' e1 e2=>j.mp.qC j.ij (kz e1 e2);have hN:Bs (Q.alloc (ig #[I e,I b] 3)) (gK (G Q.heap.size) 2 2) ([e,b].map I):=AO Q 3 #[I e,I b] 2 rfl;have l2:w.heap.size<=Q.heap.size:=aF Y.lt HO.size;have HK:=gN (Ar base p 1 _ t vi img.length (img.map B8) 1 (gK (G Q.heap.size) 2 2) OO [e,b] [] _ a0 rfl (by obtain e|e:=H.ty<;>rw[e]<;>decide) a1 ik hl hN (.inl ⟨rfl,rfl⟩) bT bT bz bz (λg e1 e2=>by
  simp[Value.ownBlock]at e2
  have:=(H.ij.lt g e1).2
  omega) (λg e e'=>pV e') (λg e=>by simp[Value.ownBlock]at e;subst e;simp) λg e=>pV e)
 clear a0 a1 hN;go_wp2_with fail;refine HK.L ?_;rintro en w'⟨L,rfl,hk⟩;have R:=gN (H.TE e ⟨b,eb,ev⟩ (mP va ev vc) (Y.drew) HO HM ((jY Y.drew).jH HV λ_ _ e=>e) HA (λg e1=>.inl (.inr ⟨e,jf a3.o e1⟩)) bB hk rfl rfl);clear hk HK;go_wp2;go_end0;exact⟨_,_,rfl,R.1,R.2⟩
theorem G9(base p bm n)(E)(img)(M)(vi)(t)(e b)(a6:b≠0)(v)(ys)(w)(h:Vs base w p bm n E img M vi t)(hb:base<=w.heap.size)(hl:img.length<=1000000000000)(hn:n<=1000000000000)(he:(Lit.int .i64 e).wf=true)(hv:Bs w v (ys.map B8))(hy:ys.length<=255)(a2:∀g,v.ownBlock=some g->g<w.heap.size/\vi.ownBlock≠some g/\g≠bm):iU 232 #[O p,I e,I b,v] w λen w'=>∃M' a0,en=iF/\Vs base w' p bm (n+1) (oh E e ⟨b,b,ys⟩) (img++j5 2 [e,b] ys) M' a0 t/\vQ p bm M vi M' a0 w w':=by
 obtain⟨va,vc,ev⟩:=hv.len;rw[ay]at ev;subst ev;have hp:=h.lt;have c0:=h.c0;obtain⟨H,Hv,a1⟩:=iI h hv a2;clear h hv a2;have HC:Hid (∀W,Bl w W->iU 87 #[gK va ys.length vc] W λen Y=>∃P Q A,en=gU (mP P ys Q)/\Bl w Y/\Y.cell? (U p 0)=some (.map (some bm))/\Y.ownsRow w.heap.size 5 1 (mP P ys Q) ys.length (ys.map B8)/\(Instr.mapUpdate 251 (.map (some bm)) (I e) (.agg #[I b,I b,gK P ys.length Q])).run prog Y=.ok () A/\Mp A bm (n+1) (EC M e (.agg #[I b,I b,gK P ys.length Q]))/\gI (λx=>x=bm) Y A):=by
  intro W hW;refine(pA (mP va ys vc) ys W (Hv.bl hW) C).L ?_;rintro en Y⟨u,rfl,a7,hu⟩;obtain⟨P,Q,rfl⟩:∃a c,u=gK a ys.length c:=by obtain⟨a',c',e'⟩:=(jD hu).len;rw[jQ hu]at e';exact⟨a',c',e'⟩
  have hB:=hW.H a7;obtain⟨A,Z,j,V⟩:=(H.mp.bl hB).put e he (.agg #[I b,I b,gK P ys.length Q]) (by unfold maxLen;omega) (by simpa [IN,Go.RowKit.intOf]using a6);exact⟨P,Q,A,rfl,hB,(H.bl hB).c0,iE hu λg e=>aF hW.lt (hu.lt g e).1,Z,j,V⟩
 go_enter func232,ntmps232;go_wp2;go_region_with(go_at_call 87;refine(HC _ (by exact jZ.drewN _)).L ?_;rintro en Y⟨P,Q,A,rfl,hB,c1,hu,Z,j,V⟩;obtain⟨HB,HU,HM,HO⟩:=kN hB hu j V;clear hB hu j V);all_goals
  obtain⟨bB,F⟩:=gO ((Bl.refl A).alloc (ig #[I e,I b] 3)) (H.bl HB);have OW:Hid (gI (λx=>x=bm) Y (A.alloc (ig #[I e,I b] 3))):=HO.H (gI.D bB);have a3:=(OW.block p F.lt F.pm).H F.kY;have a4:=OW.jH F.ij λb' e1 e2=>F.mp.qC F.ij (kz e1 e2);have a5:=(Hv.bl HB).only OW λg e e'=>(a1 g e).2.2 e';have hN:Bs (A.alloc (ig #[I e,I b] 3)) (gK (G A.heap.size) 2 2) ([e,b].map I):=AO A 3 #[I e,I b] 2 rfl;have l2:w.heap.size<=A.heap.size:=aF HB.lt HO.size;have HK:=gN (Ar base p 1 _ t vi img.length (img.map B8) 2 (gK (G A.heap.size) 2 2) (mP va ys vc) [e,b] ys _ a3 rfl (by obtain e|e:=H.ty<;>rw[e]<;>decide) a4 ik hl hN a5 bT bT bz hy (λg e1 e2=>by
   simp[Value.ownBlock]at e2
   have:=(H.ij.lt g e1).2
   omega) (λg e e'=>(a1 g e').2.1 e) (λg e=>by simp[Value.ownBlock]at e;subst e;simp) λg e=>by have:=(a1 g e).1;simp;omega)
  clear a3 a4 hN a5;go_wp2_with fail;refine HK.L ?_;rintro en w'⟨a0,rfl,hk⟩;have R:=gN (H.TE e ⟨b,b,ys⟩ (mP P ys Q) HB HO HM (iE HU λg e=>aF hb (HU.lt g e).1) (λg e e'=>by have:=(HU.lt g e).1;have:=(H.ij.lt g e').2;omega) (λg e=>.inr (HU.lt g e).1) bB hk rfl rfl);clear hk HK;go_wp2;go_end0;exact⟨_,_,rfl,R.1,R.2⟩
theorem yo(pr ba)(a)(n c)(w):iU 228 #[.agg #[I pr,I ba,gK a n c]] w λe w'=>e=gU (.agg #[I 6,I pr,I 0,OO])/\Bl w w':=by
 go_enter func228,ntmps228;go_wp2;exact aG (by simp[results,results228,go_sem]) rfl ⟨rfl,(jZ.alloc _).alloc _⟩
theorem qV(a)(n c:Nat)(w)(A:(n:Int)<=9223372036854775807):iU 230 #[gK a n c] w λe w'=>e=gU (.bool (decide (1<=n/\n<=255)))/\Bl w w':=by
 by_cases F:1<=n
 .by_cases H:n<=255
  .have h:(1:Int)<=(n:Int):=C;have j:(n:Int)<=255:=C;go_enter func230,ntmps230;go_wp2;go_ret;exact⟨by rw[show decide (1<=n/\n<=255)=true from by simp;omega];rfl,jZ⟩
  have h:(1:Int)<=(n:Int):=C;have j:¬(n:Int)<=255:=C;go_enter func230,ntmps230;go_wp2;go_ret;exact⟨rfl,jZ⟩
 have h:¬(1:Int)<=(n:Int):=C;go_enter func230,ntmps230;go_wp2;go_ret;exact⟨rfl,jZ⟩
def vQ.Gy{M:Int->Value}{j:Value}{w A:World}(h:vQ p bm M vi M' j w A)(k:gI T A w')(F:∀n,T n->w.heap.size<=n):vQ p bm M vi M' j w w':=
 ⟨h.only.xX k F,h.d⟩
def nE(wh pr ba:Int)(v:Value):Value:= .agg #[I wh,I pr,I ba,v]
def lF:Array Value:=#[I 0,I 0,I 0,OO]
def ot{w:World}(h:w.heap[g]?=some (ig lF 222 (0,0))):w.cell? (U g 0)=some (I 0)/\w.cell? (U g 1)=some (I 0)/\w.cell? (U g 2)=some (I 0)/\w.cell? (U g 3)=some OO/\w.frozen? (U g 0)=false/\w.frozen? (U g 1)=false/\w.frozen? (U g 2)=false/\w.frozen? (U g 3)=false:=
 ⟨ax w g 0 _ 222 (0,0) h,ax w g 1 _ 222 (0,0) h,ax w g 2 _ 222 (0,0) h,ax w g 3 _ 222 (0,0) h,aP w g 0 _ 222 h,aP w g 1 _ 222 h,aP w g 2 _ 222 h,aP w g 3 _ 222 h⟩
def gI.Ky{w:World}(h:S g)(u0 u1 u2 u3):gI S w ((((w.setCell (U g 0) u0).setCell (U g 1) u1).setCell (U g 2) u2).setCell (U g 3) u3):=
 ((((gI.refl S w).setCell (U g 0) (.inl h) u0).setCell (U g 1) (.inl h) u1).setCell (U g 2) (.inl h) u2).setCell (U g 3) (.inl h) u3
def Vs.qF{base:Nat}{w:World}{E:Int->Ep}{j:List Int}{M:Int->Value}(h:Vs base w p bm n E j M vi t)(H:gI (λx=>x=g) w w'){A:TypeId}(F:w.heap[g]?=some (ig cs A (0,0)))(L:A≠5)(P:p≠g):Vs base w' p bm n E j M vi t:=
 h.only H λb e=>by subst e;refine⟨Ne.symm P,h.mp.ne F,λcs f e=>?_⟩;rw[F]at e;simp only[aJ,Obj.cells.injEq]at e;exact L e.2.1
abbrev J4(p0:World):=p0.alloc (ig lF 222)
theorem BT(base p bm n)(E)(img)(M)(vi)(t)(e b)(w)(h:Vs base w p bm n E img M vi t)(he:(Lit.int .i64 e).wf=true)(V:e<1\/b<1\/b<=(E e).pr):iU 180 #[O p,I e,I b] w λen w'=>en=gU (nE 6 (E e).pr 0 OO)/\Vs base w' p bm n E img M vi t/\Bl w w':=by
 obtain⟨vv,hM,Y,a0⟩:=h.ep e;obtain⟨va,vc,rfl⟩:∃a c,vv=gK a (E e).val.length c:=by obtain⟨a',c',e'⟩:=(jD Y).len;rw[jQ Y]at e';exact⟨a',c',e'⟩
 have hp:=h.lt;have c0:=h.c0;have bA:=gN ((Bl.refl w).alloc (ig lF 222));have L:=(h.mp.bl bA).qI e he;rw[hM]at L;unfold lF at L;have H:=gN h;clear h Y a0 hM;have a1:=gN V;generalize (E e).pr=pr at*;generalize (E e).ba=ba at*;generalize (E e).val.length=vl at*;have HR:Hid (∀W,_):=λW=>yo pr ba va vl vc W;obtain⟨bB,HN⟩:=gO (bA.alloc (ig #[I pr,I ba,gK va vl vc] 311)) (ao w (ig lF 222));have fin:Hid (∀P,Bl ((J4 w).alloc (ig #[I pr,I ba,gK va vl vc] 311)) P->P.heap[w.heap.size]?=some (ig lF 222 (0,0))):=λP h2=>(h2.heap ik).H ((fJ (J4 w) _ w.heap.size bz).H HN);by_cases h1:e<1
 case' neg=>
  by_cases h2:b<1
  case neg=>have h3:b<=pr:=C;clear V;go_enter func180,ntmps180;go_wp2_with fail;refine gS (HR _) λP A=>?_;have j:=fin P A;have lN:w.heap.size<P.heap.size:=(ae.1 j).1;obtain⟨n0,n1,n2,n3,f0,f1,f2,f3⟩:=ot j;obtain⟨Z,Q⟩:=gO j (bB.H A);clear j A;go_wp2;have F:=gI.Ky (w:=P) (S:=λb=>b=w.heap.size) rfl (I 6) (I pr) (I 0) OO;exact aG (v:=nE 6 pr 0 OO) (by simp[results,results180,go_sem,nE,n0,n1,n2,n3]) rfl ⟨rfl,(H.bl Q).qF F Z bT C,Q.A F λn e=>C⟩
 all_goals
  clear V;go_enter func180,ntmps180;go_wp2_with fail;refine gS (HR _) λP A=>?_;have j:=fin P A;have lN:w.heap.size<P.heap.size:=(ae.1 j).1;obtain⟨n0,n1,n2,n3,f0,f1,f2,f3⟩:=ot j;obtain⟨Z,Q⟩:=gO j (bB.H A);clear j A;go_wp2;have F:=gI.Ky (w:=P) (S:=λb=>b=w.heap.size) rfl (I 6) (I pr) (I 0) OO;exact aG (v:=nE 6 pr 0 OO) (by simp[results,results180,go_sem,nE,n0,n1,n2,n3]) rfl ⟨rfl,(H.bl Q).qF F Z bT C,Q.A F λn e=>C⟩
theorem zA(base p bm n)(E)(img)(M)(vi)(t)(e b)(w)(h:Vs base w p bm n E img M vi t)(hb:base<=w.heap.size)(hl:img.length<=1000000000000)(hn:n<=1000000000000)(he:(Lit.int .i64 e).wf=true)(an:(E e).val.length<=255)(h1:1<=e)(h2:1<=b)(h3:(E e).pr<b):iU 180 #[O p,I e,I b] w λen w'=>∃M' P v',en=gU (nE 1 b (E e).ba v')/\w'.ownsRow w.heap.size 5 1 v' (E e).val.length ((E e).val.map B8)/\Vs base w' p bm (n+1) (oh E e ⟨b,(E e).ba,(E e).val⟩) (img++j5 1 [e,b] []) M' P t/\vQ p bm M vi M' P w w'/\∀g,v'.ownBlock=some g->¬EL M' P g:=by
 obtain⟨vv,hM,Z,a5⟩:=h.ep e;obtain⟨va,vc,rfl⟩:∃a c,vv=gK a (E e).val.length c:=by obtain⟨a',c',e'⟩:=(jD Z).len;rw[jQ Z]at e';exact⟨a',c',e'⟩
 have hp:=h.lt;have c0:=h.c0;have bA:=gN ((Bl.refl w).alloc (ig lF 222));have Q:=(h.mp.bl bA).qI e he;rw[hM]at Q;unfold lF at Q;have HP:Hid (∀W,Bl w W->_):=λW hW=>F8 base p bm n E img M vi t e b C W (h.bl hW) (aF hb hW.lt) hl hn he;obtain⟨H,HV,HA⟩:=iI h Z a5;clear h Z a5 hM;generalize oh E e ⟨b,(E e).ba,(E e).val⟩=E' at*;generalize img++j5 1 [e,b] []=am at*;generalize (E e).pr=pr at*;generalize (E e).ba=ba at*;generalize (E e).val=A at*;obtain⟨bB,HN⟩:=gO (bA.alloc (ig #[I pr,I ba,gK va A.length vc] 311)) (ao w (ig lF 222));obtain⟨ad,HX⟩:=gO ((fJ (J4 w) (ig #[I pr,I ba,gK va A.length vc] 311) w.heap.size bz).H HN) (ao (J4 w) (ig #[I pr,I ba,gK va A.length vc] 311));rw[show(J4 w).heap.size=w.heap.size+1 from by simp]at HX;have a6:=gN (HP _ bB);have a7:Hid (∀g,w.heap.size<=g->¬(g=p\/g=bm\/vi.ownBlock=some g)):=by
  rintro g hg (e|e|e)
  .omega
  .have:=H.mp.lt;omega
  have:=(H.ij.lt _ e).2;omega
 have ap:¬e<1:=C;have aq:¬b<1:=C;have ar:¬b<=pr:=C;go_enter func180,ntmps180;go_wp2_with fail;refine a6.L ?_;rintro en w2⟨M',P,rfl,a8,V⟩;have a0:=(V.only.block w.heap.size ik (a7 _ jr)).H ad;have a1:=(V.only.block (w.heap.size+1) bz (a7 _ C)).H HX;have Y:w.heap.size<w2.heap.size:=(ae.1 a0).1;have lX:w.heap.size+1<w2.heap.size:=(ae.1 a1).1;have ag:=gN a0;have x1:w2.cell? (U (w.heap.size+1) 1)=some (I ba):=by rw[ax _ _ 1 _ 311 (0,0) a1];rfl
 have x2:w2.cell? (U (w.heap.size+1) 2)=some (mP va A vc):=by rw[ax _ _ 2 _ 311 (0,0) a1];rfl
 have a9:=gN (H.bl bB);have a2:=(jY bB).jH HV λ_ _ e=>e;have ai:=gN (V.only.jH a2 λg e1 e2=>by
  obtain e2|e2|e2:=e2
  .exact a9.Jm a2 (kz e1 e2)
  .exact a9.mp.qC a2 (kz e1 e2)
  .exact HA g e1 e2)
 obtain⟨aa,ak⟩:=gO a8 (V.M bB);obtain⟨n0,n1,n2,n3,f0,f1,f2,f3⟩:=ot a0;have HC:Hid (∀W,Bl w2 W->iU 87 #[gK va A.length vc] W λen w3=>∃ua uc,en=gU (mP ua A uc)/\Bl w2 w3/\w3.ownsRow w2.heap.size 5 1 (mP ua A uc) A.length (A.map B8)):=by
  intro W hW;refine(pA (mP va A vc) A W ((tr ai).bl hW) C).L ?_;rintro en w3⟨u,rfl,al,hu⟩;obtain⟨ua,uc,rfl⟩:∃a c,u=gK a A.length c:=by obtain⟨a',c',e'⟩:=(jD hu).len;rw[jQ hu]at e';exact⟨a',c',e'⟩
  exact⟨ua,uc,rfl,hW.H al,iE hu λg e=>aF hW.lt (hu.lt g e).1⟩
 clear a0 a1 a2 a8 V a6;go_wp2_with fail;go_region_held3(λW=>W.cell? (U (w.heap.size+1) 1)=some (I ba)/\W.cell? (U (w.heap.size+1) 2)=some (mP va A vc)/\w2.heap.size<=W.heap.size/\True) (first|go_keep|(simp only[ZU,ZS];trivial))
  (first|(go_at_call 87;refine(HC _ (by exact jZ.drewN _)).L ?_;rintro en w3⟨ua,uc,rfl,j,ab⟩;have y1:=(j.cell (o:=1) lX).H x1;have y2:=(j.cell (o:=2) lX).H x2;have l3:=j.lt;have m0:=(j.cell (o:=0) Y).H n0;have m1:=(j.cell (o:=1) Y).H n1;have m2:=(j.cell (o:=2) Y).H n2;have m3:=(j.cell (o:=3) Y).H n3;have k0:=(j.frozen (o:=0) Y).H f0;have k1:=(j.frozen (o:=1) Y).H f1;have k2:=(j.frozen (o:=2) Y).H f2;have k3:=(j.frozen (o:=3) Y).H f3;obtain⟨a3,a4⟩:=gO j ab;clear j ab))
 all_goals
  go_wp2;have ac:w3.heap[w.heap.size]?=some (ig lF 222 (0,0)):=(a3.heap Y).H ag;have F:=gI.Ky (w:=w3) (S:=λb=>b=w.heap.size) rfl (I 1) (I b) (I ba) (mP ua A uc);have hu:=iE (base':=w.heap.size) a4 λg e=>aF (eS Y) (a4.lt g e).1;exact aG (v:=nE 1 b ba (mP ua A uc)) (by simp[results,results180,go_sem,nE,m0,m1,m2,m3]) rfl ⟨M',P,_,rfl,F.jH hu λg e e'=>gW hu ac bT (kz e e'),(aa.bl a3).qF F ac bT C,(ak.post a3).Gy F λg e=>cY e.symm,λg e hF=>by have:=(a4.lt g e).1;have:=(aa.DN hF).2;omega⟩
section
theorem ri(ys):(js ys).data.toList=ys.map (λn=>UInt8.ofNat n.toNat):=by
 have h:∀(ys:List Int) (r:ByteArray),(ys.foldl (λr n=>r.push (UInt8.ofNat n.toNat)) r).data.toList=r.data.toList++ys.map (λn=>UInt8.ofNat n.toNat):=by
  intro ys;induction ys with
  |nil=>intro r;simp
  |cons y ys j=>intro r;rw[dF,j];simp[ByteArray.push]
 have:=h ys ByteArray.empty;unfold js;rw[this];rfl
theorem uO:∀{xs ys:List Int},(∀d∈xs,0<=d/\d<=255)->(∀d∈ys,0<=d/\d<=255)->(js xs).toList=(js ys).toList->xs=ys:=by
 intro xs ys F H h;have j:xs.map (λn:Int=>UInt8.ofNat n.toNat)=ys.map (λn=>UInt8.ofNat n.toNat):=by rw[<-ri,<-ri,<-ey,<-ey,h]
 clear h;induction xs generalizing ys with
 |nil=>
  cases ys with
  |nil=>rfl
  |cons y ys=>simp at j
 |cons x xs L=>
  cases ys with
  |nil=>simp at j
  |cons y ys=>simp only[bj,List.cons.injEq]at j;have e:=Z5 UInt8.toNat j.1;simp only[UInt8.toNat_ofNat']at e;have M:=F x (aN ..);have P:=H y (aN ..);rw[L (λd A=>F d (aX _ A)) (λd A=>H d (aX _ A)) j.2];congr 1;omega
theorem EZ(u v)(xs ys:List Int)(w)(A:Sl w u (xs.map B8))(F:Sl w v (ys.map B8))(H:∀d∈xs,0<=d/\d<=255)(L:∀d∈ys,0<=d/\d<=255)(j:xs≠ys):iU 231 #[u,v] w λe w'=>e=gU (.bool false)/\w'=w:=by
 obtain⟨a,c,e⟩:=A.len;obtain⟨Y,c',e'⟩:=F.len;have M:=mm u xs w A;have P:=mm v ys w F;have Q:¬(js xs).toList=(js ys).toList:=λh=>j (uO H L h);subst e e';simp only[ay]at M P|-;generalize js xs=Z at*;generalize js ys=V at*;clear A F H L j;go_enter func231,ntmps231;go_wp2;go_ret;exact⟨mn (mZ Q),rfl⟩
open Go.RowKit Go.Maps
attribute [local go_sem ↓] Go.wp_at_zero Go.wp_at_succ
theorem Dw(base p bm n)(E)(img)(M)(vi)(t)(e b)(ua)(Z uc:Nat)(w)(h:Vs base w p bm n E img M vi t)(he:(Lit.int .i64 e).wf=true)(a6:(Z:Int)<=9223372036854775807)(a0:e<1\/b<1\/b<(E e).pr\/¬(1<=Z/\Z<=255)):iU 182 #[O p,I e,I b,gK ua Z uc] w λen w'=>en=gU (nE 6 (E e).pr 0 OO)/\Vs base w' p bm n E img M vi t/\Bl w w':=by
 obtain⟨vv,hM,a1,a7⟩:=h.ep e;obtain⟨va,vc,rfl⟩:∃a c,vv=gK a (E e).val.length c:=by obtain⟨a',c',e'⟩:=(jD a1).len;rw[jQ a1]at e';exact⟨a',c',e'⟩
 have hp:=h.lt;have c0:=h.c0;have bA:=gN ((Bl.refl w).alloc (ig lF 222));have L:=(h.mp.bl bA).qI e he;rw[hM]at L;unfold lF at L;have H:=gN h;clear h a1 a7 hM;generalize (E e).pr=P at*;generalize (E e).ba=ba at*;generalize (E e).val.length=vl at*;have HR:Hid (∀W,_):=λW=>yo P ba va vl vc W;have a4:Hid (∀W,_):=λW=>qV ua Z uc W a6;obtain⟨bB,HN⟩:=gO (bA.alloc (ig #[I P,I ba,gK va vl vc] 311)) (ao w (ig lF 222));have fin:Hid (∀Q,Bl ((J4 w).alloc (ig #[I P,I ba,gK va vl vc] 311)) Q->Q.heap[w.heap.size]?=some (ig lF 222 (0,0))):=λQ h2=>(h2.heap ik).H ((fJ (J4 w) _ w.heap.size bz).H HN);by_cases h1:e<1
 case' neg=>
  by_cases h2:b<1
  case' neg=>
   by_cases h3:b<P
   case neg=>
    have h4:decide (1<=Z/\Z<=255)=false:=by obtain h|h|h|h:=a0;omega;omega;omega;simp;omega
    rw[h4]at a4;clear a0 h4;go_enter func182,ntmps182;go_wp2_with fail;refine gS (a4 _) λw1 a2=>?_;have V:w1.heap[w.heap.size+1]?=some (ig #[I P,I ba,gK va vl vc] 311 (0,0)):=by have:=ao (J4 w) (ig #[I P,I ba,gK va vl vc] 311);rw[show(J4 w).heap.size=w.heap.size+1 from by simp]at this;exact(a2.heap bz).H this
    have lX:w.heap.size+1<w1.heap.size:=(ae.1 V).1;have x0:w1.cell? (U (w.heap.size+1) 0)=some (I P):=by rw[ax _ _ 0 _ 311 (0,0) V];rfl
    have x1:w1.cell? (U (w.heap.size+1) 1)=some (I ba):=by rw[ax _ _ 1 _ 311 (0,0) V];rfl
    have x2:w1.cell? (U (w.heap.size+1) 2)=some (gK va vl vc):=by rw[ax _ _ 2 _ 311 (0,0) V];rfl
    have a5:=gN a2;clear a2 V;go_wp2_with fail;refine gS (HR _) λQ A=>?_;have j:=fin Q (a5.H A);have lN:w.heap.size<Q.heap.size:=(ae.1 j).1;obtain⟨n0,n1,n2,n3,f0,f1,f2,f3⟩:=ot j;obtain⟨a3,Y⟩:=gO j (bB.H (a5.H A));clear j A;go_wp2;have F:=gI.Ky (w:=Q) (S:=λb=>b=w.heap.size) rfl (I 6) (I P) (I 0) OO;exact aG (v:=nE 6 P 0 OO) (by simp[results,results182,go_sem,nE,n0,n1,n2,n3]) rfl ⟨rfl,(H.bl Y).qF F a3 bT C,Y.A F λn e=>C⟩
 all_goals
  clear a0;go_enter func182,ntmps182;go_wp2_with fail;refine gS (HR _) λQ A=>?_;have j:=fin Q (A);have lN:w.heap.size<Q.heap.size:=(ae.1 j).1;obtain⟨n0,n1,n2,n3,f0,f1,f2,f3⟩:=ot j;obtain⟨a3,Y⟩:=gO j (bB.H (A));clear j A;go_wp2;have F:=gI.Ky (w:=Q) (S:=λb=>b=w.heap.size) rfl (I 6) (I P) (I 0) OO;exact aG (v:=nE 6 P 0 OO) (by simp[results,results182,go_sem,nE,n0,n1,n2,n3]) rfl ⟨rfl,(H.bl Y).qF F a3 bT C,Y.A F λn e=>C⟩
theorem BC(base p bm n)(E)(img)(M)(vi)(t)(e b)(v)(ys)(w)(h:Vs base w p bm n E img M vi t)(hb:base<=w.heap.size)(hl:img.length<=1000000000000)(hn:n<=1000000000000)(he:(Lit.int .i64 e).wf=true)(hv:Bs w v (ys.map B8))(ar:1<=ys.length)(hy:ys.length<=255)(a0:∀g,v.ownBlock=some g->g<w.heap.size/\vi.ownBlock≠some g/\g≠bm)(a3:∀d∈ys,0<=d/\d<=255)(a4:∀d∈(E e).val,0<=d/\d<=255)(h1:1<=e)(h2:1<=b)(h3:(E e).pr<=b)(hd:b≠(E e).ba\/ys≠(E e).val):iU 182 #[O p,I e,I b,v] w λen w'=>∃M' P,en=gU (nE 1 b 0 OO)/\Vs base w' p bm (n+1) (oh E e ⟨b,b,ys⟩) (img++j5 2 [e,b] ys) M' P t/\vQ p bm M vi M' P w w':=by
 obtain⟨vv,hM,Q,a9⟩:=h.ep e;obtain⟨va,vc,rfl⟩:∃a c,vv=gK a (E e).val.length c:=by obtain⟨a',c',e'⟩:=(jD Q).len;rw[jQ Q]at e';exact⟨a',c',e'⟩
 have hp:=h.lt;have c0:=h.c0;have bA:=gN ((Bl.refl w).alloc (ig lF 222));have j:=(h.mp.bl bA).qI e he;rw[hM]at j;unfold lF at j;obtain⟨ua,uc,ev⟩:=hv.len;rw[ay]at ev;subst ev;obtain⟨H,HV,HU⟩:=iI h Q hv;have a5:Hid (∀W,Bl w W->_):=λW hW=>G9 base p bm n E img M vi t e b C (mP ua ys uc) ys W (h.bl hW) (aF hb hW.lt) hl hn he (hv.bl hW) hy λg e=>⟨af (a0 g e).1 hW.lt,(a0 g e).2⟩;clear h Q a9 hM a0 hv;generalize oh E e ⟨b,b,ys⟩=E' at*;generalize img++j5 2 [e,b] ys=aq at*;generalize (E e).pr=pr at*;generalize (E e).ba=ba at*;generalize (E e).val=ev at*;have a6:Hid (∀W,iU 230 #[gK ua ys.length uc] W λe w'=>e=gU (.bool true)/\Bl W w'):=λW=>by have:=qV ua ys.length uc W C;rwa[show decide (1<=ys.length/\ys.length<=255)=true by simp;omega]at this
 obtain⟨bB,HN⟩:=gO (bA.alloc (ig #[I pr,I ba,gK va ev.length vc] 311)) (ao w (ig lF 222));obtain⟨aa,HX⟩:=gO ((fJ (J4 w) (ig #[I pr,I ba,gK va ev.length vc] 311) w.heap.size bz).H HN) (ao (J4 w) (ig #[I pr,I ba,gK va ev.length vc] 311));rw[show(J4 w).heap.size=w.heap.size+1 from by simp]at HX;have ab:Hid (∀g,w.heap.size<=g->¬(g=p\/g=bm\/vi.ownBlock=some g)):=by
  rintro g hg (e|e|e)
  .omega
  .have:=H.mp.lt;omega
  have:=(H.ij.lt _ e).2;omega
 obtain⟨Hd,ac,ad⟩:=iI hd a3 a4;clear hd a3 a4;have au:¬e<1:=C;have av:¬b<1:=C;have aw:¬b<pr:=C;go_enter func182,ntmps182;go_wp2_with fail;refine gS (a6 _) λw1 V=>?_;have A:=(V.heap bz).H HX;have lX:w.heap.size+1<w1.heap.size:=(ae.1 A).1;have x0:w1.cell? (U (w.heap.size+1) 0)=some (I pr):=by rw[ax _ _ 0 _ 311 (0,0) A];rfl
 have x1:w1.cell? (U (w.heap.size+1) 1)=some (I ba):=by rw[ax _ _ 1 _ 311 (0,0) A];rfl
 have x2:w1.cell? (U (w.heap.size+1) 2)=some (mP va ev vc):=by rw[ax _ _ 2 _ 311 (0,0) A];rfl
 have Y:=gN (bB.H V);have ag:=gN ((V.heap ik).H aa);obtain⟨ai,ak,a7⟩:=iI ((jD HV).bl Y) ((HU.sl).bl Y) (a5 w1 Y);clear V A a5 a6;by_cases a1:b=ba;all_goals
  first
  |(have al:=gN (Hd.resolve_left λq=>q a1);subst a1;go_wp2_with fail;refine(EZ _ _ ys ev w1 ak (by exact ai) ac ad al).L ?_;rintro en W⟨rfl,rfl⟩)
  |have aY:(b==ba)=false:=je a1
  go_wp2_with fail;refine a7.L ?_;rintro en w2⟨M',P,rfl,a8,a2⟩;have Z:=(a2.only.block w.heap.size C (ab _ jr)).H ag;have lN:w.heap.size<w2.heap.size:=(ae.1 Z).1;obtain⟨n0,n1,n2,n3,f0,f1,f2,f3⟩:=ot Z;obtain⟨am,an,ap⟩:=iI Z a8 (a2.M Y);clear Z a8 a2 a7;go_wp2;have F:=gI.Ky (w:=w2) (S:=λb=>b=w.heap.size) rfl (I 1) (I b) (I 0) OO;exact aG (v:=nE 1 b 0 OO) (by simp[results,results182,go_sem,nE,n0,n1,n2,n3]) rfl ⟨M',P,rfl,an.qF F am bT C,ap.Gy F λg e=>cY e.symm⟩
theorem AG(base p bm n)(E)(img)(M)(vi)(t)(e b)(v)(ys)(w)(h:Vs base w p bm n E img M vi t)(hb:base<=w.heap.size)(hl:img.length<=1000000000000)(hn:n<=1000000000000)(he:(Lit.int .i64 e).wf=true)(hv:Bs w v (ys.map B8))(a9:1<=ys.length)(hy:ys.length<=255)(Y:∀g,v.ownBlock=some g->g<w.heap.size/\vi.ownBlock≠some g/\g≠bm)(_hys:∀d∈ys,0<=d/\d<=255)(_hev:∀d∈(E e).val,0<=d/\d<=255)(h1:1<=e)(h2:1<=b)(h3:(E e).pr<=b)(a3:b=(E e).ba)(a4:ys=(E e).val):iU 182 #[O p,I e,I b,v] w λen w'=>en=gU (nE 1 b 0 OO)/\Vs base w' p bm n E img M vi t/\Bl w w':=by
 obtain⟨vv,hM,Q,a5⟩:=h.ep e;obtain⟨va,vc,rfl⟩:∃a c,vv=gK a (E e).val.length c:=by obtain⟨a',c',e'⟩:=(jD Q).len;rw[jQ Q]at e';exact⟨a',c',e'⟩
 have hp:=h.lt;have c0:=h.c0;have bA:=gN ((Bl.refl w).alloc (ig lF 222));have j:=(h.mp.bl bA).qI e he;rw[hM]at j;unfold lF at j;obtain⟨ua,uc,Z⟩:=hv.len;rw[ay]at Z;subst Z;obtain⟨H,HV,HU⟩:=iI h Q hv;have a0:Hid (∀W,Bl w W->_):=λW hW=>G9 base p bm n E img M vi t e b C (mP ua ys uc) ys W (h.bl hW) (aF hb hW.lt) hl hn he (hv.bl hW) hy λg e=>⟨af (Y g e).1 hW.lt,(Y g e).2⟩;clear _hys _hev;clear h Q a5 hM Y hv;generalize (E e).pr=pr at*;generalize (E e).ba=ba at*;generalize (E e).val=Z at*;have a1:Hid (∀W,iU 230 #[gK ua ys.length uc] W λe w'=>e=gU (.bool true)/\Bl W w'):=λW=>by have:=qV ua ys.length uc W C;rwa[show decide (1<=ys.length/\ys.length<=255)=true by simp;omega]at this
 obtain⟨bB,HN⟩:=gO (bA.alloc (ig #[I pr,I ba,gK va Z.length vc] 311)) (ao w (ig lF 222));obtain⟨a6,HX⟩:=gO ((fJ (J4 w) (ig #[I pr,I ba,gK va Z.length vc] 311) w.heap.size bz).H HN) (ao (J4 w) (ig #[I pr,I ba,gK va Z.length vc] 311));rw[show(J4 w).heap.size=w.heap.size+1 from by simp]at HX;have aa:Hid (∀g,w.heap.size<=g->¬(g=p\/g=bm\/vi.ownBlock=some g)):=by
  rintro g hg (e|e|e)
  .omega
  .have:=H.mp.lt;omega
  have:=(H.ij.lt _ e).2;omega
 subst a3;subst a4;have ab:¬e<1:=C;have ac:¬b<1:=C;have ad:¬b<pr:=C;go_enter func182,ntmps182;go_wp2_with fail;refine gS (a1 _) λw1 V=>?_;have A:=(V.heap bz).H HX;have lX:w.heap.size+1<w1.heap.size:=(ae.1 A).1;have x0:w1.cell? (U (w.heap.size+1) 0)=some (I pr):=by rw[ax _ _ 0 _ 311 (0,0) A];rfl
 have x1:w1.cell? (U (w.heap.size+1) 1)=some (I b):=by rw[ax _ _ 1 _ 311 (0,0) A];rfl
 have x2:w1.cell? (U (w.heap.size+1) 2)=some (mP va ys vc):=by rw[ax _ _ 2 _ 311 (0,0) A];rfl
 have P:=gN (bB.H V);have a2:=gN ((V.heap ik).H a6);obtain⟨a7,a8,ag⟩:=iI ((jD HV).bl P) ((HU.sl).bl P) (a0 w1 P);clear V A a0 a1;go_wp2_with fail;refine(MM _ _ ys w1 a8 (by exact a7)).L ?_;rintro en W⟨rfl,rfl⟩;have lN:w.heap.size<W.heap.size:=C;obtain⟨n0,n1,n2,n3,f0,f1,f2,f3⟩:=ot a2;go_wp2;have F:=gI.Ky (w:=W) (S:=λb=>b=w.heap.size) rfl (I 1) (I b) (I 0) OO;exact aG (v:=nE 1 b 0 OO) (by simp[results,results182,go_sem,nE,n0,n1,n2,n3]) rfl ⟨rfl,(H.bl P).qF F a2 bT C,P.A F λn e=>C⟩
end
def no:Ct:=⟨0,0,0,[]⟩
def St.first:St:=⟨0,0,λ_=>no⟩
def Y5:Ep:=⟨0,0,[]⟩
def nX(ys:List Int):Prop:=∀d∈ys,0<=d/\d<=255
def Yo(a b c d x:Int):Nat:=(rC a b c d x).2.1.toNat
def FG(cP:Nat->Nat)(N i:Nat)(v:Value):Nat->Nat:=λb=>if b<N then cP b else if v.ownBlock=some b then 1 else i
def qU(cP)(N i)(v)(b)(h:b<N):FG cP N i v b=cP b:=by simp[FG,h]
def Gp(cP)(N i)(v)(b)(h:N<=b)(j:v.ownBlock=some b):FG cP N i v b=1:=by unfold FG;rw[az C,aE j]
def Gs(cP)(N i)(v)(b)(h:N<=b)(j:v.ownBlock≠some b):FG cP N i v b=i:=by unfold FG;rw[az C,az j]
def ir(cP:Nat->Nat)(N i:Nat):Nat->Nat:=λb=>if b<N then cP b else i
def gV(cP)(N i b)(h:b<N):ir cP N i b=cP b:=by simp[ir,h]
def jc(cP)(N i b)(h:N<=b):ir cP N i b=i:=by unfold ir;rw[az C]
def jk{w:World}(h:w.ownsRow B e k v n xs):∃a c,v=gK a n c:=by obtain⟨e,e'⟩|⟨g,cap,j,e,_⟩:=h.2;all_goals simp_all
abbrev Yt:Value:= OO
def ub{p:Nat->Prop}:∀g,Yt.ownBlock=some g->p g:=λg e=>pV e
def Ks.Za{base:Nat}{w:World}{H mk:Int}{j:List Int}(h:Ks base w p a b c d ch H mk ct j K)(A:gI S w w')(M:¬S p)(L:∀g,g<w.heap.size->KF K g->¬S g):Ks base w' p a b c d ch H mk ct j K:=
 ⟨h.kY.only A M,h.k0,h.k1,h.k2,h.k3,h.k4,h.k5,h.k6,A.jH h.ij λg e=>L g (h.ij.lt g e).2 (.inl e),h.kd,h.cl,h.ca,λi F=>A.jH (h.val i F) λg e=>L g ((h.val i F).lt g e).2 (.inr ⟨i,F,e⟩),h.ny⟩
def Vs.ny{base:Nat}{w:World}{E:Int->Ep}{j:List Int}{M:Int->Value}(h:Vs base w p bm n E j M vi t)(A:gI S w w')(Q:¬S p)(V:¬S bm)(F:∀g,g<w.heap.size->EL M vi g->¬S g):Vs base w' p bm n E j M vi t:=by refine⟨(A.block p h.lt Q).H h.kY,h.ty,h.mp.only A V,λe=>?_,A.jH h.ij λb e=>F b (h.ij.lt b e).2 (.inl e)⟩;obtain⟨Y,L,P,Z⟩:=h.ep e;exact⟨Y,L,A.jH P λb e'=>F b (P.lt b e').2 (.inr ⟨e,jf L e'⟩),Z⟩
structure VS where
 E:Int->Ep
 lt:Int
def VS.first:VS:=⟨λ_=>Y5,0⟩
inductive kC
 |unit (ch:Int) (s:St)
 |voter (s:VS)
def VI(s:VS):Prop:=(∀e,((s.E e).val.length<=255/\nX (s.E e).val)/\(s.E e).ba<=(s.E e).pr)/\0<=s.lt/\(∀e,(s.E e).pr≠0->e<=s.lt)/\(s.lt=0\/(s.E s.lt).pr≠0)
def VI.up{s:VS}(h:VI s){e:Int}{x:Ep}(P:1<=e)(A:x.pr≠0)(F:(x.val.length<=255/\nX x.val)/\x.ba<=x.pr):VI ⟨oh s.E e x,max s.lt e⟩:=by
 obtain⟨H,Q,L,h4⟩:=h;refine⟨λi=>?_,by show 0<=max s.lt e;omega,λi j=>?_,.inr ?_⟩
 .show((oh s.E e x i).val.length<=255/\nX (oh s.E e x i).val)/\(oh s.E e x i).ba<=(oh s.E e x i).pr;unfold oh;split
  .exact F
  exact H i
 .change(oh s.E e x i).pr≠0 at j;show i<=max s.lt e;unfold oh at j;split at j
  .omega
  have:=L i j;omega
 show(oh s.E e x (max s.lt e)).pr≠0;unfold oh;split
 .exact A
 rename_i V;have M:max s.lt e=s.lt:=C;rw[M];obtain h4|h4:=h4
 .omega
 exact h4
def ml(w:World)(cP:Nat->Nat)(tg p:Nat)(a b c d:Int)(L:Nat):kC->Prop
 | .unit ch s=>∃K img,img.length=L/\Ks 0 w p a b c d ch s.ep s.mark s.ct img K/\(∀i,i<16->(s.ct i).val.length<=255)/\cP p=tg/\∀g,KF K g->cP g=tg
 | .voter s=>∃n bm M vi img,n<=L/\img.length=L/\Vs 0 w p bm n s.E img M vi 253/\VI s/\cP p=tg/\cP bm=tg/\∀g,EL M vi g->cP g=tg
def Tl(w w':World)(cP:Nat->Nat)(tg p:Nat)(a b c d:Int)(L:Nat)(P:kC)(v:Value):Prop:=
 ∃L' fz,(∀g,v.ownBlock=some g->fz g=1)/\(∀g,g<w.heap.size->fz g=cP g)/\L<=L'/\L'<=L+300/\ml w' fz tg p a b c d L' P/\gI (λg=>cP g=tg) w w'
def nQ(f:Nat)(xs:Array Value)(w:World)(cP:Nat->Nat)(tg p:Nat)(a b c d:Int)(L:Nat)(m:Value->Value)(ys:List Int)(P:kC):Prop:=
 Calls prog f xs w λen w'=>∃va vc,en=gU (m (.slice va ys.length vc))/\w'.ownsRow w.heap.size 5 1 (.slice va ys.length vc) ys.length (ys.map B8)/\Tl w w' cP tg p a b c d L P (.slice va ys.length vc)
section
variable{w:World}{fz:Nat->Nat}{L:Nat}{P:kC}
theorem ml.only(h:ml w cP tg p a b c d L P)(ho:gI T w w')(F:∀b,b<w.heap.size->T b->cP b≠tg)(H:∀b,b<w.heap.size->cP b=tg->fz b=tg):ml w' fz tg p a b c d L P:=by
 cases P with
 |unit ch s=>obtain⟨K,j,e,Y,Z,Q,V⟩:=h;exact⟨K,j,e,Y.Za ho (λe=>F p Y.kY.lt e Q) λg hl hF e=>F g hl e (V g hF),Z,H p Y.kY.lt Q,λg hF=>H g (Y.PM hF).2 (V g hF)⟩
 |voter s=>obtain⟨n,bm,M,vi,j,hn,e,A,Z,Q,hb,V⟩:=h;exact⟨n,bm,M,vi,j,hn,e,A.ny ho (λe=>F p A.lt e Q) (λe=>F bm A.mp.lt e hb) λg hl hF e=>F g hl e (V g hF),Z,H p A.lt Q,H bm A.mp.lt hb,λg hF=>H g (A.DN hF).2 (V g hF)⟩
def ml.bl(h:ml w cP tg p a b c d L P)(j:Bl w w')(A:∀b,b<w.heap.size->fz b=cP b):ml w' fz tg p a b c d L P:=h.only (jY j) (λ_ _ e=>e.elim) λb h e=>(A b h).H e
def Tl.o(h:Tl w w' cP tg p a b c d L P v):gI (λg=>cP g=tg) w w':=by obtain⟨_,_,_,_,_,_,_,j⟩:=h;exact j
def Tl.D(h:ml w cP tg p a b c d L P)(j:Bl w w'):Tl w w' cP tg p a b c d L P Yt:=
 ⟨L,cP,ub,λ_ _=>rfl,C,C,h.bl j λ_ _=>rfl,gI.D j⟩
def Kt.step{A:Nat->Value}{j rec:List Int}{s s':St}(H:Ks 0 w p a b c d ch s.ep s.mark s.ct j K)(M:cP p=tg)(Q:∀g,KF K g->cP g=tg)(F:Ks 0 w' p a b c d ch s'.ep s'.mark s'.ct (j++rec) A)(V:Gk p K A w w')(hr:rec.length<=300)(Y:∀i,i<16->(s'.ct i).val.length<=255)(Z:w'.ownsRow w.heap.size 5 1 v n xs)(hd:∀g,v.ownBlock=some g->¬KF A g):Tl w w' cP tg p a b c d j.length (.unit ch s') v:=by
 refine⟨(j++rec).length,FG cP w.heap.size tg v,λg e=>Gp _ _ _ _ _ (Z.lt g e).1 e,λg h=>qU _ _ _ _ _ h,bz,ik,⟨A,_,rfl,F,Y,by rw[qU _ _ _ _ _ H.kY.lt,M],λg hF=>?_⟩,V.only.L λb _ e=>?_⟩
 .obtain h1|h1:=V.d g hF
  .rw[qU _ _ _ _ _ (H.PM h1).2,Q g h1]
  exact Gs _ _ _ _ _ h1 λe=>hd g e hF
 obtain rfl|e:=e
 .exact M
 exact Q b (.inl e)
def Vt.step{M:Int->Value}{A:Value}{j rec:List Int}{s s':VS}(F:Vs 0 w p bm n s.E j M vi 253)(hn:n<=j.length)(Q:cP p=tg)(V:cP bm=tg)(Y:∀g,EL M vi g->cP g=tg)(H:Vs 0 w' p bm (n+1) s'.E (j++rec) M' A 253)(Z:vQ p bm M vi M' A w w')(h1:1<=rec.length)(hr:rec.length<=300)(hs:VI s')(ho:w'.ownsRow w.heap.size 5 1 v k xs)(hd:∀g,v.ownBlock=some g->¬EL M' A g):Tl w w' cP tg p a b c d j.length (.voter s') v:=by
 refine⟨(j++rec).length,FG cP w.heap.size tg v,λg e=>Gp _ _ _ _ _ (ho.lt g e).1 e,λg h=>qU _ _ _ _ _ h,bz,ik,⟨_,bm,M',A,_,ik,rfl,H,hs,by rw[qU _ _ _ _ _ F.lt,Q],by rw[qU _ _ _ _ _ F.mp.lt,V],λg hF=>?_⟩,Z.only.L λb _ e=>?_⟩
 .obtain h1|h1:=Z.d g hF
  .rw[qU _ _ _ _ _ (F.DN h1).2,Y g h1]
  exact Gs _ _ _ _ _ h1 λe=>hd g e hF
 obtain rfl|rfl|e:=e
 .exact Q
 .exact V
 exact Y b (.inl e)
end
structure An where
 wh:Int
 ep:Int
 mark:Int
 ct:Ct
def An.val(A:An)(v:Value):Value:=lC A.wh A.ep A.mark A.ct.kd A.ct.cl A.ct.ca v
def an(wh ep mk:Int):An:=⟨wh,ep,mk,⟨0,0,0,[]⟩⟩
def rb(s:St)(e:Int):An×St:=if e<s.ep then(an 5 s.ep 0,s)else(an 1 e 0,⟨e,s.mark,s.ct⟩)
def tB(a b c d ch:Int)(s:St)(x:Int):An:=⟨(mw a b c d ch s.mark s.ct x).1,0,(mw a b c d ch s.mark s.ct x).2.1,(mw a b c d ch s.mark s.ct x).2.2⟩
def qn(a b c d ch:Int)(s:St)(e x:Int):An×St:=if e<s.ep then(an 5 s.ep 0,s)else(tB a b c d ch s x,⟨e,s.mark,s.ct⟩)
def oP(a b c d ch:Int)(s:St)(e x kd cl ca:Int)(ys:List Int):An×St:=
 if e<s.ep then(an 5 s.ep 0,s)else if tE kd ys.length=false then(an 6 0 0,⟨e,s.mark,s.ct⟩)
 else if(mw a b c d ch s.mark s.ct x).1=3 then(an 1 0 0,⟨e,s.mark,λj=>if j=Yo a b c d x then⟨kd,cl,ca,ys⟩else s.ct j⟩)else(tB a b c d ch s x,⟨e,s.mark,s.ct⟩)
section
variable{w:World}{L:Nat}{s:St}
def Uc(h:ml w cP tg p a b c d L (.unit ch s))(e:Int)(hl:L<=1000000000000):nQ 178 #[O p,I e] w cP tg p a b c d L (rb s e).1.val (rb s e).1.ct.val (.unit ch (rb s e).2):=by
 obtain⟨K,F,rfl,H,M,Q,V⟩:=h;refine(Qb 0 p a b c d ch _ _ _ F K e w H jR hl).L ?_;rintro en w'⟨K',rfl,j,Y⟩;unfold rb;by_cases A:e<s.ep
 .rw[aE A,aE (.inl A)]at j;rw[aE A,aE A];exact⟨none,0,rfl,m7,Kt.step (rec:=[]) H Q V (by rw[cF];exact j) Y bz M m7 ub⟩
 rw[az A]at j;rw[az A,az A];refine⟨none,0,rfl,m7,Kt.step (s':=⟨e,s.mark,s.ct⟩) (rec:=if e=s.ep then []else j5 1 [e] []) H Q V ?_ Y (by split<;>simp[m9]) M m7 ub⟩;by_cases Z:e=s.ep
 .rw[aE (.inr Z)]at j;rw[aE Z,cF];exact j
 simp_all
def Tz(h:ml w cP tg p a b c d L (.unit ch s))(e x:Int)(Q:L<=1000000000000):nQ 171 #[O p,I e,I x] w cP tg p a b c d L (qn a b c d ch s e x).1.val (qn a b c d ch s e x).1.ct.val (.unit ch (qn a b c d ch s e x).2):=by
 have V:=h;obtain⟨K,Y,rfl,A,M,Z,hg⟩:=h;unfold qn;by_cases j:e<s.ep
 .rw[aE j];refine(Iv 0 p a b c d ch _ _ _ _ K e x w A j).L ?_;rintro en w'⟨rfl,_,hb⟩;exact⟨none,0,rfl,m7,.D V hb⟩
 rw[az j];refine(FH 0 p a b c d ch _ _ _ _ K e x w A jR Q M j _ _ _ rfl).L ?_;rintro en w'⟨K',v,rfl,F,H,hG,_,hd⟩;obtain⟨va,vc,rfl⟩:=jk F;exact⟨va,vc,rfl,F,Kt.step (s':=⟨e,s.mark,s.ct⟩) A Z hg H hG (by split<;>simp[m9]) M F hd⟩
def Pj(h:ml w cP tg p a b c d L (.unit ch s))(e x kd F H:Int)(Q:Option Addr)(V:Nat)(ys:List Int)(hl:L<=1000000000000)(hv:Bs w (gK Q ys.length V) (ys.map B8))(Y:∀g,(gK Q ys.length V).ownBlock=some g->g<w.heap.size/\cP g≠tg)(hc:tE kd ys.length=true):nQ 175 #[O p,I e,I x,.agg #[I kd,I F,I H,gK Q ys.length V]] w cP tg p a b c d L (oP a b c d ch s e x kd F H ys).1.val (oP a b c d ch s e x kd F H ys).1.ct.val (.unit ch (oP a b c d ch s e x kd F H ys).2):=by
 have hh:=h;have h8:=Tu hc;obtain⟨K,a1,rfl,hk,hs,hp,hg⟩:=h;unfold oP;by_cases he:e<s.ep
 .rw[aE he];refine(EB 0 p a b c d ch _ _ _ a1 K e x kd F H Q ys.length V w hk he).L ?_;rintro en w'⟨rfl,_,hb⟩;exact⟨none,0,rfl,m7,.D hh hb⟩
 rw[az he,az (qH hc)];by_cases A:(mw a b c d ch s.mark s.ct x).1=3
 .rw[aE A];have Z:mw a b c d ch s.mark s.ct x=(3,0,⟨0,0,0,[]⟩)/\(rC a b c d x).2.2=0/\(rC a b c d x).1=ch:=by
   unfold mw at A|-;split at A
   .simp at A
   split at A
   .simp at A
   split at A
   .simp_all
   simp at A
  obtain⟨i,hi,M⟩:=Aw Z.2.1;have a2:Yo a b c d x=i:=by unfold Yo;rw[M];rfl
  refine(Bc 0 p a b c d ch _ _ _ a1 K e x kd F H _ ys i w hk jR hl hs hv C (λg e=>⟨(Y g e).1,λe'=>(Y g e).2 (hg g (.inl e')),λe'=>(Y g e).2 (jf e' hp)⟩) he hi (kz M Z.2.2) Z.1 hc).L ?_;rintro en w'⟨K',rfl,a0,hG⟩;rw[a2];exact⟨none,0,rfl,m7,Kt.step (s':=⟨e,s.mark,λj=>if j=i then⟨kd,F,H,ys⟩else s.ct j⟩) hk hp hg a0 hG (by simp[m9];omega) (λj hj=>by show(if j=i then(⟨kd,F,H,ys⟩:Ct)else s.ct j).val.length<=255;split;exact aF h8 bT;exact hs j hj) m7 ub⟩
 rw[az A];refine(BO 0 p a b c d ch _ _ _ _ K e x kd F H Q ys.length V w hk jR hl hs C he _ _ _ rfl A hc).L ?_;rintro en w'⟨K',v,rfl,hv,a0,hG,_,hd⟩;obtain⟨Q,V,rfl⟩:=jk hv;exact⟨Q,V,rfl,hv,Kt.step (s':=⟨e,s.mark,s.ct⟩) hk hp hg a0 hG (by split<;>simp[m9]) hs hv hd⟩
end
abbrev ML(p0:Ct)(p1)(p2):=ig #[I p0.kd,I p0.cl,I p0.ca,gK p1 p0.val.length p2] 91
structure Vo where
 wh:Int
 pr:Int
 ba:Int
 val:List Int
def pM(E:Int->Ep)(kd e b:Int)(ys:List Int):Vo×(Int->Ep):=
 if kd=5 then(if e<1\/b<1\/b<=(E e).pr then(⟨6,(E e).pr,0,[]⟩,E)else(⟨1,b,(E e).ba,(E e).val⟩,oh E e ⟨b,(E e).ba,(E e).val⟩))
 else if kd=6 then(if e<1\/b<1\/b<(E e).pr\/¬(1<=ys.length/\ys.length<=255)then(⟨6,(E e).pr,0,[]⟩,E)else(⟨1,b,0,[]⟩,oh E e ⟨b,b,ys⟩))
 else(⟨1,(E e).pr,(E e).ba,(E e).val⟩,E)
def vA(s:VS)(kd e b:Int)(ys:List Int):Vo×VS:=((pM s.E kd e b ys).1,⟨(pM s.E kd e b ys).2,if(pM s.E kd e b ys).1.wh=1/\kd≠7 then max s.lt e else s.lt⟩)
def Vo.r(A:Vo)(v:Value):Value:=nE A.wh A.pr A.ba v
section
variable{w:World}{L:Nat}{s:VS}
def Tf(h:ml w cP tg p a b c d L (.voter s))(e x:Int)(ys:List Int)(F:(Lit.int .i64 e).wf=true)(hl:L<=1000000000000):nQ 180 #[O p,I e,I x] w cP tg p a b c d L (vA s 5 e x ys).1.r (vA s 5 e x ys).1.val (.voter (vA s 5 e x ys).2):=by
 have hh:=h;obtain⟨n,bm,M,vi,H,hn,rfl,P,Y,hp,hb,hg⟩:=h;have Z:=Y.1 e;unfold vA pM;rw[aE rfl];by_cases j:e<1\/x<1\/x<=(s.E e).pr
 .rw[aE j];refine(BT 0 p bm n s.E H M vi 253 e x w P F j).L ?_;rintro en w'⟨rfl,_,Q⟩;exact⟨none,0,rfl,m7,.D hh Q⟩
 rw[az j];refine(zA 0 p bm n s.E H M vi 253 e x w P jR hl C F Z.1.1 C C C).L ?_;rintro en w'⟨M',a0,v',rfl,A,V,hG,hd⟩;obtain⟨va,vc,rfl⟩:=jk A;exact⟨va,vc,rfl,A,Vt.step P hn hp hb hg V hG (by simp[m9]) (by simp[m9]) (Y.up C (by show x≠0;omega) ⟨Z.1,by show(s.E e).ba<=x;omega⟩) A hd⟩
def VX(h:ml w cP tg p a b c d L (.voter s))(e x:Int)(va:Option Addr)(vc:Nat)(ys:List Int)(H:(Lit.int .i64 e).wf=true)(hl:L<=1000000000000)(hv:Bs w (gK va ys.length vc) (ys.map B8))(P:∀g,(gK va ys.length vc).ownBlock=some g->g<w.heap.size/\cP g≠tg)(Q:ys.length<=255)(V:nX ys):nQ 182 #[O p,I e,I x,gK va ys.length vc] w cP tg p a b c d L (vA s 6 e x ys).1.r (vA s 6 e x ys).1.val (.voter (vA s 6 e x ys).2):=by
 have hh:=h;obtain⟨n,bm,M,vi,Y,hn,rfl,A,hw,hp,hb,hg⟩:=h;have hV:=hw.1 e;have F:∀g,(mP va ys vc).ownBlock=some g->g<w.heap.size/\vi.ownBlock≠some g/\g≠bm:=λg e=>⟨(P g e).1,λe'=>(P g e).2 (hg g (.inl e')),λe'=>(P g e).2 (jf e' hb)⟩;unfold vA pM;rw[az bT,aE rfl];by_cases Z:e<1\/x<1\/x<(s.E e).pr\/¬(1<=ys.length/\ys.length<=255)
 .rw[aE Z];refine(Dw 0 p bm n s.E Y M vi 253 e x va ys.length vc w A H C Z).L ?_;rintro en w'⟨rfl,_,a0⟩;exact⟨none,0,rfl,m7,.D hh a0⟩
 rw[az Z];by_cases hs:x=(s.E e).ba/\ys=(s.E e).val
 .refine(AG 0 p bm n s.E Y M vi 253 e x _ ys w A jR hl C H hv C Q F V hV.1.2 C C C hs.1 hs.2).L ?_;rintro en w'⟨rfl,_,a0⟩;have h2:=hw.2.2.1 e C;have e1:oh s.E e ⟨x,x,ys⟩=s.E:=by
   funext j;unfold oh;split
   .rename_i ej;rw[ej,hs.2];have:(s.E e).pr=x:=C
    cases hx:s.E e;simp_all
   rfl
  refine⟨none,0,rfl,m7,.D ?_ a0⟩;show ml w cP tg p a b c d _ (.voter ⟨oh s.E e ⟨x,x,ys⟩,max s.lt e⟩);rw[e1,show max s.lt e=s.lt by omega];exact hh
 refine(BC 0 p bm n s.E Y M vi 253 e x _ ys w A jR hl C H hv C Q F V hV.1.2 C C C (Decidable.or_iff_not_imp_left.2 λh1 h2=>hs ⟨Decidable.not_not.1 h1,h2⟩)).L ?_;rintro en w'⟨M',a2,rfl,a1,hG⟩;exact⟨none,0,rfl,m7,Vt.step A hn hp hb hg a1 hG (by simp[m9];omega) (by simp[m9];omega) (hw.up C (by show x≠0;omega) ⟨⟨Q,V⟩,iG⟩) m7 ub⟩
end
def pK(w)(r)(o):gI (λk=>k=r) w (setBlock w r o):=
 ⟨rfl,rfl,rfl,by simp[setBlock],λk _ h=>by simp[setBlock,Ne.symm h]⟩
structure It(w:World)(r gm:Nat)(es:Array MapEntry)(iC:Nat)(done:List MapEntry):Prop where
 it:w.heap[r]?=some (.mapIter (some gm) iC ((done.map (·.born)).reverse.toArray) iC)
 mp:w.heap[gm]?=some (.map es iC)
 ne:r≠gm
 bo:∀x∈es.toList,x.born<iC
 nd:(es.toList.map (·.born)).Nodup
 sub:∀x∈done,x∈es.toList
 dn:(done.map (·.born)).Nodup
section
variable{w:World}{r gm iC:Nat}{es:Array MapEntry}{done:List MapEntry}
def It.lr(h:It w r gm es iC done):r<w.heap.size:=(ae.1 h.it).1
def It.lm(h:It w r gm es iC done):gm<w.heap.size:=(ae.1 h.mp).1
def It.only(h:It w r gm es iC done)(j:gI S w w')(A:¬S r)(F:¬S gm):It w' r gm es iC done:=
 ⟨(j.block r h.lr A).H h.it,(j.block gm h.lm F).H h.mp,h.ne,h.bo,h.nd,h.sub,h.dn⟩
def It.bl(h:It w r gm es iC done)(j:Bl w w'):It w' r gm es iC done:=h.only (jY j) (λe=>e) λe=>e
theorem Cv:∀{l:List MapEntry},(l.map (·.born)).Nodup->x∈l->y∈l->x.born=y.born->x=y
 |[],_,A,_,_=>mR A
 |z::l,j,A,F,h=>by
  rw[bj,bY]at j;obtain rfl|hx':=bh.1 A<;>obtain rfl|hy':=bh.1 F
  .rfl
  .exact absurd (aD.2 ⟨y,hy',h.symm⟩) j.1
  .exact absurd (aD.2 ⟨x,hx',h⟩) j.1
  exact Cv j.2 hx' hy' h
def Rg(j:(es.toList.map (·.born)).Nodup)(A:x∈es.toList)(F:y∈es.toList)(h:x.born=y.born):x=y:=Cv j A F h
theorem vR{α:Type}:∀{l1 l2:List α},l1.Nodup->(∀x∈l1,x∈l2)->l1.length<=l2.length
 |[],_,_,_=>jR
 |x::l1,l2,j,A=>by
  obtain⟨a,b,rfl⟩:=fe (A x aN);rw[bY]at j;have:=vR (l2:=a++b) j.2 λy F=>by
   have:=A y (aX _ F);simp at this|-;obtain h|rfl|h:=this
   .simp_all
   .simp_all
   simp_all
  simp at this|-;omega
theorem qd:∀{l:List MapEntry},(l.map (·.born)).Nodup->l.Nodup
 |[],_=>fH
 |x::l,h=>by rw[bj,bY]at h;exact bY.2 ⟨λj=>h.1 (aD.2 ⟨x,j,rfl⟩),qd h.2⟩
def It.len(h:It w r gm es iC done):done.length<=es.size:=by have:=vR (qd h.dn) h.sub;omega
def It.start(h:w.heap[gm]?=some (.map es iC))(j:∀x∈es.toList,x.born<iC)(A:(es.toList.map (·.born)).Nodup):It (w.alloc (.mapIter (some gm) iC #[] iC)) w.heap.size gm es iC []:=by have F:=(ae.1 h).1;exact⟨ao w _,(cL w _ F).H h,C,j,A,λx L=>mR L,bz⟩
end
section
variable{P:Program}(w:World){ops:Array Oper}{rest:List Oper}{o:Oper}{a:Act}{Q:Exit->Act->World->Prop}
def kR(F:o.guard=none)(m)(t)(h:o.op=Op.range t m)(k e)(H:P.underlying t=some (.map k e))(b)(es)(clock)(L:a.eval m=.map (some b))(A:w.heap[b]?=some (.map es clock))(M:∀x∈es.toList,x.born<clock)(V:(es.toList.map (·.born)).Nodup)(Y:It (w.alloc (.mapIter (some b) clock #[] clock)) w.heap.size b es clock []->wpList P ops Q rest (a.put o.dst (O w.heap.size)) (w.alloc (.mapIter (some b) clock #[] clock))):wpList P ops Q (o::rest) a w:=by
 refine wpList_plain F λZ j=>?_;unfold Oper.wp;simp[execOp,h,L,run_range_map w t k e b es clock H A];exact j _ _ (Y (It.start A M V))
def lJ(hg:o.guard=none)(it)(Z:o.op=Op.next it false)(r gm iC)(es)(done)(a0:a.eval it= O r)(h:It w r gm es iC done)(F:done.Perm es.toList->wpList P ops Q rest (a.put o.dst (.tuple #[.bool false])) w)(L:∀(e:MapEntry) (W:World),e∈es.toList->It W r gm es iC (e::done)->gI (λb=>b=r) w W->(Instr.entry (O r)).run P W=.ok (.tuple #[e.key,e.val]) W->
 wpList P ops Q rest (a.put o.dst (.tuple #[.bool true,e.key,e.val])) W):wpList P ops Q (o::rest) a w:=by
 refine wpList_plain hg λK' a1=>?_;unfold Oper.wp;obtain⟨sn,A⟩:=gG ((done.map (·.born)).reverse.toArray);have hi:=h.it;rw[A]at hi;obtain⟨h0,j⟩|⟨e,he,w1,hw,j⟩:=run_next_at (P:=P) w o.type r gm iC iC sn es iC hi h.mp h.bo jr
 .simp[execOp,Z,a0,j,Result.andThen];refine a1 _ _ (F ?_);rw[fG (qd h.dn) (qd h.nd)];refine λx=>⟨h.sub x,λhx=>?_⟩;have h1:es.filter (λx=> !sn.contains x.born)=#[]:=gf.1 h0;have h2:=fP.1 h1 x (je hx);rw[<-A]at h2;simp at h2;obtain⟨y,hy,M⟩:=h2;rw[<-Rg h.nd (h.sub y hy) hx M];exact hy
 simp[execOp,Z,a0,j,Result.andThen];obtain⟨V,Y⟩:=mem_left he;have jt:r<w.heap.size:=h.lr;have hh:w1.heap=w.heap:=by obtain rfl|rfl:=hw<;>rfl
 have e1:sn.push e.born=((e::done).map (·.born)).reverse.toArray:=by rw[<-A];simp
 have hI:(setBlock w1 r (.mapIter (some gm) iC (sn.push e.born) iC)).heap[r]?=some (.mapIter (some gm) iC (sn.push e.born) iC):=by simp[setBlock,hh,jt]
 have hM:(setBlock w1 r (.mapIter (some gm) iC (sn.push e.born) iC)).heap[gm]?=some (.map es iC):=by simp[setBlock,hh,h.ne,h.mp]
 refine a1 _ _ (L e _ V ⟨kz hI e1,hM,h.ne,h.bo,h.nd,λx hx=>?_,?_⟩ ?_ ?_)
 .obtain rfl|hx:=bh.1 hx
  .exact V
  exact h.sub x hx
 .rw[bj,bY];refine⟨λhx=>?_,h.dn⟩;rw[<-A]at Y;simp at Y;obtain⟨y,hy,M⟩:=aD.1 hx;exact Y y hy M
 .obtain rfl|rfl:=hw
  .exact pK _ _ _
  exact(gI.D (jZ.drew)).H (pK _ _ _)
 exact run_entry_at _ r gm iC _ es iC e hI hM V h.nd
end
def Mp.raw{w:World}{b:Nat}{M:Int->Value}(h:Mp w b n M):∃A j,w.heap[b]?=some (.map A j)/\(∀x∈A.toList,x.born<j)/\(A.toList.map (·.born)).Nodup/\(∀x∈A.toList,∃k,x.key=.int .i64 k/\IN (M k)≠0)/\∀k,IN (M k)≠0->∃x∈A.toList,x.key=.int .i64 k:=by
 obtain⟨D,⟨A,j,hb,F,V,rfl⟩,h2,h3,h4⟩:=h;have H:∀x∈A.toList,∃k,x.key=.int .i64 k/\(WideElems.rg prog 3 Rv x).1=.int .i64 k:=λx L=>by obtain⟨y,Y⟩:=F.reads x L;obtain⟨k,P,Q,_⟩:=keyOf_int_inv underlying3 (WideElems.rd_key Y);exact⟨k,P,by rw[WideElems.rg_of Y,Q]⟩
 refine⟨A,j,hb,F.stamped.1,F.stamped.2.1,λx L=>?_,λk P=>?_⟩
 .obtain⟨k,P,Q⟩:=H x L;refine⟨k,P,h4 k ?_⟩;rw[has_eq,cK];exact⟨WideElems.rg prog 3 Rv x,mem_sorted.2 (aD.2 ⟨x,L,rfl⟩),by rw[Q];simp[Lit.sameKey]⟩
 by_cases Z:has (DataW.map ((A.toList.map (WideElems.rg prog 3 Rv)).foldr DataW.insert [])) (.int .i64 k)=true
 .rw[has_eq,cK]at Z;obtain⟨y,Y,V⟩:=Z;obtain⟨x,L,rfl⟩:=aD.1 (mem_sorted.1 Y);obtain⟨k',a0,Q⟩:=H x L;refine⟨x,L,?_⟩;rw[Q]at V;simp[Lit.sameKey]at V;rw[a0,V]
 exfalso;have:=atKey_of_not_has (je Z) (DataW.held V6);rw[h3]at this;simp at this;rw[this]at P;exact P rfl
def Iw(l:List MapEntry):Int:=l.foldr (λx m=>max m (Go.RowKit.intOf x.key)) 0
theorem E6:∀(l:List MapEntry),0<=Iw l/\(∀x∈l,Go.RowKit.intOf x.key<=Iw l)/\(Iw l=0\/∃x∈l,Iw l=Go.RowKit.intOf x.key)
 |[]=>⟨iG,λx hx=>mR hx,.inl rfl⟩
 |y::l=>by
  obtain⟨A,j,h⟩:=E6 l;have e:Iw (y::l)=max (Iw l) _:=rfl;rw[e];refine⟨C,λx hx=>?_,?_⟩
  .obtain rfl|hx:=bh.1 hx
   .omega
   have:=j x hx;omega
  by_cases F:Iw l<Go.RowKit.intOf y.key
  .exact .inr ⟨y,aN,C⟩
  obtain h|⟨x,hx,h⟩:=h
  .omega
  exact .inr ⟨x,aX _ hx,C⟩
section
variable{w:World}{L:Nat}{s:VS}
theorem J3(h:ml w cP tg p a b c d L (.voter s)):iU 339 #[O p] w λen w'=>en=gU (I s.lt)/\Bl w w':=by
 obtain⟨n,bm,M,vi,a7,_,_,P,hw,_⟩:=h;obtain⟨H,iC,hm,bo,nd,k1,k2⟩:=P.mp.raw;have jt:=hw.2;have hM:∀e,IN (M e)=(s.E e).pr:=λe=>by obtain⟨vv,h1,_⟩:=P.ep e;rw[h1];rfl
 have Q:Hid (∀l:List MapEntry,l.Perm H.toList->Iw l=s.lt):=λl hl=>by
  obtain⟨a1,a2,a3⟩:=E6 l;obtain⟨b1,b2,b3⟩:=jt;have c1:Iw l<=s.lt:=by
   obtain a3|⟨x,V,a3⟩:=a3
   .omega
   obtain⟨k,A,a0⟩:=k1 x (hl.mem_iff.1 V);rw[a3,A];exact b2 k (j9 hM a0)
  have c2:s.lt<=Iw l:=by
   obtain b3|b3:=b3
   .omega
   obtain⟨x,V,A⟩:=k2 s.lt (jf hM b3);have:=a2 x (hl.mem_iff.2 V);rwa[A]at this
  omega
 have Y:Hid (∀x∈H.toList,∃k,x.key=I k):=λx V=>by obtain⟨k,A,_⟩:=k1 x V;exact⟨k,A⟩
 have c0:=P.c0;have lp:=P.lt;obtain⟨HM,a4,a5⟩:=iI hm bo nd;clear P hw hm bo nd k1 k2 jt hM;go_enter func339,ntmps339;go_wp2_with(at_range;refine kR _ rfl _ 251 rfl 3 311 underlying251 bm H iC rfl HM a4 a5 ?_;intro hI;have HI:=gN hI;clear hI);go_frame;go_loopw[3](λv wr=>∃j:List MapEntry,v=I (Iw j)/\Hid (Bl w wr)/\Hid (It wr w.heap.size bm H iC j)) λ_ wr=>H.size-(wr.iterSeen w.heap.size).size
 case atStart=>exact⟨[],rfl,jZ.alloc _,HI⟩
 obtain⟨j,rfl,HB,HJ⟩:=hrel;go_wp2_with(at_next;refine lJ _ rfl _ rfl w.heap.size bm iC H j rfl HJ ?_ ?_)
 .intro h0;have hL:=Q j h0;rw[hL];go_wp2;go_ret;exact⟨rfl,HB⟩
 intro e W he Z hO a6;obtain⟨k,A⟩:=Y e (je he);rw[A]at a6|-;obtain⟨F,HO,He⟩:=iI Z hO A;clear Z hO A he;go_wp2;go_roundw
 case rel=>exact⟨e::j,by rw[show Iw (e::j)=max (Iw j) (Go.RowKit.intOf e.key)from rfl,He.o];exact Z5 I (by show(if Iw j<k then k else Iw j)=max (Iw j) k;split<;>omega),HB.A HO λb hb=>C,F⟩
 have e1:W.iterSeen w.heap.size=((e::j).map (·.born)).reverse.toArray:=by unfold World.iterSeen;rw[F.it]
 have e2:wr.iterSeen w.heap.size=(j.map (·.born)).reverse.toArray:=by unfold World.iterSeen;rw[HJ.it]
 have:=F.len;rw[e1,e2];simp at this|-;omega
theorem M9(h:ml w cP tg p a b c d L (.voter s))(e x:Int)(ys:List Int)(a4:(Lit.int .i64 e).wf=true):nQ 345 #[O p,I e] w cP tg p a b c d L (vA s 7 e x ys).1.r (vA s 7 e x ys).1.val (.voter (vA s 7 e x ys).2):=by
 have HH:=gN h;obtain⟨n,bm,M,vi,a6,_,_,hv,hw,hp,hb,V⟩:=h;have hV:=(hw.1 e).1;obtain⟨vv,hM,a0,_⟩:=hv.ep e;obtain⟨P,Q,rfl⟩:=jk a0;have c0:=hv.c0;have lp:=hv.lt;have bA:=(Bl.refl w).alloc (ig lF 222);have j:=(hv.mp.bl bA).qI e a4;rw[hM]at j;unfold lF at j;have HA:vA s 7 e x ys=(⟨1,(s.E e).pr,(s.E e).ba,(s.E e).val⟩,s):=by unfold vA pM;simp
 rw[HA];generalize s.E e=E at*;obtain⟨W,hW⟩:=gG ((w.alloc (ig lF 222)).alloc (ig #[I E.pr,I E.ba,gK P E.val.length Q] 311));have bW:Bl w W:=by rw[<-hW];exact bA.alloc _
 have hN:W.heap[w.heap.size]?=some (ig lF 222 (0,0)):=by rw[<-hW];exact(cL _ _ bz).H (ao w _)
 have hX:W.heap[w.heap.size+1]?=some (ig #[I E.pr,I E.ba,gK P E.val.length Q] 311 (0,0)):=by rw[<-hW];have:=ao (w.alloc (ig lF 222)) (ig #[I E.pr,I E.ba,gK P E.val.length Q] 311);rwa[show(w.alloc (ig lF 222)).heap.size=w.heap.size+1 from by simp]at this
 obtain⟨n0,n1,n2,n3,f0,f1,f2,f3⟩:=ot hN;obtain⟨x0,x1,x2⟩:=sy hX 0 1 2 rfl;have lN:=(ae.1 hN).1;have lX:=(ae.1 hX).1;have HC:Hid (∀W',Bl W W'->iU 87 #[gK P E.val.length Q] W' λen w3=>∃ua uc,en=gU (gK ua E.val.length uc)/\Bl W w3/\w3.ownsRow W.heap.size 5 1 (gK ua E.val.length uc) E.val.length (E.val.map B8)):=λW' a1=>by refine(pA (gK P E.val.length Q) E.val W' (((tr a0).bl bW).bl a1) (gM hV.1)).L ?_;rintro en w3⟨u,rfl,a5,hu⟩;obtain⟨ua,uc,rfl⟩:=jk hu;exact⟨ua,uc,rfl,a1.H a5,iE hu λg e=>aF a1.lt (hu.lt g e).1⟩
 have HW:=gN hW;unfold lF at HW;obtain⟨HB,HN⟩:=gO bW hN;unfold nQ;show iU 345 _ w λen w'=>∃P Q,en=gU (nE 1 E.pr E.ba (gK P E.val.length Q))/\w'.ownsRow w.heap.size 5 1 (gK P E.val.length Q) E.val.length (E.val.map B8)/\Tl w w' cP tg p a b c d L (.voter s) (gK P E.val.length Q)
 clear hv hw hp hb V a0 hM HA bA bW hN hX hW hV;go_enter func345,ntmps345;go_upto_region 2 with fail;rw[HW.o];clear HW j c0;go_region_held3(λW'=>W'.cell? (U (w.heap.size+1) 0)=some (I E.pr)/\W'.cell? (U (w.heap.size+1) 1)=some (I E.ba)/\W'.cell? (U (w.heap.size+1) 2)=some (gK P E.val.length Q)) (go_keep) (first|(go_at_call 87;refine(HC _ ?hb).L ?_;(case hb=>exact jU);rintro en w3⟨ua,uc,rfl,F,a3⟩;obtain⟨y0,y1,y2⟩:=F.M lX x0 x1 x2;obtain⟨z0,z1,z2,z3⟩:=F.N lN n0 n1 n2 n3;have a2:=(F.heap lN).H HN;obtain⟨g0,g1,g2,g3⟩:=yM a2 0 1 2 3;have Y:=nJ F a3 a2;clear F a3 a2));all_goals
  go_wp2;have Z:=((((gI.refl (λb=>b=w.heap.size) w3).setCell (U w.heap.size 0) (.inl rfl) (I 1)).setCell (U w.heap.size 1) (.inl rfl) (I E.pr)).setCell (U w.heap.size 2) (.inl rfl) (I E.ba)).setCell (U w.heap.size 3) (.inl rfl) (gK ua E.val.length uc);have hB:=(HB.H Y.1).A Z λn e=>C;have hO:=Z.jH Y.2.1 λb hb e=>gW Y.2.1 Y.2.2 bT (kz hb e);refine aG (v:=nE 1 E.pr E.ba (gK ua E.val.length uc)) (by simp[results,results345,go_sem,nE,z0,z1,z2,z3]) rfl ⟨ua,uc,rfl,iE hO λg V=>?_,L,ir cP w.heap.size 1,λg V=>jc _ _ _ _ ?_,λg V=>gV _ _ _ _ V,C,C,HH.bl hB λg V=>gV _ _ _ _ V,gI.D hB⟩
  .have:=(hO.lt g V).1;have:=HB.lt;omega
  have:=(hO.lt g V).1;have:=HB.lt;omega
end
def sJ(w:World)(v:Value)(ds:List Int):Prop:=∃b o c,v=.slice (some (U b o)) ds.length c/\b<w.heap.size/\ds.length<=c/\c<=9223372036854775807/\∀j d,ds[j]?=some d->w.cell? (U b (o+j))=some (B8 d)
def sJ.bl{w:World}(h:sJ w v ds)(A:Bl w w'):sJ w' v ds:=by obtain⟨b,o,c,e,F,L,M,P⟩:=h;exact⟨b,o,c,e,af F A.lt,L,M,λj d Q=>(A.cell F).H (P j d Q)⟩
def sJ.sl{w:World}(h:sJ w v ds):Sl w v (ds.map B8):=by obtain⟨b,o,c,e,A,L,M,P⟩:=h;refine .inr ⟨b,o,c,by rw[ay];exact e,A,λj F=>?_⟩;have H:j<ds.length:=je F;simp_all
def Um(r:Rc):3<=r.bytes.length:=by rw[r.len];omega
def JU{oX:List (Int×Int×Int)}{r:Rc}(h:r.Ok oX):r.bytes.length<=2298:=by have j:=h.n1;have A:=h.v1;rw[r.len];omega
theorem Pv(v)(ds)(bs os cs)(oX)(w)(Y:sJ w v ds)(h0:0<ds.length)(hl:ds.length<=1100000000000)(L:∀d∈ds,0<=d/\d<=255)(A:pq w bs os oX)(hs:oX.length<=1000)(Z:(oX.any λs=>rQ s.1 s.2.1 s.2.2 ds)=false):iU 233 #[v,gK (some (U bs os)) oX.length cs] w λe w'=>e=gU (.tuple #[OO,.bool false])/\Bl w w':=by
 have M:=Y.sl;obtain⟨b,o,c,rfl,_⟩:=Y;have H:=(Bl.refl w).alloc (ig #[gK (some (U b o)) ds.length c] 40);have hX:=ao w (ig #[gK (some (U b o)) ds.length c] 40);have x0:(w.alloc (ig #[gK (some (U b o)) ds.length c] 40)).cell? (U w.heap.size 0)=some (gK (some (U b o)) ds.length c):=ax _ w.heap.size 0 _ 40 (0,0) hX;have F:pq (w.alloc (ig #[gK (some (U b o)) ds.length c] 40)) bs os oX:=⟨af A.1 H.lt,λj h=>by rw[H.cell A.1,H.cell A.1,H.cell A.1];exact A.2 j h⟩;have Q:=gN (rN bs os cs oX w.heap.size _ ds _ F bz x0 (M.bl H) h0 hl L hs);rw[Z]at Q;have HB:=gN H;have a0:(0:Int)<(ds.length:Int):=C;clear M H hX F A L Z x0;go_enter func233,ntmps233;go_wp2;refine Z6 1 ?_;rw[ZZ];go_wp2_with fail;refine gS Q λw2 P=>?_;have V:=gN (HB.H P);clear Q P;go_wp2;go_ret2;exact⟨rfl,V⟩
theorem xQ(v)(r:Rc)(bs os cs)(oX)(w)(hv:sJ w v r.bytes)(L:pq w bs os oX)(hs:oX.length<=1000)(ok:r.Ok oX):iU 246 #[v,gK (some (U bs os)) oX.length cs] w λe w'=>∃g na nc va vc,e=gU (.tuple #[.agg #[I r.kd,gK (some (U g na)) r.ns.length nc,gK va r.val.length vc],.bool true])/\Bl w w'/\w'.ownsRow w.heap.size 3 1 (gK (some (U g na)) r.ns.length nc) r.ns.length (r.ns.map I)/\w'.ownsRow w.heap.size 5 1 (gK va r.val.length vc) r.val.length (r.val.map B8):=by
 obtain⟨b,o,c,rfl,h1,h2,h3,h4⟩:=hv;have M:qG [r]=r.bytes:=by simp[qG]
 have am:=JU ok;have an:=Um r;have bA:=(Bl.refl w).alloc Br;have HS:=gN (M5 (some (U b o)) b o c r.bytes.length bs os cs [r] oX (w.alloc Br) (by rw[M];exact jr) h2 C h3 (λ_=>⟨rfl,ik⟩) (λj d hj hd=>by rw[M]at hd;rw[bA.cell h1];exact h4 j d hd) ⟨af L.1 bA.lt,λj h=>by rw[bA.cell L.1,bA.cell L.1,bA.cell L.1];exact L.2 j h⟩ hs (je ok));obtain⟨HA,hX,P⟩:=iI bA (ao w Br) ok;clear h4 L ok bA;go_enter func246,ntmps246;go_wp2_with fail;refine HS.L ?_;rintro e w1⟨k,rv,xs,rfl,k1,k2,k3,k4,a0⟩;have hk:k=1:=by
  apply bk;intro ap;obtain rfl:k=0:=by simp at k1;omega
  have:=k3 bz;rw[wH]at this;simp at this
 subst hk;have e1:List.take 1 [r]=[r]:=rfl;rw[e1]at k4;obtain⟨nv,n1,Y⟩:=k4.ns 0 bz;obtain⟨vv,v1,v2⟩:=k4.val 0 bz;have a1:=k4.kd 0 bz;simp only[List.getElem_cons_zero,Nat.mul_zero,bP]at n1 Y v1 v2 a1;have F:=k4.ij;obtain⟨gr,cr,ab⟩:∃gr cr,rv=gK (G gr) 1 cr:=by
  obtain⟨_,e'⟩|⟨g,cap,a5,e,_⟩:=F.2
  .simp at e'
  exact⟨g,cap,je e⟩
 subst ab;obtain⟨gn,cn,ac⟩:∃gn cn,nv=gK (G gn) r.ns.length cn:=by
  obtain⟨_,e'⟩|⟨g,cap,a5,e,_⟩:=Y.2
  .have:=P.n0;omega
  exact⟨g,cap,e⟩
 obtain⟨va,vc,a6⟩:=(jD v2).len;rw[ay]at a6;subst ac a6;have d0:=(F.cellAt 0 bz).H a1;have d1:=(F.cellAt 1 bz).H n1;have d2:=(F.cellAt 2 bz).H v1;have a7:gr<w1.heap.size:=(F.lt gr rfl).2;have a2:∀{e:TypeId} {u:Value} {n:Nat} {ys:List Value},w1.ownsRow w.heap.size e 1 u n ys->n=ys.length->Bs w1 u ys:=fun{e u n ys} h hn=>by
  subst hn;obtain⟨e1,e2⟩|⟨g,cap,a5,e1,_⟩:=h.2
  .exact .inl ⟨e1,aW.1 e2⟩
  subst e1;exact .inr ⟨(U g 0),cap,rfl,λj u hj=>by rw[nW,bP,h.cellAt j (gM ((aj.1 hj).1))];exact hj⟩
 have HR:=gN (oU 0 OO 0 [] r.kd _ _ r.ns r.val w1 m7 jR C (a2 (iE Y (by intro g hg;have:=(Y.lt g hg).1;simp at this;omega)) bz) (a2 (iE v2 (by intro g hg;have:=(v2.lt g hg).1;simp at this;omega)) bz) P.k0 P.k1 P.n1 P.v1 (λg e=>pV e) (λg e=>pV e) (λg e=>(Y.lt g e).2) λg e=>(v2.lt g e).2);obtain⟨ad,a3⟩:=gO (HA.H a0) ((a0.heap bz).H hX);have HN:=gN (iE (base':=w.heap.size) Y (by intro g hg;have:=(Y.lt g hg).1;simp at this;omega));have HV:=gN (iE (base':=w.heap.size) v2 (by intro g hg;have:=(v2.lt g hg).1;simp at this;omega));have ag:(j5 r.kd r.ns r.val).length=r.bytes.length:=rfl;clear HS k2 k3 k4 a0 n1 Y v1 v2 a1 F a2 hX HA;go_wp2_with fail;refine HR.L ?_;rintro e w2⟨v',rfl,hG⟩;rw[bP,ag]at hG;obtain⟨ga,gc,rfl⟩:=hG.D;have Q:=hG.only.u9 λk _ e=>pV e;obtain⟨aq,ar,au⟩:=Q.M a7 d0 d1 d2;have al:=af a7 Q.lt;have V:=(Q.heap (ae.1 a3).1).H a3;obtain⟨y0,y1,y2⟩:=sy V 0 1 2 rfl;obtain⟨f0,f1,f2⟩:=Ff V 0 1 2;have av:w.heap.size<w2.heap.size:=(ae.1 V).1;obtain⟨a4,a8⟩:=gO Q V;clear HR hG Q V d0 d1 d2 a3;go_wp2;have Z:=(((gI.refl (λb=>b=w.heap.size) w2).setCell (U w.heap.size 0) (.inl rfl) (I r.kd)).setCell (U w.heap.size 1) (.inl rfl) (gK (G gn) r.ns.length cn)).setCell (U w.heap.size 2) (.inl rfl) (gK va r.val.length vc);have hB:=(ad.H a4).A Z λn e=>C;have a9:=(jY a4).jH HN λ_ _ e=>e;have aa:=(jY a4).jH HV λ_ _ e=>e;have ai:=Z.jH a9 λb hb e=>gW a9 a8 bT (kz hb e);have ak:=Z.jH aa λb hb e=>gW aa a8 bT (kz hb e);exact aG (v:= .tuple #[.agg #[I r.kd,gK (G gn) r.ns.length cn,gK va r.val.length vc],.bool true]) (by simp[results,results246,go_sem,y0,y1,y2]) rfl ⟨gn,0,cn,va,vc,rfl,hB,ai,ak⟩
theorem E9(v)(ds)(bs os cs)(oX)(w)(V:sJ w v ds)(h0:0<ds.length)(hl:ds.length<=1100000000000)(P:∀d∈ds,0<=d/\d<=255)(A:pq w bs os oX)(hs:oX.length<=1000)(Y:(oX.any λs=>rQ s.1 s.2.1 s.2.2 ds)=false):iU 246 #[v,gK (some (U bs os)) oX.length cs] w λe w'=>e=gU (.tuple #[.agg #[I 0,OO,OO],.bool false])/\Bl w w':=by
 have L:=(Bl.refl w).alloc Br;have HS:=gN (Pv v ds bs os cs oX _ (V.bl L) h0 hl P ⟨af A.1 L.lt,λj h=>by rw[L.cell A.1,L.cell A.1,L.cell A.1];exact A.2 j h⟩ hs Y);obtain⟨HA,hX⟩:=gO L (ao w Br);clear V P A Y L;go_enter func246,ntmps246;go_wp2_with fail;refine gS HS λw2 M=>?_;have F:=(M.heap bz).H hX;obtain⟨y0,y1,y2⟩:=sy F 0 1 2 rfl;obtain⟨f0,f1,f2⟩:=Ff F 0 1 2;have a0:w.heap.size<w2.heap.size:=(ae.1 F).1;have Q:=gN (HA.H M);clear HS M hX F HA;go_wp2;have Z:=(((gI.refl (λb=>b=w.heap.size) w2).setCell (U w.heap.size 0) (.inl rfl) (I 0)).setCell (U w.heap.size 1) (.inl rfl) OO).setCell (U w.heap.size 2) (.inl rfl) OO;have hB:=Q.A Z λn e=>C;exact aG (v:= .tuple #[.agg #[I 0,OO,OO],.bool false]) (by simp[results,results246,go_sem,y0,y1,y2]) rfl ⟨rfl,hB⟩
def pG:List (Int×Int×Int):=[(1,7,0),(2,7,8),(3,7,0),(4,7,0),(5,7,0),(6,7,255),(7,7,0)]
theorem wq(w):iU 247 #[] w λe w'=>∃F,e=gU (gK (G F) 7 7)/\Bl w w'/\pq w' F 0 pG:=by
 go_enter func247,ntmps247;go_wp2;go_ret;refine⟨_,rfl,jZ.alloc _,bz,λj h=>?_⟩;have H:j<7:=h;have A:=ao w (ig #[I 1,I 7,I 0,I 2,I 7,I 8,I 3,I 7,I 0,I 4,I 7,I 0,I 5,I 7,I 0,I 6,I 7,I 255,I 7,I 7,I 0] 322);rw[ax _ _ _ _ _ _ A,ax _ _ _ _ _ _ A,ax _ _ _ _ _ _ A]
 match j,H with
 |0,_=>exact⟨rfl,rfl,rfl⟩
 |1,_=>exact⟨rfl,rfl,rfl⟩
 |2,_=>exact⟨rfl,rfl,rfl⟩
 |3,_=>exact⟨rfl,rfl,rfl⟩
 |4,_=>exact⟨rfl,rfl,rfl⟩
 |5,_=>exact⟨rfl,rfl,rfl⟩
 |6,_=>exact⟨rfl,rfl,rfl⟩
def C8{w:World}{base o c:Nat}{x0 x1 x2 j A F H:Int}(h:w.ownsRow base 3 1 (gK (some (U g o)) 7 c) 7 ([x0,x1,x2,j,A,F,H].map I)):o=0/\g<w.heap.size/\w.cell? (U g 0)=some (I x0)/\w.cell? (U g 1)=some (I x1)/\w.cell? (U g 2)=some (I x2)/\w.cell? (U g 3)=some (I j)/\w.cell? (U g 4)=some (I A)/\w.cell? (U g 5)=some (I F)/\w.cell? (U g 6)=some (I H):=by
 obtain⟨e,_⟩|⟨M,cap,L,e,_⟩:=h.2
 .omega
 simp at e;obtain⟨⟨_,rfl,_⟩,_⟩:=e;exact⟨rfl,(h.lt g rfl).2,h.cellAt 0 C,h.cellAt 1 C,h.cellAt 2 C,h.cellAt 3 C,h.cellAt 4 C,h.cellAt 5 C,h.cellAt 6 C⟩
def G8(h:W.heap[g]?=some (ig #[x0,x1,x2] t (0,0))):W.cell? (U g 0)=some x0/\W.cell? (U g 1)=some x1/\W.cell? (U g 2)=some x2/\g<W.heap.size:=
 ⟨ax W g 0 _ t _ h,ax W g 1 _ t (0,0) h,ax W g 2 _ t _ h,(ae.1 h).1⟩
def sj{j:Value}(h:W.heap[g]?=some (ig #[x0,x1,x2,j] t (0,0))):W.cell? (U g 0)=some x0/\W.cell? (U g 1)=some x1/\W.cell? (U g 2)=some x2/\W.cell? (U g 3)=some j/\g<W.heap.size:=
 ⟨ax W g 0 _ t _ h,ax W g 1 _ t (0,0) h,ax W g 2 _ t _ h,ax W g 3 _ t (0,0) h,(ae.1 h).1⟩
def xY{j A F H L M:Value}(h:W.heap[g]?=some (ig #[x0,x1,x2,j,A,F,H,L,M] t (0,0))):(W.cell? (U g 0)=some x0/\W.cell? (U g 1)=some x1/\W.cell? (U g 2)=some x2/\W.cell? (U g 3)=some j/\W.cell? (U g 4)=some A/\W.cell? (U g 5)=some F/\W.cell? (U g 6)=some H/\W.cell? (U g 7)=some L/\W.cell? (U g 8)=some M)/\(∀i,W.frozen? (U g i)=false)/\g<W.heap.size:=
 ⟨⟨ax W g 0 _ t _ h,ax W g 1 _ t (0,0) h,ax W g 2 _ t _ h,ax W g 3 _ t (0,0) h,ax W g 4 _ t _ h,ax W g 5 _ t (0,0) h,ax W g 6 _ t _ h,ax W g 7 _ t (0,0) h,ax W g 8 _ t _ h⟩,λi=>aP W g i _ t h,(ae.1 h).1⟩
abbrev Mr(kd ln nr ep pl ck cl ca:Int)(v:Value):Value:= .agg #[I kd,I ln,I nr,I ep,I pl,I ck,I cl,I ca,v]
theorem I6(ln)(w):Calls prog 248 #[I ln] w λe w'=>e=gU (.bool (decide (0<=ln)&&decide (ln<10)))/\w'=w:=by
 by_cases h:0<=ln
 .have j:decide (0<=ln)=true:=by simpa using h
  go_wp2;go_ret;exact⟨mZ h,rfl⟩
 have j:decide (0<=ln)=false:=by simpa using h
 go_enter func248,ntmps248;go_wp2;go_ret;exact⟨bz,rfl⟩
theorem yZ(v)(kd ln nr ep pl ck cl ca)(val)(w)(hv:sJ w v (j5 kd [ln,nr,ep,pl,ck,cl,ca] val))(ad:0<=ln/\ln<10)(ok:Rc.Ok pG ⟨kd,[ln,nr,ep,pl,ck,cl,ca],val⟩):iU 211 #[v] w λe w'=>∃j A,e=gU (.tuple #[.agg #[I kd,I ln,I nr,I ep,I pl,I ck,I cl,I ca,gK j val.length A],.bool true])/\Bl w w'/\w'.ownsRow w.heap.size 5 1 (gK j val.length A) val.length (val.map B8):=by
 have bA:=(Bl.refl w).alloc (ig QD 100);obtain⟨hX,HS,HA⟩:=iI (ao w (ig QD 100)) (wq (w.alloc (ig QD 100))) bA;obtain⟨Hv,ag⟩:=gO hv ok;clear hv bA ok;go_enter func211,ntmps211;go_wp2_with fail;refine HS.L ?_;rintro e w1⟨bs,rfl,L,a3⟩;obtain⟨HW,a4,M⟩:=iI (xQ v ⟨kd,[ln,nr,ep,pl,ck,cl,ca],val⟩ bs 0 7 pG w1 (Hv.bl (HA.H L)) a3 bT ag) (HA.H L) ((L.heap bz).H hX);clear HS L a3 hX HA;go_wp2_with fail;refine HW.L ?_;rintro e w2⟨g,na,nc,j,A,rfl,V,Y,a5⟩;obtain⟨rfl,lg,n0,n1,n2,n3,n4,n5,n6⟩:=C8 Y;have ng:¬w.heap.size=g:=by have:=(Y.lt g rfl).1;have:=(ae.1 M).1;omega
 have a6:=gN (a4.H V);have a0:=(V.heap (ae.1 M).1).H M;have lx:=(ae.1 a0).1;obtain⟨a7,ai⟩:=gO a5 a4.lt;have aq:¬w.heap.size=w2.heap.size:=C;clear HW V Y a5 M;obtain⟨W3,a1⟩:=gG (w2.alloc (ig #[I kd,gK (G g) 7 nc,gK j val.length A] 320));have Q:=(Bl.refl w2).alloc (ig #[I kd,gK (G g) 7 nc,gK j val.length A] 320);have hR:=ao w2 (ig #[I kd,gK (G g) 7 nc,gK j val.length A] 320);rw[a1]at Q hR;have P:=gN ((Q.heap lx).H a0);obtain⟨r0,r1,r2,lr⟩:=G8 hR;obtain⟨m0,m1,m2,m3⟩:=Q.N lg n0 n1 n2 n3;obtain⟨m4,m5,m6⟩:=Q.M lg n4 n5 n6;have a8:=af lg Q.lt;obtain⟨ak,a9,aa,ar⟩:=kN (a6.H Q) ((jY Q).jH a7 λ_ _ e=>e) a1 hR;clear a0 a1 Q a6 a7 n0 n1 n2 n3 n4 n5 n6 hR;have HL:=gN (I6 ln);have al:(decide (0<=ln)&&decide (ln<10))=true:=mZ ad;rw[al]at HL;go_upto_region 2 with fail;rw[aa.o];clear aa;generalize w2.heap.size=gr at*;go_upto_region 5 with(go_at_call 248;refine gS (HL _) λw' ab=>?_;have am:=ab.symm;clear ab;subst am);go_cut[7]from 27 to 38 λx wx=>∃gc,x= O gc/\Hid (wx.heap[gc]?=some (ig (rH ck cl ca j val A) 91 (0,0))/\W3.heap.size<=gc)/\Hid (Bl W3 wx)
 case first=>
  go_region_held3(λW=>W.cell? (U g 4)=some (I ck)/\W.cell? (U g 5)=some (I cl)/\W.cell? (U g 6)=some (I ca)/\W.cell? (U gr 2)=some (mP j val A)) (go_keep) (fail);all_goals(go_wp2_with fail;go_meet)
  all_goals exact⟨_,rfl,⟨ao W3 _,jr⟩,by first|exact(jZ.alloc _).drewN _|exact(jZ.alloc _).drew|exact jZ.alloc _⟩
 case rest=>
  obtain⟨gc,rfl,HC,h⟩:=hcut;obtain⟨k0,k1,k2,k3,au⟩:=sj HC.1;have a2:=(h.heap (ae.1 P).1).H P;obtain⟨⟨x0,x1,x2,x3,x4,x5,x6,x7,x8⟩,F,lX⟩:=xY a2;have f0:=F 0;have f1:=F 1;have f2:=F 2;have f3:=F 3;have f4:=F 4;have f5:=F 5;have f6:=F 6;have f7:=F 7;have f8:=F 8;obtain⟨p0,p1,p2,p3⟩:=h.N a8 m0 m1 m2 m3;have s0:=(h.cell lr).H r0;have av:=af a8 h.lt;have aw:=af lr h.lt;have an:=gN a2;have aY:¬w.heap.size=gc:=by have:=HC.2;have:=(ae.1 P).1;omega
  obtain⟨ac,ap⟩:=gO ((jY h).jH a9 λ_ _ e=>e) (ak.H h);clear F m0 m1 m2 m3 m4 m5 m6 r0 r1 r2 a2 a9 P;go_upto_region 6 with fail;go_region_held3(λW=>W.cell? (U g 0)=some (I ln)/\W.cell? (U g 1)=some (I nr)/\W.cell? (U g 2)=some (I ep)/\W.cell? (U g 3)=some (I pl)/\W.cell? (U gr 0)=some (I kd)/\W.cell? (U gc 0)=some (I ck)/\W.cell? (U gc 1)=some (I cl)/\W.cell? (U gc 2)=some (I ca)/\W.cell? (U gc 3)=some (mP j val A)) (go_keep) (fail);all_goals
   go_wp2;have Z:=(((((((((gI.refl (λb=>b=w.heap.size) wc).setCell (U w.heap.size 0) (.inl rfl) (I kd)).setCell (U w.heap.size 1) (.inl rfl) (I ln)).setCell (U w.heap.size 2) (.inl rfl) (I nr)).setCell (U w.heap.size 3) (.inl rfl) (I ep)).setCell (U w.heap.size 4) (.inl rfl) (I pl)).setCell (U w.heap.size 5) (.inl rfl) (I ck)).setCell (U w.heap.size 6) (.inl rfl) (I cl)).setCell (U w.heap.size 7) (.inl rfl) (I ca)).setCell (U w.heap.size 8) (.inl rfl) (mP j val A);have hB:=ap.A Z λn e=>C;have hV:=Z.jH ac λb hb e=>gW ac an bT (kz hb e);refine aG (v:= .tuple #[.agg #[I kd,I ln,I nr,I ep,I pl,I ck,I cl,I ca,gK j val.length A],.bool true]) (by simp[results,results211,go_sem,x0,x1,x2,x3,x4,x5,x6,x7,x8]) rfl ⟨j,A,rfl,hB.drew,iE ((jY jZ.drew).jH hV λ_ _ e=>e) λb hb=>?_⟩;have h1:=(hV.lt b hb).1;have h2:=ai.o;omega
end Go.Proofs.YtbghhbpacijmmaaGreat
